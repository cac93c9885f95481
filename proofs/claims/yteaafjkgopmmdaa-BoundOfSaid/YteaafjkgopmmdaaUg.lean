import Derived.Test.YteaafjkgopmmdaaUf
import Derived.Test.YteaafjkgopmmdaaSe
import Derived.Deep.LoopGhost
import Derived.IntWalk
namespace Go.Proofs.Yteaafjkgopmmdaa
open Go Go.RowKit Go.Sort
set_option linter.unusedVariables false

def idsL (L : List Sp) : List Int := L.map (·.id)
def parsL (L : List Sp) : List Int := L.map (·.parent)
/-- Of each span its parent's place. -/
def parL (L : List Sp) : List Int := parP (idsL L) (parsL L)
theorem parL_length (L : List Sp) : (parL L).length = L.length := by simp [parL, parP, parsL]
theorem parL_valid (L : List Sp) : ValidP (parL L) := parP_valid (by simp [idsL, parsL])
theorem parL_get {L : List Sp} {n : Nat} (h : n < L.length) (h' : n < (parL L).length) : (parL L)[n] = if (L[n]).parent = 0 then -1 else firstAt (idsL L) (L[n]).parent 0 := by
  simp [parL, parP, parsL]
theorem firstAt_step {L : List Sp} {k : Nat} (h : k < L.length) (x : Int) : firstAt ((idsL L).drop k) x k = if (L[k]).id = x then (k : Int) else firstAt ((idsL L).drop (k + 1)) x (k + 1) := by
  rw [List.drop_eq_getElem_cons (by simpa [idsL] using h)]
  simp [firstAt, idsL]
theorem info_int : (Try.prog.info? 3).map (fun i => (i.zero, i.size, i.bytes)) = some (some (.int .i64 0), 1, 8) := by kernel_rfl

set_option maxHeartbeats 4000000 in
theorem refOf10_any (a : Option Addr) (c : Nat) (L : List Sp) (w : World) (ha : Rd w w.heap.size a (flatL L)) (hl : L.length ≤ 100000) :
    Calls Try.prog 10 #[.slice a L.length c] w fun e w' => ∃ v, e = .returned v ∧ w'.ownsRow w.heap.size 3 1 v L.length (intV (cutP (parL L))) ∧ Below w.heap.size w w' := by
  obtain ⟨i0, hi0, hz0, hz1, hz2⟩ := info_parts info_int
  have HZ2 := Lib.hid hz2; clear hz2
  have HA := Lib.hid ha; clear ha
  have HV := Lib.hid (parL_valid L)
  have HPL := Lib.hid (parL_length L)
  go_enter Try.func10, Try.ntmps10
  go_wp2_with fail
  go_loopw [3, 4] (fun v i wr => ∃ (n : Nat) (v' : Value), n ≤ L.length ∧ i = .int .i64 n ∧ v' = v ∧ wr.ownsRow w.heap.size 3 1 v' n (intV ((parL L).take n)) ∧ Below w.heap.size w wr) (fun _ i _ => L.length - (intOf i).toNat)
  case atStart =>
    exact ⟨0, _, Nat.zero_le _, rfl, rfl, World.ownsRow_made w #[] 0 (Nat.le_refl _) (by decide) rfl, box1 _ _⟩
  case round =>
    obtain ⟨n, v, hn, rfl, hv, hown, hb⟩ := hrel
    subst hv
    obtain ⟨va, vc, rfl, hvc1, hvc2, hvs⟩ := own_slice hown
    clear hvs
    have HO := Lib.hid hown; have HB := Lib.hid hb; clear hown hb
    generalize wr = W1 at *
    by_cases hlt : n < L.length
    · have hnP : n < (parL L).length := by rw [HPL.out]; exact hlt
      have HTK : Hid (intV ((parL L).take (n + 1)) = intV ((parL L).take n) ++ [.int .i64 (parL L)[n]]) := by
        show _ = _; rw [List.take_succ_eq_append_getElem hnP, intV_append]; rfl
      have HGT := Lib.hid (parL_get hlt hnP)
      have i3 : (n : Int) < (L.length : Int) := by omega
      have i4 : (0 : Int) ≤ (n : Int) := by omega
      have i5 : IntKind.i64.wrap ((L.length : Int) - 1) = (L.length : Int) - 1 := IntWalk.i64_in _ (by omega)
      obtain ⟨x, hx⟩ : ∃ x, x = (L[n]).parent := ⟨_, rfl⟩
      have HX := Lib.hid hx
      rw [← hx] at HGT
      clear hx
      go_wp2_with fail
      go_loopw [5, 6] (fun p k wr2 => ∃ kn : Nat, kn ≤ L.length ∧ k = .int .i64 ((kn : Int) - 1) ∧ p = .int .i64 (if x = 0 then -1 else firstAt ((idsL L).drop kn) x kn) ∧ RowKit.Below W1.heap.size W1 wr2) (fun _ k _ => ((intOf k) + 1).toNat)
      case atStart => exact ⟨L.length, Nat.le_refl _, rfl, by rw [List.drop_of_length_le (by simp [idsL])]; simp [firstAt], RowKit.Below.refl _ _⟩
      case round =>
        obtain ⟨kn, hkn, rfl, rfl, hb2⟩ := hrel
        have HB2 := Lib.hid hb2; clear hb2
        generalize wr = W2 at *
        by_cases hk0 : 0 < kn
        · obtain ⟨kk, rfl⟩ : ∃ kk, kn = kk + 1 := ⟨kn - 1, by omega⟩
          have hkl : kk < L.length := by omega
          have e1 : ((kk + 1 : Nat) : Int) - 1 = (kk : Int) := by omega
          rw [e1]
          obtain ⟨b1, o1, ha1, _, e0, e1, e2, e3, e4, e5, e6, e7⟩ := ((HA.out.below HB.out).below (HB2.out.mono HB.out.size)).elem hkl
          obtain ⟨b2, o2, hb1, _, f0, f1, f2, f3, f4, f5, f6, f7⟩ := ((HA.out.below HB.out).below (HB2.out.mono HB.out.size)).elem hlt
          subst ha1
          (injection hb1 with hb1; injection hb1 with hy1 hy2; subst hy1 hy2)
          rw [← HX.out] at f2
          have HST := Lib.hid (firstAt_step hkl x)
          generalize (L[kk]).id = y at *
          have j1 : (0 : Int) ≤ (kk : Int) := by omega
          have j2 : (kk : Int) < (L.length : Int) := by omega
          have j5 : IntKind.i64.wrap ((kk : Int) - 1) = (kk : Int) - 1 := IntWalk.i64_in _ (by omega)
          clear e0 e2 e3 e4 e5 e6 e7 f0 f1 f3 f4 f5 f6 f7
          by_cases hx0 : x = 0
          · have q1 : (x != 0) = false := by simp [hx0]
            have HP : Hid ((if x = 0 then (-1 : Int) else firstAt ((idsL L).drop (kk + 1)) x (kk + 1)) = if x = 0 then -1 else firstAt ((idsL L).drop kk) x kk) := by show _ = _; rw [if_pos hx0, if_pos hx0]
            clear hx0
            rw [HP.out]
            generalize hpp : (if x = 0 then (-1 : Int) else firstAt ((idsL L).drop kk) x kk) = pp at *
            have HPP := Lib.hid hpp; clear hpp
            go_wp2_with fail
            go_quiet (fail)
            go_wp2_with fail
            go_roundw
            case rel => exact ⟨kk, by omega, by go_num, by rw [HPP.out], Below_drewN HB2.out _⟩
            case measure => first | (simp [intOf]; done) | (simp [intOf]; omega)
          · have q1 : (x != 0) = true := by simpa using hx0
            by_cases hyx : y = x
            · have q2 : (y == x) = true := by simpa using hyx
              have HP : Hid ((if x = 0 then (-1 : Int) else firstAt ((idsL L).drop kk) x kk) = (kk : Int)) := by show _ = _; rw [if_neg hx0, HST.out, if_pos hyx]
              clear hx0 hyx
              generalize (if x = 0 then (-1 : Int) else firstAt ((idsL L).drop (kk + 1)) x (kk + 1)) = pp at *
              go_wp2_with fail
              go_quiet (fail)
              go_wp2_with fail
              go_roundw
              case rel => exact ⟨kk, by omega, by go_num, by rw [HP.out], Below_drewN HB2.out _⟩
              case measure => first | (simp [intOf]; done) | (simp [intOf]; omega)
            · have q2 : (y == x) = false := by simpa using hyx
              have HP : Hid ((if x = 0 then (-1 : Int) else firstAt ((idsL L).drop (kk + 1)) x (kk + 1)) = if x = 0 then -1 else firstAt ((idsL L).drop kk) x kk) := by show _ = _; rw [if_neg hx0, if_neg hx0, HST.out, if_neg hyx]
              clear hx0 hyx
              rw [HP.out]
              generalize hpp : (if x = 0 then (-1 : Int) else firstAt ((idsL L).drop kk) x kk) = pp at *
              have HPP := Lib.hid hpp; clear hpp
              go_wp2_with fail
              go_quiet (fail)
              go_wp2_with fail
              go_roundw
              case rel => exact ⟨kk, by omega, by go_num, by rw [HPP.out], Below_drewN HB2.out _⟩
              case measure => first | (simp [intOf]; done) | (simp [intOf]; omega)
        · obtain rfl : kn = 0 := by omega
          rw [List.drop_zero, ← HGT.out]
          have HO2 := Lib.hid (own_below HO.out HB2.out); have HBB := Lib.hid (bel2 HB.out HB2.out)
          generalize (parL L)[n] = pp at *
          go_wp2_with (at_builtin
                       refine wpList_append_rd _ rfl (.tmp 45) (.tmp 47) 27 rfl w.heap.size 3 i0 _ 1 8 Try.underlying27 hi0 hz0 hz1 HZ2.out rfl (by omega) (.slice va n vc) n _ rfl (own_below HO2.out (box1 _ _)) _ _ 1 1 [.int .i64 pp] rfl rfl (lit_rd W2 #[.int .i64 pp] _) (by intro u hu; obtain rfl := List.mem_singleton.1 hu; rfl) (by unfold maxLen; omega) (by omega) (by have := HBB.out.size; simp; omega) ?_
                       intro v4 w4 hown4 hg4 _
                       have HO4 := Lib.hid hown4; have HG4 := Lib.hid hg4; clear hown4 hg4)
          go_roundw
          case rel => exact ⟨n + 1, _, by omega, by go_num, rfl, by rw [HTK.out]; exact HO4.out, (HBB.out.alloc HBB.out.size _).grown HG4.out (by have := HBB.out.size; simp; omega) (fun g hg => (own_shape HO2.out hg).1)⟩
          case measure => simp [intOf]; omega
    · obtain rfl : n = L.length := by omega
      rw [List.take_of_length_le (by rw [HPL.out]; exact Nat.le_refl _)] at HO
      obtain ⟨P, hP⟩ : ∃ P, P = parL L := ⟨_, rfl⟩
      have HPE := Lib.hid hP
      rw [← hP] at HO HV HPL
      clear hP hn hlt
      go_wp2_with fail
      go_loopw [7, 8] (fun v i wr => ∃ (k : Nat) (v' : Value), k ≤ L.length ∧ i = .int .i64 k ∧ v' = v ∧ wr.ownsRow W1.heap.size 3 1 v' k (intV ((cutP P).take k)) ∧ Below W1.heap.size W1 wr) (fun _ i _ => L.length - (intOf i).toNat)
      case atStart =>
        exact ⟨0, _, Nat.zero_le _, rfl, rfl, World.ownsRow_made W1 #[] 0 (Nat.le_refl _) (by decide) rfl, box1 _ _⟩
      case round =>
        obtain ⟨k, v4, hk, rfl, hv4, hown4, hb4⟩ := hrel
        subst hv4
        obtain ⟨va4, vc4, rfl, _, _, _⟩ := own_slice hown4
        have HO4 := Lib.hid hown4; have HB4 := Lib.hid hb4; clear hown4 hb4
        generalize wr = W4 at *
        by_cases hlt : k < L.length
        · have hkP : k < P.length := by rw [HPL.out]; exact hlt
          have HTK : Hid (intV ((cutP P).take (k + 1)) = intV ((cutP P).take k) ++ [.int .i64 ((cutP P).getD k (-1))]) := by
            show _ = _
            have hkc : k < (cutP P).length := by rw [cutP_length]; exact hkP
            rw [List.take_succ_eq_append_getElem hkc, intV_append]
            simp [intV, List.getD, hkc]
          have HCG := Lib.hid (cutP_get hkP)
          obtain ⟨r, hr⟩ : ∃ r, onL P (k : Int) = true → 1 ≤ r ∧ r ≤ P.length ∧ upL P r k = k ∧ ∀ j, 1 ≤ j → j < r → upL P j k ≠ k := by
            cases ho : onL P (k : Int) with
            | false => exact ⟨0, fun h => by cases h⟩
            | true => obtain ⟨r, h⟩ := first_back ho; exact ⟨r, fun _ => h⟩
          have HR := Lib.hid hr; clear hr
          have i3 : (k : Int) < (L.length : Int) := by omega
          have i4 : (0 : Int) ≤ (k : Int) := by omega
          have hon := refOn_any va vc P k W4 HV.out ((Rd.own HO.out).below HB4.out |>.more HB4.out.size) (by rw [HPL.out]; omega) (by omega) (by omega)
          rw [HPL.out] at hon
          have HON := Lib.hid hon; clear hon
          obtain ⟨bo, hbo⟩ : ∃ bo, bo = onL P (k : Int) := ⟨_, rfl⟩
          have HBO := Lib.hid hbo
          rw [← hbo] at HON
          clear hbo
          go_wp2_with (go_at_call 20
                       refine HON.out.mono ?_
                       rintro e W5 ⟨rfl, hb5⟩
                       have HO5 := Lib.hid (own_below HO4.out hb5); have HB5 := Lib.hid (bel2 HB4.out hb5); clear hb5)
          go_loopg [9, 10] r (fun kx s9 s10 wr => ∃ (b : Bool) (m : Nat) (y : Int), s9 = .bool b ∧ s10 = .int .i64 y ∧ wr = W5 ∧ (b = false → leastL P k = false) ∧ (b = true → onL P (k : Int) = true ∧ y = upL P m k ∧ m < r ∧ r - m ≤ kx ∧ ∀ j, j ≤ m → (k : Int) ≤ upL P j k))
          case atStart =>
            refine ⟨bo, 0, k, rfl, rfl, rfl, fun h => leastL_off (by rw [← HBO.out]; exact h), fun h => ?_⟩
            have h1 : onL P (k : Int) = true := by rw [← HBO.out]; exact h
            exact ⟨h1, rfl, (HR.out h1).1, by omega, fun j hj => by rw [show j = 0 by omega]; exact Int.le_refl _⟩
          case round =>
            obtain ⟨b, m, y, rfl, rfl, hw5, hb0, hb1⟩ := hrel
            subst hw5
            cases b with
            | false =>
              have HCV : Hid ((cutP P).getD k (-1) = P[k]) := by
                show _ = _
                rw [HCG.out, hb0 rfl]
                simp [List.getD, hkP]
              obtain ⟨b1, o1, ha1, _, c0⟩ := ((Rd.own HO.out).below HB5.out).num hkP
              subst ha1
              generalize P[k] = pk at *
              clear hb0 hb1
              go_wp2_with (at_builtin
                           refine wpList_append_rd _ rfl (.tmp 80) (.tmp 85) 27 rfl W1.heap.size 3 i0 _ 1 8 Try.underlying27 hi0 hz0 hz1 HZ2.out rfl (by omega) (.slice va4 k vc4) k _ rfl (own_below HO5.out (box1 _ _)) _ _ 1 1 [.int .i64 pk] rfl rfl (lit_rd wr #[.int .i64 pk] _) (by intro u hu; obtain rfl := List.mem_singleton.1 hu; rfl) (by unfold maxLen; omega) (by omega) (by have := HB5.out.size; simp; omega) ?_
                           intro v6 w6 hown6 hg6 _
                           have HO6 := Lib.hid hown6; have HG6 := Lib.hid hg6; clear hown6 hg6)
              go_roundw
              case rel => exact ⟨k + 1, _, by omega, by go_num, rfl, by rw [HTK.out, HCV.out]; exact HO6.out, (HB5.out.alloc HB5.out.size _).grown HG6.out (by have := HB5.out.size; simp; omega) (fun g hg => (own_shape HO5.out hg).1)⟩
              case measure => simp [intOf]; omega
            | true =>
              obtain ⟨hon1, hy, hmr, hmk, hall⟩ := hb1 rfl
              obtain ⟨r1, r2, r3, r4⟩ := HR.out hon1
              have hy0 : 0 ≤ y := by rw [hy]; exact back_pos (by omega) r3 (by omega)
              have hyl : y < P.length := by rw [hy]; exact (upL_range HV.out m k (by omega) (by omega)).2
              have hyn : y.toNat < P.length := by omega
              have HNX : Hid (P[y.toNat] = upL P (m + 1) k) := by
                show _ = _
                rw [upL_next, ← hy, upL_one hy0]; simp [List.getD, hyn]
              obtain ⟨b1, o1, ha1, _, c0⟩ := ((Rd.own HO.out).below HB5.out).num hyn
              subst ha1
              have hyL : y < (L.length : Int) := by have := HPL.out; omega
              have HALL := Lib.hid hall; have HMK := Lib.hid hmk; have HR4 := Lib.hid r4; have HON1 := Lib.hid hon1
              generalize P[y.toNat] = z at *
              clear hb0 hb1 hy hall hmk r4 hon1
              by_cases hz : z = (k : Int)
              · have hm1 : m + 1 = r := by
                  rcases Nat.lt_or_ge (m + 1) r with h | h
                  · exact absurd (HNX.out.symm.trans hz) (HR4.out (m + 1) (by omega) h)
                  · omega
                have HLE : Hid (leastL P k = true) := leastL_round r1 r2 r3 fun j hj => HALL.out j (by omega)
                have HCV : Hid ((cutP P).getD k (-1) = -1) := by show _ = _; rw [HCG.out, HLE.out]; rfl
                have hq1 : (z != (k : Int)) = false := by simpa using hz
                have hq2 : (z == (k : Int)) = true := by simpa using hz
                clear hz hm1
                go_wp2_with (at_builtin
                             refine wpList_append_rd _ rfl (.tmp 77) (.tmp 78) 27 rfl W1.heap.size 3 i0 _ 1 8 Try.underlying27 hi0 hz0 hz1 HZ2.out rfl (by omega) (.slice va4 k vc4) k _ rfl (own_below HO5.out (box1 _ _)) _ _ 1 1 [.int .i64 (-1)] rfl rfl (lit_rd wr #[.int .i64 (-1)] _) (by intro u hu; obtain rfl := List.mem_singleton.1 hu; rfl) (by unfold maxLen; omega) (by omega) (by have := HB5.out.size; simp; omega) ?_
                             intro v6 w6 hown6 hg6 _
                             have HO6 := Lib.hid hown6; have HG6 := Lib.hid hg6; clear hown6 hg6)
                go_roundw
                case rel => exact ⟨k + 1, _, by omega, by go_num, rfl, by rw [HTK.out, HCV.out]; exact HO6.out, (HB5.out.alloc HB5.out.size _).grown HG6.out (by have := HB5.out.size; simp; omega) (fun g hg => (own_shape HO5.out hg).1)⟩
                case measure => simp [intOf]; omega
              · have hq1 : (z != (k : Int)) = true := by simpa using hz
                have hq2 : (z == (k : Int)) = false := by simpa using hz
                have hm1 : m + 1 < r := by
                  rcases Nat.lt_or_ge (m + 1) r with h | h
                  · exact h
                  · exfalso
                    have e : m + 1 = r := by omega
                    rw [e, r3] at HNX
                    exact hz HNX.out
                by_cases hzk : z < (k : Int)
                · have HNO : Hid (leastL P k = false) := leastL_no (m := m + 1) (by omega) (by rw [← HNX.out]; exact hzk)
                  clear hz
                  go_wp2_with fail
                  go_roundg 0
                  case measure => have := HMK.out; omega
                  case rel => exact ⟨false, m, z, rfl, rfl, rfl, fun _ => HNO.out, fun h => by cases h⟩
                · clear hz
                  go_wp2_with fail
                  go_roundg (r - (m + 1))
                  case measure => have := HMK.out; omega
                  case rel =>
                    refine ⟨true, m + 1, z, rfl, rfl, rfl, (fun h => by cases h), fun _ => ⟨HON1.out, HNX.out, hm1, Nat.le_refl _, fun j hj => ?_⟩⟩
                    by_cases e : j = m + 1
                    · subst e; rw [← HNX.out]; omega
                    · exact HALL.out j (by omega)
        · obtain rfl : k = L.length := by omega
          have HOF := HO4.out
          rw [List.take_of_length_le (by rw [cutP_length, HPL.out]; exact Nat.le_refl _)] at HOF
          have HOFF := Lib.hid HOF; clear HOF
          go_wp2_with fail
          go_ret
          exact ⟨_, rfl, by rw [← HPE.out]; exact own_base HOFF.out HB.out.size, bel2 HB.out HB4.out⟩
end Go.Proofs.Yteaafjkgopmmdaa

