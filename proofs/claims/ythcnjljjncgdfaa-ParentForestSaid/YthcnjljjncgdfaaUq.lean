import Derived.Test.YthcnjljjncgdfaaUp
import Derived.Test.YthcnjljjncgdfaaUi
namespace Go.Proofs.Ythcnjljjncgdfaa
open Go Go.RowKit Go.Sort Go.Maps
set_option linter.unusedVariables false

/-! The law ParentForest. -/
theorem cut_span {L : List Sp} {i : Nat} (hi : i < L.length) (hq : i < (cutP (parL L)).length) :
    (-1 ≤ (cutP (parL L))[i] ∧ (cutP (parL L))[i] < L.length) ∧ (∀ k : Nat, (cutP (parL L))[i] = (k : Int) → ∃ h : k < L.length, (L[k]).id = (L[i]).parent) ∧
      ((cutP (parL L))[i] = -1 → (L[i]).parent ≠ 0 → (∃ j, ∃ h : j < L.length, (L[j]).id = (L[i]).parent) → onL (parL L) (i : Int) = true) := by
  have hp : i < (parsL L).length := by simpa [parsL] using hi
  obtain ⟨h1, h2, h3⟩ := cut_tells (ids := idsL L) (pars := parsL L) (by simp [idsL, parsL]) hp
  have e : (cutP (parP (idsL L) (parsL L))).getD i (-1) = (cutP (parL L))[i] := by
    show (cutP (parL L)).getD i (-1) = _
    simp [List.getD, hq]
  have ep : (parsL L)[i] = (L[i]).parent := by simp [parsL]
  rw [e] at h1 h2 h3
  rw [ep] at h3
  rw [ep] at h2
  refine ⟨⟨h1.1, by have := h1.2; simpa [parsL] using this⟩, fun k hk => ?_, fun a b ⟨j, hj, ej⟩ => h3 a b ?_⟩
  · obtain ⟨h, e2⟩ := h2 k hk
    have hk' : k < L.length := by simpa [idsL] using h
    exact ⟨hk', by rw [← e2]; simp [idsL]⟩
  · rw [← ej]
    exact List.mem_map.2 ⟨L[j], List.getElem_mem hj, rfl⟩
/-- Is there such an ID among the first ones? -/
def thereL (L : List Sp) (x : Int) (n : Nat) : Bool := (L.take n).any fun s => s.id == x
theorem there_step {L : List Sp} {n : Nat} (h : n < L.length) (x : Int) : thereL L x (n + 1) = (thereL L x n || (L[n]).id == x) := by
  unfold thereL
  rw [List.take_succ_eq_append_getElem h, List.any_append]
  simp
theorem there_all {L : List Sp} {x : Int} (h : thereL L x L.length = true) : ∃ j, ∃ h : j < L.length, (L[j]).id = x := by
  unfold thereL at h
  rw [List.take_length, List.any_eq_true] at h
  obtain ⟨s, hs, e⟩ := h
  obtain ⟨j, hj, rfl⟩ := List.mem_iff_getElem.1 hs
  exact ⟨j, hj, by simpa using e⟩
set_option maxHeartbeats 8000000 in
set_option maxRecDepth 20000 in
theorem law_forest10 (hof : OfPays) (hrt : RightPays) (a : Option Addr) (c : Nat) (L : List Sp) (w : World) (ha : Rd w w.heap.size a (flatL L)) (hc1 : L.length ≤ maxLen) (hok : ∀ s ∈ L, s.Ok) :
    Calls Try.prog 5 #[.slice a L.length c] w fun e w' => e = .returned (.bool true) ∧ Below w.heap.size w w' := by
  have HOF := Lib.hid hof; have HRT := Lib.hid hrt; have HA := Lib.hid ha; have HOK := Lib.hid hok; clear hof hrt ha hok
  unfold maxLen at hc1
  by_cases hg : 60 < L.length
  · go_enter Try.func5, Try.ntmps5
    go_wp2_with (go_at_call 7; refine (fixed10_any HOF.out _).mono ?_; rintro e w2 ⟨rfl, hb2⟩)
    go_ret
    exact ⟨rfl, hb2⟩
  have HRC : Hid (rightL (cutP (parL L)) = true) := rightL_cut (parL_valid L)
  have HCV := Lib.hid (cutP_valid (parL_valid L))
  have HCL := Lib.hid (cut_len L)
  have HCS := Lib.hid (fun i hi hq => cut_span (L := L) (i := i) hi hq)
  obtain ⟨Q, hQ⟩ : ∃ Q, Q = cutP (parL L) := ⟨_, rfl⟩
  go_enter Try.func5, Try.ntmps5
  go_wp2_with (first
    | (go_at_call 9
       refine (HOF.out a c L w HA.out (by omega) HOK.out).mono ?_; rintro e w3 ⟨v3, rfl, hown3, hb3⟩
       rw [← hQ] at hown3 HRC HCV HCL HCS
       obtain ⟨a3, c3, rfl, _, _, _⟩ := own_slice hown3
       have HO3 := Lib.hid hown3; have HB3 := Lib.hid hb3; clear hown3 hb3 hQ
       have hr := HRT.out a3 c3 Q w3 (Rd.own HO3.out) (by rw [HCL.out]; omega) (fun x hx => by have := HCV.out x hx; rw [HCL.out] at this; omega)
       rw [HRC.out, HCL.out] at hr
       have HR := Lib.hid hr; clear hr)
    | (go_at_call 11
       refine HR.out.mono ?_; rintro e w4 ⟨rfl, hb4⟩
       have HO4 := Lib.hid (own_below HO3.out hb4); have HB4 := Lib.hid (bel2 HB3.out hb4); clear hb4))
  go_loopw [27] (fun i wr => ∃ n : Nat, n ≤ L.length ∧ i = .int .i64 n ∧ Below w4.heap.size w4 wr) (fun i _ => L.length - (intOf i).toNat)
  case atStart => exact ⟨0, Nat.zero_le _, rfl, Below.refl _ _⟩
  case round =>
    obtain ⟨n, hn, rfl, hb⟩ := hrel
    have HB := Lib.hid hb; clear hb
    generalize wr = W1 at *
    by_cases hlt : n < L.length
    · have hnq : n < Q.length := by rw [HCL.out]; exact hlt
      obtain ⟨⟨k1, k2⟩, k3, k4⟩ := HCS.out n hlt hnq
      have HA1 := Lib.hid (HA.out.below (bel2 HB4.out HB.out))
      obtain ⟨b3, o3, ha3, _, q0⟩ := (Rd.own (own_below HO4.out HB.out)).num hnq
      subst ha3
      obtain ⟨b1, o1, ha1, _, e0, e1, e2, e3, e4, e5, e6, e7⟩ := HA1.out.elem hlt
      subst ha1
      have i3 : (n : Int) < (L.length : Int) := by omega
      have i4 : (0 : Int) ≤ (n : Int) := by omega
      generalize Q[n] = k at *
      have d1 : decide (k < -1) = false := decide_eq_false (by omega)
      have d2 : decide ((L.length : Int) ≤ k) = false := decide_eq_false (by omega)
      clear e0 e1 e3 e4 e5 e6 e7
      by_cases hk : 0 ≤ k
      · obtain ⟨kk, rfl⟩ : ∃ kk : Nat, k = (kk : Int) := ⟨k.toNat, by omega⟩
        obtain ⟨hkl, hid⟩ := k3 kk rfl
        obtain ⟨b2, o2, hb1, _, f0, f1, f2, f3, f4, f5, f6, f7⟩ := HA1.out.elem hkl
        obtain ⟨rfl, rfl⟩ := And.intro (Addr.mk.inj (Option.some.inj hb1)).1 (Addr.mk.inj (Option.some.inj hb1)).2.1
        rw [hid] at f1
        generalize (L[n]).parent = x at *
        have d3 : decide (0 ≤ (kk : Int)) = true := decide_eq_true hk
        have q1 : (x != x) = false := by simp
        have q2 : (x == x) = true := by simp
        clear f0 f2 f3 f4 f5 f6 f7 hid k3 k4 hb1
        go_wp2_with fail
        go_quiet (fail)
        go_wp2_with fail
        go_roundw
        case rel => exact ⟨n + 1, by omega, by go_num, Below_drewN HB.out _⟩
        case measure => simp [intOf]; omega
      · have d3 : decide (0 ≤ k) = false := decide_eq_false hk
        have hk1 : k = -1 := by omega
        have K4 := Lib.hid (k4 hk1)
        subst hk1
        clear hk k1 k2
        have HTH := Lib.hid (fun j (h : j < L.length) => there_step h (L[n]).parent)
        have HTA : Hid (thereL L (L[n]).parent L.length = true → ∃ j, ∃ h : j < L.length, (L[j]).id = (L[n]).parent) := fun h0 => there_all h0
        obtain ⟨x, hx0⟩ : ∃ x, x = (L[n]).parent := ⟨_, rfl⟩
        have HXN := Lib.hid hx0
        rw [← hx0] at e2 K4 HTH HTA
        clear k3 k4 hx0
        by_cases hx : x = 0
        · subst hx
          clear HTH HTA K4
          go_wp2_with fail
          go_quiet (fail)
          go_wp2_with fail
          go_roundw
          case rel => exact ⟨n + 1, by omega, by go_num, Below_drewN HB.out _⟩
          case measure => simp [intOf]; omega
        · have q1 : (x == 0) = false := by simpa using hx
          have K5 := Lib.hid (K4.out hx)
          clear hx K4
          go_wp2_with fail
          go_quiet (fail)
          go_wp2_with fail
          clear d1 d2 d3
          go_loopw [6, 69] (fun t j wr2 => ∃ m : Nat, m ≤ L.length ∧ t = .bool (thereL L x m) ∧ j = .int .i64 (m : Int) ∧ Below w4.heap.size w4 wr2) (fun _ j _ => L.length - (intOf j).toNat)
          case atStart => exact ⟨0, Nat.zero_le _, by simp [thereL], rfl, Below_drewN HB.out _⟩
          clear q0 e2
          case round =>
            obtain ⟨m, hm, rfl, rfl, hb2⟩ := hrel
            have HB2 := Lib.hid hb2; clear hb2
            generalize wr = W2 at *
            by_cases hml : m < L.length
            · have HA2 := Lib.hid (HA.out.below (bel2 HB4.out HB2.out))
              obtain ⟨b2, o2, hb1, hB2', f0, f1, f2, f3, f4, f5, f6, f7⟩ := HA2.out.elem hml
              obtain ⟨rfl, rfl⟩ := And.intro (Addr.mk.inj (Option.some.inj hb1)).1 (Addr.mk.inj (Option.some.inj hb1)).2.1
              have HT := Lib.hid (HTH.out m hml)
              have j3 : (m : Int) < (L.length : Int) := by omega
              have j4 : (0 : Int) ≤ (m : Int) := by omega
              obtain ⟨s, hs⟩ : ∃ s, s = L[m] := ⟨_, rfl⟩
              rw [← hs] at f0 f1 f2 f3 f4 f5 f6 f7 HT
              have hg2 : (W2.alloc (.cells s.c 31)).cell? ⟨b1, o1 + n * 8 + 2, none⟩ = some (.int .u64 x) := by
                obtain ⟨b5, o5, hb5, _, g0, g1, g2, _⟩ := (HA2.out.below ((box1 W2 (.cells s.c 31)).mono (bel2 HB4.out HB2.out).size)).elem hlt
                obtain ⟨rfl, rfl⟩ := And.intro (Addr.mk.inj (Option.some.inj hb5)).1 (Addr.mk.inj (Option.some.inj hb5)).2.1
                rw [g2, ← HXN.out]
              have hc1 := (Box.new W2 s 31).all.2.1
              simp only [Sp.c] at hg2 hc1
              clear hs hb1
              cases hbt : thereL L x m with
              | true =>
                rw [hbt] at HT
                clear hbt
                go_wp2_with fail
                go_quiet (fail)
                go_wp2_with fail
                go_roundw
                case rel => exact ⟨m + 1, by omega, by rw [HT.out]; rfl, by go_num, Below_drewN (HB2.out.alloc HB2.out.size _) _⟩
                case measure => simp [intOf]; omega
              | false =>
                rw [hbt] at HT
                clear hbt
                by_cases hy : s.id = x
                · have q2 : (s.id == x) = true := by simpa using hy
                  rw [q2] at HT
                  clear hy
                  go_wp2_with fail
                  go_quiet (fail)
                  go_wp2_with fail
                  go_roundw
                  case rel => exact ⟨m + 1, by omega, by rw [HT.out]; rfl, by go_num, Below_drewN (HB2.out.alloc HB2.out.size _) _⟩
                  case measure => simp [intOf]; omega
                · have q2 : (s.id == x) = false := by simpa using hy
                  rw [q2] at HT
                  clear hy
                  go_wp2_with fail
                  go_quiet (fail)
                  go_wp2_with fail
                  go_roundw
                  case rel => exact ⟨m + 1, by omega, by rw [HT.out]; rfl, by go_num, Below_drewN (HB2.out.alloc HB2.out.size _) _⟩
                  case measure => simp [intOf]; omega
            · obtain rfl : m = L.length := by omega
              cases ht : thereL L x L.length with
              | false =>
                clear ht
                go_wp2_with fail
                go_roundw
                case rel => exact ⟨n + 1, by omega, by go_num, HB2.out⟩
                case measure => simp [intOf]; omega
              | true =>
                have HON : Hid (onL (parL L) (n : Int) = true) := K5.out (HTA.out ht)
                clear ht
                go_wp2_with (go_at_call 13
                             refine (loop_any _ c L n W2 ((HA.out.below (bel2 HB4.out HB2.out)).more (bel2 HB4.out HB2.out).size) (by omega) hlt HON.out).mono ?_
                             rintro e w7 ⟨rfl, hb7⟩
                             have HB7 := Lib.hid (bel2 HB2.out hb7); clear hb7)
                go_roundw
                case rel => exact ⟨n + 1, by omega, by go_num, HB7.out⟩
                case measure => simp [intOf]; omega
    · go_wp2_with (go_at_call 7; refine (fixed10_any HOF.out _).mono ?_; rintro e w5 ⟨rfl, hb5⟩)
      go_ret
      exact ⟨rfl, bel2 (bel2 HB4.out HB.out) hb5⟩
end Go.Proofs.Ythcnjljjncgdfaa
