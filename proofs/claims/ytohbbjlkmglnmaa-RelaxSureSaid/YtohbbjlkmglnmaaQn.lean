import Derived.Test.YtohbbjlkmglnmaaQm
import Derived.Test.YtohbbjlkmglnmaaGx
namespace Go.Proofs.Ytohbbjlkmglnmaa
open Go Go.RowKit Go.Sort
set_option linter.unusedVariables false

/-! The law RelaxSure (stage 15). -/
theorem wrap_small15 {x : Int} (h : -9223372036854775808 ≤ x ∧ x < 9223372036854775808) : IntKind.i64.wrap x = x := by
  rw [wrap64]; split <;> omega
set_option maxHeartbeats 16000000 in
set_option maxRecDepth 20000 in
theorem law_sure15 (hs : SolvePay 15) (a : Option Addr) (c : Nat) (X : List Int) (b : Option Addr) (d : Nat) (PP : List (Nat × Nat)) (u : Option Addr) (v : Nat) (MM : List Int) (n pl ml : Nat) (w : World) (hXl : X.length = n) (hPl : PP.length = pl) (hMl : MM.length = ml)
    (ha : Rd w w.heap.size a (intV X)) (hb : Rd w w.heap.size b (bpsV PP)) (hu : Rd w w.heap.size u (MM.map (Value.int .u32))) (hn : Nums X) (hP : ∀ p ∈ PP, p.1 < 256 ∧ p.2 < 256) (hM : ∀ x ∈ MM, 0 ≤ x ∧ x < 4294967296) (hc1 : n ≤ maxLen) (hc2 : pl ≤ maxLen) (hc3 : ml ≤ maxLen) :
    Calls Try.prog 6 #[.slice a n c, .slice b pl d, .slice u ml v] w fun e w' => e = .returned (.bool true) ∧ Below w.heap.size w w' := by
  obtain ⟨i0, hi0, hz0, hz1, hz2⟩ := info_parts info_edge
  have HZ2 := Lib.hid hz2; clear hz2
  have HF := Lib.hid (fun w => fixed15_any hs w)
  have HS := Lib.hid hs; have HA := Lib.hid ha; have HB := Lib.hid hb; have HU := Lib.hid hu; have HN := Lib.hid hn; have HP := Lib.hid hP; have HM := Lib.hid hM
  have HXL := Lib.hid hXl; have HPL := Lib.hid hPl; have HML := Lib.hid hMl
  clear hs ha hb hu hn hP hM hXl hPl hMl
  unfold maxLen at hc1 hc2 hc3
  by_cases h1 : n = 0
  · subst h1
    go_enter Try.func6, Try.ntmps6
    go_wp2_with (go_at_call 8; refine (HF.out _).mono ?_; rintro x w1 ⟨rfl, hb1⟩)
    go_ret
    exact ⟨rfl, hb1⟩
  have n0 : ¬ (n : Int) = 0 := by omega
  have n0b : ((n : Int) == 0) = false := by rw [beq_eq_false_iff_ne]; exact n0
  by_cases h2 : 32 < n
  · have i2 : (32 : Int) < (n : Int) := by omega
    go_enter Try.func6, Try.ntmps6
    go_wp2_with (go_at_call 8; refine (HF.out _).mono ?_; rintro x w1 ⟨rfl, hb1⟩)
    go_ret
    exact ⟨rfl, hb1⟩
  have i2 : ¬ (32 : Int) < (n : Int) := by omega
  by_cases h3 : 100 < pl
  · have i3 : (100 : Int) < (pl : Int) := by omega
    go_enter Try.func6, Try.ntmps6
    go_wp2_with (go_at_call 8; refine (HF.out _).mono ?_; rintro x w1 ⟨rfl, hb1⟩)
    go_ret
    exact ⟨rfl, hb1⟩
  have i3 : ¬ (100 : Int) < (pl : Int) := by omega
  by_cases h4 : ml = 0
  · subst h4
    go_enter Try.func6, Try.ntmps6
    go_wp2_with (go_at_call 8; refine (HF.out _).mono ?_; rintro x w1 ⟨rfl, hb1⟩)
    go_ret
    exact ⟨rfl, hb1⟩
  have m0 : ¬ (ml : Int) = 0 := by omega
  have m0b : ((ml : Int) == 0) = false := by rw [beq_eq_false_iff_ne]; exact m0
  by_cases h5 : 100 < ml
  · have i5 : (100 : Int) < (ml : Int) := by omega
    go_enter Try.func6, Try.ntmps6
    go_wp2_with (go_at_call 8; refine (HF.out _).mono ?_; rintro x w1 ⟨rfl, hb1⟩)
    go_ret
    exact ⟨rfl, hb1⟩
  have i5 : ¬ (100 : Int) < (ml : Int) := by omega
  go_enter Try.func6, Try.ntmps6
  go_wp2_with fail
  go_loopw [8, 46] (fun t i wr => ∃ k : Nat, k ≤ n ∧ i = .int .i64 (k : Int) ∧ t = .int .i64 (topL X k) ∧ (∀ x ∈ X.take k, -1125899906842624 ≤ x ∧ x ≤ 1125899906842624) ∧ Below w.heap.size w wr) (fun _ i _ => n - (intOf i).toNat)
  case atStart => exact ⟨0, Nat.zero_le _, rfl, rfl, by simp, Below.refl _ _⟩
  case round =>
    obtain ⟨k, hk, rfl, rfl, hin, hbw⟩ := hrel
    have HW := Lib.hid hbw; have HIN := Lib.hid hin; clear hbw hin
    generalize wr = W1 at *
    by_cases hlt : k < n
    · have hlt' : k < X.length := by rw [HXL.out]; exact hlt
      obtain ⟨b1, o1, ha1, _, e0⟩ := (HA.out.below HW.out).num hlt'
      subst ha1
      have HST := Lib.hid (topL_step hlt')
      have HSN : Hid (-1125899906842624 ≤ X[k] → X[k] ≤ 1125899906842624 → ∀ x ∈ X.take (k + 1), -1125899906842624 ≤ x ∧ x ≤ 1125899906842624) := by
        intro h1 h2 x hx
        rw [List.take_succ_eq_append_getElem hlt', List.mem_append, List.mem_singleton] at hx
        rcases hx with hx | rfl
        · exact HIN.out x hx
        · exact ⟨h1, h2⟩
      generalize X[k] = x at *
      generalize topL X k = t at *
      have i3 : (k : Int) < (n : Int) := by omega
      have i4 : (0 : Int) ≤ (k : Int) := by omega
      by_cases g1 : 1125899906842624 < x
      · go_wp2_with (go_at_call 8; refine (HF.out _).mono ?_; rintro x w1 ⟨rfl, hb1⟩)
        go_ret
        exact ⟨rfl, bel2 HW.out hb1⟩
      by_cases g2 : x < -1125899906842624
      · go_wp2_with (go_at_call 8; refine (HF.out _).mono ?_; rintro x w1 ⟨rfl, hb1⟩)
        go_ret
        exact ⟨rfl, bel2 HW.out hb1⟩
      have HH := Lib.hid (HSN.out (by omega) (by omega))
      clear HSN
      by_cases g3 : t < x
      · go_wp2_with fail
        go_roundw
        case rel => exact ⟨k + 1, by omega, by go_num, by rw [HST.out], HH.out, HW.out⟩
        case measure => simp [intOf]; omega
      · go_wp2_with fail
        go_roundw
        case rel => exact ⟨k + 1, by omega, by go_num, by rw [HST.out], HH.out, HW.out⟩
        case measure => simp [intOf]; omega
    · obtain rfl : n = k := by omega
      have HSI : Hid (SureIn X MM) := by
        refine ⟨by rw [HXL.out]; omega, by rw [HXL.out]; omega, fun x hx => ?_, HM.out⟩
        have := HIN.out x
        rw [List.take_of_length_le (by rw [HXL.out]; exact Nat.le_refl _)] at this
        exact this hx
      obtain ⟨t, ht⟩ : ∃ t, topL X n = t := ⟨_, rfl⟩
      have HT := Lib.hid ht
      rw [ht]
      clear ht HIN
      have hWs := HW.out.size
      have hn1 : n ≤ 32 := by omega
      go_wp2_with fail
      go_loopw [11, 63] (fun vv i wr => ∃ (k : Nat) (v' : Value), k ≤ pl ∧ i = .int .i64 (k : Int) ∧ v' = vv ∧ wr.ownsRow W1.heap.size 44 6 v' k (edsV (sureN X PP MM k)) ∧ Below W1.heap.size W1 wr) (fun _ i _ => pl - (intOf i).toNat)
      case atStart => exact ⟨0, _, Nat.zero_le _, rfl, rfl, World.ownsRow_nil _ _ _ _, Below.refl _ _⟩
      case round =>
        obtain ⟨k, vv, hk, rfl, hv, hown, hbw⟩ := hrel
        subst hv
        have HO := Lib.hid hown; have HW2 := Lib.hid hbw; clear hown hbw
        obtain ⟨va, vc, rfl, _, _, _⟩ := own_slice HO.out
        have HWW := Lib.hid (HW.out.trans (HW2.out.mono hWs))
        generalize wr = W2 at *
        have hWs2 := HW2.out.size
        by_cases hlt : k < pl
        · have hlt' : k < PP.length := by rw [HPL.out]; exact hlt
          obtain ⟨b5, o5, ha5, hlb5, p0, p1⟩ := (HB.out.below HWW.out).bp hlt'
          subst ha5
          have HST := Lib.hid (sureN_step X PP MM k)
          have HEK := Lib.hid (sure_ok HSI.out PP k).1
          have hpq := HP.out PP[k] (List.getElem_mem _)
          have e : PP.getD k (0, 0) = PP[k] := by simp [List.getD, hlt']
          have HEE : Hid (sureE X PP MM k = ⟨((PP[k].1 % n : Nat) : Int), ((PP[k].2 % n : Nat) : Int), X.getD (PP[k].2 % n) 0 - X.getD (PP[k].1 % n) 0 + MM.getD (k % ml) 0, 0, 0, false⟩) := by
            show _ = _; unfold sureE; rw [e, HXL.out, HML.out]
          clear e
          generalize PP[k] = p at *
          obtain ⟨p, q⟩ := p
          simp only at p0 p1 hpq HEE
          obtain ⟨p', g1, r1⟩ : ∃ p' : Int, IntKind.i64.wrap (p : Int) = p' ∧ p' = (p : Int) := ⟨_, wrap_small15 (by omega), rfl⟩
          obtain ⟨q', g2, r2⟩ : ∃ q' : Int, IntKind.i64.wrap (q : Int) = q' ∧ q' = (q : Int) := ⟨_, wrap_small15 (by omega), rfl⟩
          have ax := Nat.mod_lt p (show n > 0 by omega)
          have bx := Nat.mod_lt q (show n > 0 by omega)
          have t1 : Int.tmod p' (n : Int) = ((p % n : Nat) : Int) := by rw [r1]; rfl
          have t2 : Int.tmod q' (n : Int) = ((q % n : Nat) : Int) := by rw [r2]; rfl
          have t1' : p' % (n : Int) = ((p % n : Nat) : Int) := by rw [r1]; rfl
          have t2' : q' % (n : Int) = ((q % n : Nat) : Int) := by rw [r2]; rfl
          have t3 : Int.tmod (k : Int) (ml : Int) = ((k % ml : Nat) : Int) := rfl
          have t3' : (k : Int) % (ml : Int) = ((k % ml : Nat) : Int) := rfl
          have mx := Nat.mod_lt k (show ml > 0 by omega)
          generalize p % n = x at *
          generalize q % n = y at *
          generalize k % ml = z at *
          have i6 : (k : Int) < (pl : Int) := by omega
          have i7 : (0 : Int) ≤ (k : Int) := by omega
          clear hlt' hpq r1 r2
          go_wp2_with fail
          go_quiet (fail)
          go_wp2_with fail
          have HBN := Lib.hid (Below_drewN (box1 W2 (.cells #[.int .u8 (p : Int), .int .u8 (q : Int)] 39)) nq)
          have HO4 := Lib.hid (own_below HO.out HBN.out)
          generalize (W2.alloc (.cells #[.int .u8 (p : Int), .int .u8 (q : Int)] 39)).drewN nq = w4 at *
          have HW4 := Lib.hid (HW2.out.trans (HBN.out.mono hWs2))
          have HWW4 := Lib.hid (HW.out.trans (HW4.out.mono hWs))
          have hs4 := HW4.out.size
          have hs40 := HWW4.out.size
          have HXA := Lib.hid ((HA.out.below HWW4.out).more hs40)
          have HUA := Lib.hid ((HU.out.below HWW4.out).more hs40)
          have hx' : x < X.length := by rw [HXL.out]; exact ax
          have hy' : y < X.length := by rw [HXL.out]; exact bx
          obtain ⟨b6, o6, ha6, hlb6, d5⟩ := HXA.out.num hx'
          obtain ⟨b7, o7, ha7, _, d6⟩ := HXA.out.num hy'
          subst ha6
          obtain ⟨rfl, rfl⟩ := And.intro (Addr.mk.inj (Option.some.inj ha7)).1 (Addr.mk.inj (Option.some.inj ha7)).2.1
          obtain ⟨b8, o8, ha8, hlb8, hc8⟩ := HUA.out (by rw [List.length_map, HML.out]; omega)
          have hz' : z < MM.length := by rw [HML.out]; exact mx
          have d7 := hc8 z (.int .u32 MM[z]) (by simp [hz'])
          subst ha8
          have X1 := HSI.out.num X[x] (List.getElem_mem _)
          have X2 := HSI.out.num X[y] (List.getElem_mem _)
          have M1 := HSI.out.more MM[z] (List.getElem_mem _)
          have ex : X.getD x 0 = X[x] := by simp [List.getD, hx']
          have ey : X.getD y 0 = X[y] := by simp [List.getD, hy']
          have ez : MM.getD z 0 = MM[z] := by simp [List.getD, hz']
          rw [ex, ey, ez] at HEE
          generalize X[x] = xa at *
          generalize X[y] = xb at *
          generalize MM[z] = mz at *
          obtain ⟨di, g3, r3⟩ : ∃ di, IntKind.i64.wrap (xb - xa) = di ∧ di = xb - xa := ⟨_, wrap_small15 (by omega), rfl⟩
          obtain ⟨mw, g4, r4⟩ : ∃ mw, IntKind.i64.wrap mz = mw ∧ mw = mz := ⟨_, wrap_small15 (by omega), rfl⟩
          obtain ⟨we, g5, r5⟩ : ∃ we, IntKind.i64.wrap (di + mw) = we ∧ we = di + mw := ⟨_, wrap_small15 (by omega), rfl⟩
          have HE2 : Hid (sureE X PP MM k = ⟨(x : Int), (y : Int), we, 0, 0, false⟩) := by
            show _ = _; rw [HEE.out, r5, r4, r3]
          rw [HE2.out] at HST
          have j1 : (x : Int) < (n : Int) := by omega
          have j2 : (0 : Int) ≤ (x : Int) := by omega
          have j3 : (y : Int) < (n : Int) := by omega
          have j4 : (0 : Int) ≤ (y : Int) := by omega
          have j5 : (z : Int) < (ml : Int) := by omega
          have j6 : (0 : Int) ≤ (z : Int) := by omega
          clear hc8 ex ey ez r3 r4 r5 ha7 X1 X2 M1 HEE HEK g1 g2 t1 t2 t1' t2' hx' hy' hz'
          have hcg : ∀ d os m o, m < w4.heap.size → (grow (redrawn w4 d) os).cell? ⟨m, o, none⟩ = w4.cell? ⟨m, o, none⟩ := fun d os m o h => (below_regrown w4 d os).cell h
          refine wp_region_move_tail 22 (.tmp 11) (by kernel_rfl) (by kernel_rfl) rfl rfl (fun _ _ _ _ h => h) ?_
          simp only [List.take_succ_cons, List.take_zero, List.drop_succ_cons, List.drop_zero, Nat.reduceSub]
          simp only [Act.put, Act.eval, List.setIfInBounds_toArray, List.set_cons_succ, List.set_cons_zero, Array.getD_eq_getD_getElem?, List.getElem?_toArray, List.getElem?_cons_succ, List.getElem?_cons_zero, Option.getD_some]
          iterate 21 (first | go_big_quiet_step (fail) | fail)
          refine wpQuiet_nil ?_
          intro W5 hw5
          obtain ⟨⟨d5', os5⟩, hw5'⟩ := hw5
          have hb5 := below_regrown w4 d5' os5
          rw [← hw5'] at hb5
          have HB5 := Lib.hid hb5
          have hs5 := hb5.size
          clear hw5' hcg hb5 g3 g4 g5 t3 t3'
          have HO5 := Lib.hid (own_below HO4.out HB5.out)
          have HW5 := Lib.hid (HW4.out.trans (HB5.out.mono hs4))
          go_wp2_with (at_builtin
                       refine wpList_append_rd _ rfl (.tmp 78) (.tmp 100) 22 rfl W1.heap.size 44 i0 _ 6 48 Try.underlying22 hi0 hz0 hz1 HZ2.out rfl (by omega) (.slice va k vc) k _ rfl (own_below HO5.out (box1 _ _)) _ _ 1 1 (Ed.c ⟨(x : Int), (y : Int), we, 0, 0, false⟩).toList rfl rfl (lit_rd W5 (Ed.c ⟨(x : Int), (y : Int), we, 0, 0, false⟩) _) (ed_one _) (by unfold maxLen; omega) (by omega) (by simp; omega) ?_
                       intro v7 w7 hown7 hg7 hat7
                       have HG7 := Lib.hid ((HW5.out.alloc (by omega) _).grown hg7 (by simp; omega) (fun g hg => (own_shape HO4.out hg).1))
                       have HO7 := Lib.hid hown7
                       clear hg7 hat7 hown7)
          go_roundw
          case rel => exact ⟨k + 1, _, by omega, by go_num, rfl, by rw [HST.out, edsV_append, edsV_single]; exact HO7.out, HG7.out⟩
          case measure => simp [intOf]; omega
        · obtain rfl : pl = k := by omega
          obtain ⟨m1, m2, m3⟩ := sure_all HSI.out PP pl
          obtain ⟨O, hso, hOl, hOall, hOtop, hOab⟩ := sure_told HSI.out PP pl
          rw [HXL.out] at hso hOl
          have hnn : n = X.length := HXL.out.symm
          have HEL := Lib.hid (sureN_length X PP MM pl)
          have HE := Lib.hid (Rd.own HO.out)
          generalize sureN X PP MM pl = E at *
          have HOL := Lib.hid hOl; have HOA := Lib.hid hOall; have HOT := Lib.hid hOtop
          have HAB : Hid (∀ j (h1 : j < X.length) (h2 : j < O.length), X[j] - t ≤ O[j]) := by
            intro j h1 h2
            have := hOab j h1 h2
            have e : topL X X.length = t := by rw [HXL.out]; exact HT.out
            rw [e] at this; exact this
          have HEOK := Lib.hid m3
          have HTB : Hid (0 ≤ t ∧ t ≤ 1125899906842624) := by
            have h1 := (topL_ge X n).1
            have h2 := topL_le HSI.out n
            rw [HT.out] at h1 h2
            exact ⟨h1, h2⟩
          have HSC : ∀ w', Rd w' w'.heap.size va (edsV E) → Calls Try.prog 15 #[.int .i64 (n : Int), .slice va pl vc] w' fun x w'' => ∃ a1 c1, x = .returned (.tuple #[.slice a1 n c1, .bool true]) ∧ Rd w'' w''.heap.size a1 (intV O) ∧ Below w'.heap.size w' w'' := fun w' h => by
            have := solve_some (HS.out (n : Int) va vc E w' h (by rw [HEL.out]; omega) HEOK.out (by unfold I64; omega)) hso
            rw [HEL.out, HOL.out] at this; exact this
          have HSCC := Lib.hid HSC
          have HAC : ∀ w' a1 c1, Rd w' w'.heap.size va (edsV E) → Rd w' w'.heap.size a1 (intV O) → Calls Try.prog 17 #[.slice va pl vc, .slice a1 n c1] w' fun x w'' => x = .returned (.bool true) ∧ Below w'.heap.size w' w'' := fun w' a1 c1 h1 h2 => by
            have := refAll_any va vc E a1 c1 O w' h1 HEOK.out (by rw [HEL.out]; omega) h2 (fun x hx => by have := HOT.out x hx; unfold I64; omega) (by unfold maxLen; rw [HOL.out]; omega)
            rw [HEL.out, HOL.out, HOA.out] at this; exact this
          have HACC := Lib.hid HAC
          clear m1 m2 m3 hso hOl hOall hOtop hOab hnn HSC HAC
          go_wp2_with (first
            | (go_at_call 15
               refine (HSCC.out W2 HE.out).mono ?_; rintro x w5 ⟨a1, c1, rfl, hr5, hb5⟩
               have HR5 := Lib.hid hr5; have HE5 := Lib.hid ((HE.out.below hb5).more hb5.size); have HB5 := Lib.hid (bel2 HWW.out hb5); clear hr5 hb5)
            | (go_at_call 17
               refine (HACC.out w5 a1 c1 HE5.out HR5.out).mono ?_; rintro x w6 ⟨rfl, hb6⟩
               have HR6 := Lib.hid ((HR5.out.below hb6).more hb6.size); have HB6 := Lib.hid (bel2 HB5.out hb6); clear hb6))
          have h6s := HB6.out.size
          go_loopw [125] (fun i wr => ∃ j : Nat, j ≤ n ∧ i = .int .i64 (j : Int) ∧ Below w6.heap.size w6 wr) (fun i _ => n - (intOf i).toNat)
          case atStart => exact ⟨0, Nat.zero_le _, rfl, Below.refl _ _⟩
          case round =>
            obtain ⟨j, hj, rfl, hbw⟩ := hrel
            have HW7 := Lib.hid hbw; clear hbw
            have HWW7 := Lib.hid (HB6.out.trans (HW7.out.mono h6s))
            generalize wr = W7 at *
            by_cases hlj : j < n
            · have k1 : j < X.length := by rw [HXL.out]; exact hlj
              have k2 : j < O.length := by rw [HOL.out]; exact hlj
              obtain ⟨b1, o1, e1, _, d1⟩ := (HA.out.below HWW7.out).num k1
              obtain ⟨b2, o2, e2, _, d2⟩ := (HR6.out.below HW7.out).num k2
              subst e1 e2
              have q1 := HAB.out j k1 k2
              have q2 := HOT.out O[j] (List.getElem_mem _)
              have q3 := HSI.out.num X[j] (List.getElem_mem _)
              have q4 := HTB.out
              generalize X[j] = x at *
              generalize O[j] = y at *
              obtain ⟨z, g1, r1⟩ : ∃ z, IntKind.i64.wrap (x - t) = z ∧ z = x - t := ⟨_, wrap_small15 (by omega), rfl⟩
              have s1 : ¬ y < z := by omega
              have s2 : ¬ 0 < y := by omega
              have s3 : z ≤ y := by omega
              have s4 : y ≤ 0 := by omega
              have i6 : (j : Int) < (n : Int) := by omega
              have i7 : (0 : Int) ≤ (j : Int) := by omega
              clear q1 q2 q3 q4 r1 k1 k2
              go_wp2_with fail
              go_roundw
              case rel => exact ⟨j + 1, by omega, by clear g1; go_num, HW7.out⟩
              case measure => simp [intOf]; omega
            · obtain rfl : n = j := by omega
              go_wp2_with (go_at_call 8; refine (HF.out _).mono ?_; rintro x w8 ⟨rfl, hb8⟩)
              go_ret
              exact ⟨rfl, bel2 HWW7.out hb8⟩
end Go.Proofs.Ytohbbjlkmglnmaa

