import Derived.Test.YteaafjkgopmmdaaId
namespace Go.Proofs.Yteaafjkgopmmdaa
open Go Go.RowKit Go.Sort
set_option linter.unusedVariables false

/-! Which edges hold: the law (stage 14). -/
set_option maxHeartbeats 8000000 in
theorem law_holds14 (hof : EdgesPay 12) (hho : HoldsPay 14) (hal : AllPay 16) (b : Option Addr) (d : Nat) (E : List Ed) (a : Option Addr) (c : Nat) (O : List Int) (w : World) (hb : Rd w w.heap.size b (edsV E)) (hok : ∀ e ∈ E, e.Ok) (hc1 : E.length ≤ maxLen) (ha : Rd w w.heap.size a (intV O)) (hn : Nums O) (hc2 : O.length ≤ maxLen) :
    Calls Try.prog 4 #[.slice b E.length d, .slice a O.length c] w fun e w' => e = .returned (.bool true) ∧ Below w.heap.size w w' := by
  have HOF := Lib.hid hof; have HHO := Lib.hid hho; have HAL := Lib.hid hal; have HA := Lib.hid ha; have HB := Lib.hid hb; have HOK := Lib.hid hok; have HN := Lib.hid hn; clear hof hho hal ha hb hok hn
  unfold maxLen at hc1 hc2
  by_cases hg : 100 < E.length
  · have q1 : decide (100 < (E.length : Int)) = true := decide_eq_true (by omega)
    go_enter Try.func4, Try.ntmps4
    go_wp2_with (go_at_call 8; refine (fixed14_any HOF.out _).mono ?_; rintro e w2 ⟨rfl, hb2⟩)
    go_ret
    exact ⟨rfl, hb2⟩
  have q1 : decide (100 < (E.length : Int)) = false := decide_eq_false (by omega)
  by_cases hg2 : 100 < O.length
  · have q2 : decide (100 < (O.length : Int)) = true := decide_eq_true (by omega)
    go_enter Try.func4, Try.ntmps4
    go_wp2_with (go_at_call 8; refine (fixed14_any HOF.out _).mono ?_; rintro e w2 ⟨rfl, hb2⟩)
    go_ret
    exact ⟨rfl, hb2⟩
  have q2 : decide (100 < (O.length : Int)) = false := decide_eq_false (by omega)
  go_enter Try.func4, Try.ntmps4
  go_wp2_with fail
  go_loopw [18] (fun i wr => ∃ n : Nat, n ≤ E.length ∧ i = .int .i64 n ∧ Below w.heap.size w wr) (fun i _ => E.length - (intOf i).toNat)
  case atStart => exact ⟨0, Nat.zero_le _, rfl, Below.refl _ _⟩
  case round =>
    obtain ⟨n, hn, rfl, hbw⟩ := hrel
    have HW := Lib.hid hbw; clear hbw
    generalize wr = W1 at *
    by_cases hlt : n < E.length
    · obtain ⟨b1, o1, hb1, _, hE⟩ := (HB.out.below HW.out).edge hlt
      subst hb1
      have OK1 := Lib.hid (HOK.out E[n] (List.getElem_mem _))
      generalize E[n] = e at *
      have i3 : (n : Int) < (E.length : Int) := by omega
      have i4 : (0 : Int) ≤ (n : Int) := by omega
      obtain ⟨c0, c1, c2, c3, c4, c5⟩ := hE
      have HE := Lib.hid (EdAt.new W1 e 37)
      have hWs := HW.out.size
      go_wp2_with fail
      obtain ⟨V, hV⟩ : ∃ V, W1.alloc (.cells e.c 37) = V := ⟨_, rfl⟩
      have HBV : Hid (Below W1.heap.size W1 V) := by rw [← hV]; exact box1 _ _
      have hVs : W1.heap.size < V.heap.size := by rw [← hV]; simp
      have HAV := Lib.hid (((HA.out.below HW.out).below (HBV.out.mono hWs)).more (show w.heap.size ≤ V.heap.size by omega))
      have HC := Lib.hid (fun d os => HHO.out e a c O (grow (redrawn V d) os) OK1.out ((HAV.out.below (below_regrown V d os)).more (below_regrown V d os).size) HN.out (by unfold maxLen; omega))
      have HD := Lib.hid (fun d os => refHolds_any e a c O (grow (redrawn V d) os) OK1.out ((HAV.out.below (below_regrown V d os)).more (below_regrown V d os).size) HN.out (by unfold maxLen; omega))
      rw [hV] at HE
      clear c0 c1 c2 c3 c4 c5
      obtain ⟨c0, c1, c2, c3, c4, c5⟩ := HE.out
      unfold Ed.c at hV
      rw [hV]
      clear hV HE
      unfold Ed.v at HC HD
      generalize holdsL e O = r at *
      simp only [Nat.zero_add] at c1 c2 c3 c4 c5
      have hcg : ∀ d os m o, m < V.heap.size → (grow (redrawn V d) os).cell? ⟨m, o, none⟩ = V.cell? ⟨m, o, none⟩ := fun d os m o h => (below_regrown V d os).cell h
      refine wp_region_quiet_below (by kernel_rfl) (by kernel_rfl) ?_
      iterate 7 (first | go_big_quiet_step (first
          | (go_at_call 14; exact Calls.regrown_of (HC.out _ _))
          | (go_at_call 15; exact Calls.regrown_of (HD.out _ _))) | fail)
      refine wpQuiet_nil ?_
      intro W3 hw3
      obtain ⟨⟨d3, os⟩, hw3'⟩ := hw3
      have hb3 := below_regrown V d3 os
      rw [← hw3'] at hb3
      have HW3 := Lib.hid (HW.out.trans ((bel2 HBV.out hb3).mono hWs))
      clear hw3' hcg hb3
      go_wp2_with fail
      go_roundw
      case rel => exact ⟨n + 1, by omega, by go_num, HW3.out⟩
      case measure => simp [intOf]; omega
    · obtain rfl : n = E.length := by omega
      go_wp2_with (first
        | (go_at_call 8; refine (fixed14_any HOF.out _).mono ?_; rintro e w2 ⟨rfl, hb2⟩; have HB2 := Lib.hid (bel2 HW.out hb2); clear hb2)
        | (go_at_call 16
           refine (HAL.out b d E a c O w2 ((HB.out.below HB2.out).more HB2.out.size) HOK.out (by omega) ((HA.out.below HB2.out).more HB2.out.size) HN.out (by unfold maxLen; omega)).mono ?_
           rintro e w3 ⟨rfl, hb3⟩; have HB3 := Lib.hid (bel2 HB2.out hb3); clear hb3)
        | (go_at_call 17
           refine (refAll_any b d E a c O w3 ((HB.out.below HB3.out).more HB3.out.size) HOK.out (by omega) ((HA.out.below HB3.out).more HB3.out.size) HN.out (by unfold maxLen; omega)).mono ?_
           rintro e w4 ⟨rfl, hb4⟩; have HB4 := Lib.hid (bel2 HB3.out hb4); clear hb4))
      go_ret
      exact ⟨rfl, HB4.out⟩
end Go.Proofs.Yteaafjkgopmmdaa

