import Derived.Test.YtommpppbdkapbaaBc
namespace Go.Proofs.Ytommpppbdkapbaa
open Go Go.RowKit Go.Sort
set_option linter.unusedVariables false

/-! The law RpcGaps. -/
set_option maxHeartbeats 8000000 in
set_option maxRecDepth 20000 in
theorem law_gaps12 (hof : PairsPay 11) (hgp : GapsPay 13) (hwi : WithinPay 15) (a : Option Addr) (c : Nat) (L : List Sp) (p : Pr) (w : World) (ha : Rd w w.heap.size a (flatL L)) (hc1 : L.length ≤ maxLen) (hok : ∀ s ∈ L, s.Ok) :
    Calls Try.prog 4 #[.slice a L.length c, p.v] w fun e w' => e = .returned (.bool true) ∧ Below w.heap.size w w' := by
  have HOF := Lib.hid hof; have HGP := Lib.hid hgp; have HWI := Lib.hid hwi; have HA := Lib.hid ha; have HOK := Lib.hid hok; clear hof hgp hwi ha hok
  have hgr := great_any a c L (w.alloc (.cells #[.int .i64 p.client, .int .i64 p.server] 32)) ((HA.out.below (box1 w _)).more (by simp)) hc1 HOK.out
  have HBV := Lib.hid (box1 w (.cells #[.int .i64 p.client, .int .i64 p.server] 32))
  have hbz : w.heap.size < (w.alloc (.cells #[.int .i64 p.client, .int .i64 p.server] 32)).heap.size := by simp
  have hx0 : (w.alloc (.cells #[.int .i64 p.client, .int .i64 p.server] 32)).cell? ⟨w.heap.size, 0, none⟩ = some (.int .i64 p.client) := by simp
  have hx1 : (w.alloc (.cells #[.int .i64 p.client, .int .i64 p.server] 32)).cell? ⟨w.heap.size, 1, none⟩ = some (.int .i64 p.server) := by simp
  simp only [Pr.v]
  cases hG : greatB L with
  | true =>
    rw [hG] at hgr
    have HGR := Lib.hid hgr; clear hgr hG
    go_enter Try.func4, Try.ntmps4
    go_wp2_with (first
      | (go_at_call 7; refine HGR.out.mono ?_; rintro e w1 ⟨rfl, hb1⟩; have HB1 := Lib.hid (bel2 HBV.out hb1); clear hb1)
      | (go_at_call 8; refine (fixed12_any HOF.out HGP.out _).mono ?_; rintro e w2 ⟨rfl, hb2⟩))
    go_ret
    exact ⟨rfl, bel2 HB1.out hb2⟩
  | false =>
  rw [hG] at hgr
  have HGR := Lib.hid hgr; clear hgr
  have hL60 := great_len hG
  clear hG
  obtain ⟨r, hr⟩ : ∃ r, r = gapsL L p := ⟨_, rfl⟩
  have HPG : Hid (∀ w', Rd w' w'.heap.size a (flatL L) → Calls Try.prog 13 #[.slice a L.length c, .agg #[.int .i64 p.client, .int .i64 p.server]] w' fun e w'' => e = .returned (gapsV r) ∧ Below w'.heap.size w' w'') := fun w' h => by rw [hr]; exact HGP.out a c L p w' h (by omega) HOK.out
  have HRG : Hid (∀ w', Rd w' w'.heap.size a (flatL L) → Calls Try.prog 14 #[.slice a L.length c, .agg #[.int .i64 p.client, .int .i64 p.server]] w' fun e w'' => e = .returned (gapsV r) ∧ Below w'.heap.size w' w'') := fun w' h => by rw [hr]; exact refGaps_any a c L p w' h (by omega) HOK.out
  have HWG : Hid (∀ w', Rd w' w'.heap.size a (flatL L) → Calls Try.prog 15 #[.slice a L.length c, .agg #[.int .i64 p.client, .int .i64 p.server]] w' fun e w'' => e = .returned (.bool (withinB r)) ∧ Below w'.heap.size w' w'') := fun w' h => by rw [hr]; exact HWI.out a c L p w' h (by omega) HOK.out
  clear hr
  cases r with
  | none =>
    simp only [gapsV, withinB] at HPG HRG HWG
    go_enter Try.func4, Try.ntmps4
    go_wp2_with (first
      | (go_at_call 7; refine HGR.out.mono ?_; rintro e w1 ⟨rfl, hb1⟩; have HB1 := Lib.hid (bel2 HBV.out hb1)
         have d0 := (hb1.cell (p := ⟨w.heap.size, 0, none⟩) hbz).trans hx0
         have d1 := (hb1.cell (p := ⟨w.heap.size, 1, none⟩) hbz).trans hx1
         clear hb1)
      | (go_at_call 13
         refine (HPG.out w1 ((HA.out.below HB1.out).more HB1.out.size)).mono ?_; rintro e w2 ⟨rfl, hb2⟩
         have HB2 := Lib.hid (bel2 HB1.out hb2)
         have d0 := (hb2.cell (p := ⟨w.heap.size, 0, none⟩) (block_lt_of_cell d0)).trans d0
         have d1 := (hb2.cell (p := ⟨w.heap.size, 1, none⟩) (block_lt_of_cell d1)).trans d1
         clear hb2)
      | (go_at_call 14
         refine (HRG.out w2 ((HA.out.below HB2.out).more HB2.out.size)).mono ?_; rintro e w3 ⟨rfl, hb3⟩
         have HB3 := Lib.hid (bel2 HB2.out hb3)
         have d0 := (hb3.cell (p := ⟨w.heap.size, 0, none⟩) (block_lt_of_cell d0)).trans d0
         have d1 := (hb3.cell (p := ⟨w.heap.size, 1, none⟩) (block_lt_of_cell d1)).trans d1
         clear hb3)
      | (go_at_call 8; refine (fixed12_any HOF.out HGP.out _).mono ?_; rintro e w4 ⟨rfl, hb4⟩
         have HB4 := Lib.hid (bel2 HB3.out hb4)
         have d0 := (hb4.cell (p := ⟨w.heap.size, 0, none⟩) (block_lt_of_cell d0)).trans d0
         have d1 := (hb4.cell (p := ⟨w.heap.size, 1, none⟩) (block_lt_of_cell d1)).trans d1
         clear hb4)
      | (go_at_call 15
         refine (HWG.out w4 ((HA.out.below HB4.out).more HB4.out.size)).mono ?_; rintro e w5 ⟨rfl, hb5⟩
         have HB5 := Lib.hid (bel2 HB4.out hb5); clear hb5))
    go_ret
    exact ⟨rfl, HB5.out⟩
  | some q =>
    obtain ⟨x, y⟩ := q
    have q1 : (x == x) = true := by simp
    have q2 : (y == y) = true := by simp
    by_cases hx : 0 ≤ x
    · have e1 : decide (0 ≤ x) = true := decide_eq_true hx
      by_cases hy : 0 ≤ y
      · have e2 : decide (0 ≤ y) = true := decide_eq_true hy
        simp only [gapsV, withinB, e1, e2, Bool.and_self] at HPG HRG HWG
        go_enter Try.func4, Try.ntmps4
        go_wp2_with (first
          | (go_at_call 7; refine HGR.out.mono ?_; rintro e w1 ⟨rfl, hb1⟩; have HB1 := Lib.hid (bel2 HBV.out hb1)
             have d0 := (hb1.cell (p := ⟨w.heap.size, 0, none⟩) hbz).trans hx0
             have d1 := (hb1.cell (p := ⟨w.heap.size, 1, none⟩) hbz).trans hx1
             clear hb1)
          | (go_at_call 13
             refine (HPG.out w1 ((HA.out.below HB1.out).more HB1.out.size)).mono ?_; rintro e w2 ⟨rfl, hb2⟩
             have HB2 := Lib.hid (bel2 HB1.out hb2)
             have d0 := (hb2.cell (p := ⟨w.heap.size, 0, none⟩) (block_lt_of_cell d0)).trans d0
             have d1 := (hb2.cell (p := ⟨w.heap.size, 1, none⟩) (block_lt_of_cell d1)).trans d1
             clear hb2)
          | (go_at_call 14
             refine (HRG.out w2 ((HA.out.below HB2.out).more HB2.out.size)).mono ?_; rintro e w3 ⟨rfl, hb3⟩
             have HB3 := Lib.hid (bel2 HB2.out hb3)
             have d0 := (hb3.cell (p := ⟨w.heap.size, 0, none⟩) (block_lt_of_cell d0)).trans d0
             have d1 := (hb3.cell (p := ⟨w.heap.size, 1, none⟩) (block_lt_of_cell d1)).trans d1
             clear hb3)
          | (go_at_call 8; refine (fixed12_any HOF.out HGP.out _).mono ?_; rintro e w4 ⟨rfl, hb4⟩
             have HB4 := Lib.hid (bel2 HB3.out hb4)
             have d0 := (hb4.cell (p := ⟨w.heap.size, 0, none⟩) (block_lt_of_cell d0)).trans d0
             have d1 := (hb4.cell (p := ⟨w.heap.size, 1, none⟩) (block_lt_of_cell d1)).trans d1
             clear hb4)
          | (go_at_call 15
             refine (HWG.out w4 ((HA.out.below HB4.out).more HB4.out.size)).mono ?_; rintro e w5 ⟨rfl, hb5⟩
             have HB5 := Lib.hid (bel2 HB4.out hb5); clear hb5))
        go_ret
        exact ⟨rfl, HB5.out⟩
      · have e2 : decide (0 ≤ y) = false := decide_eq_false hy
        simp only [gapsV, withinB, e1, e2, Bool.and_false] at HPG HRG HWG
        go_enter Try.func4, Try.ntmps4
        go_wp2_with (first
          | (go_at_call 7; refine HGR.out.mono ?_; rintro e w1 ⟨rfl, hb1⟩; have HB1 := Lib.hid (bel2 HBV.out hb1)
             have d0 := (hb1.cell (p := ⟨w.heap.size, 0, none⟩) hbz).trans hx0
             have d1 := (hb1.cell (p := ⟨w.heap.size, 1, none⟩) hbz).trans hx1
             clear hb1)
          | (go_at_call 13
             refine (HPG.out w1 ((HA.out.below HB1.out).more HB1.out.size)).mono ?_; rintro e w2 ⟨rfl, hb2⟩
             have HB2 := Lib.hid (bel2 HB1.out hb2)
             have d0 := (hb2.cell (p := ⟨w.heap.size, 0, none⟩) (block_lt_of_cell d0)).trans d0
             have d1 := (hb2.cell (p := ⟨w.heap.size, 1, none⟩) (block_lt_of_cell d1)).trans d1
             clear hb2)
          | (go_at_call 14
             refine (HRG.out w2 ((HA.out.below HB2.out).more HB2.out.size)).mono ?_; rintro e w3 ⟨rfl, hb3⟩
             have HB3 := Lib.hid (bel2 HB2.out hb3)
             have d0 := (hb3.cell (p := ⟨w.heap.size, 0, none⟩) (block_lt_of_cell d0)).trans d0
             have d1 := (hb3.cell (p := ⟨w.heap.size, 1, none⟩) (block_lt_of_cell d1)).trans d1
             clear hb3)
          | (go_at_call 8; refine (fixed12_any HOF.out HGP.out _).mono ?_; rintro e w4 ⟨rfl, hb4⟩
             have HB4 := Lib.hid (bel2 HB3.out hb4)
             have d0 := (hb4.cell (p := ⟨w.heap.size, 0, none⟩) (block_lt_of_cell d0)).trans d0
             have d1 := (hb4.cell (p := ⟨w.heap.size, 1, none⟩) (block_lt_of_cell d1)).trans d1
             clear hb4)
          | (go_at_call 15
             refine (HWG.out w4 ((HA.out.below HB4.out).more HB4.out.size)).mono ?_; rintro e w5 ⟨rfl, hb5⟩
             have HB5 := Lib.hid (bel2 HB4.out hb5); clear hb5))
        go_ret
        exact ⟨rfl, HB5.out⟩
    · have e1 : decide (0 ≤ x) = false := decide_eq_false hx
      simp only [gapsV, withinB, e1, Bool.false_and] at HPG HRG HWG
      go_enter Try.func4, Try.ntmps4
      go_wp2_with (first
        | (go_at_call 7; refine HGR.out.mono ?_; rintro e w1 ⟨rfl, hb1⟩; have HB1 := Lib.hid (bel2 HBV.out hb1)
           have d0 := (hb1.cell (p := ⟨w.heap.size, 0, none⟩) hbz).trans hx0
           have d1 := (hb1.cell (p := ⟨w.heap.size, 1, none⟩) hbz).trans hx1
           clear hb1)
        | (go_at_call 13
           refine (HPG.out w1 ((HA.out.below HB1.out).more HB1.out.size)).mono ?_; rintro e w2 ⟨rfl, hb2⟩
           have HB2 := Lib.hid (bel2 HB1.out hb2)
           have d0 := (hb2.cell (p := ⟨w.heap.size, 0, none⟩) (block_lt_of_cell d0)).trans d0
           have d1 := (hb2.cell (p := ⟨w.heap.size, 1, none⟩) (block_lt_of_cell d1)).trans d1
           clear hb2)
        | (go_at_call 14
           refine (HRG.out w2 ((HA.out.below HB2.out).more HB2.out.size)).mono ?_; rintro e w3 ⟨rfl, hb3⟩
           have HB3 := Lib.hid (bel2 HB2.out hb3)
           have d0 := (hb3.cell (p := ⟨w.heap.size, 0, none⟩) (block_lt_of_cell d0)).trans d0
           have d1 := (hb3.cell (p := ⟨w.heap.size, 1, none⟩) (block_lt_of_cell d1)).trans d1
           clear hb3)
        | (go_at_call 8; refine (fixed12_any HOF.out HGP.out _).mono ?_; rintro e w4 ⟨rfl, hb4⟩
           have HB4 := Lib.hid (bel2 HB3.out hb4)
           have d0 := (hb4.cell (p := ⟨w.heap.size, 0, none⟩) (block_lt_of_cell d0)).trans d0
           have d1 := (hb4.cell (p := ⟨w.heap.size, 1, none⟩) (block_lt_of_cell d1)).trans d1
           clear hb4)
        | (go_at_call 15
           refine (HWG.out w4 ((HA.out.below HB4.out).more HB4.out.size)).mono ?_; rintro e w5 ⟨rfl, hb5⟩
           have HB5 := Lib.hid (bel2 HB4.out hb5); clear hb5))
      go_ret
      exact ⟨rfl, HB5.out⟩
end Go.Proofs.Ytommpppbdkapbaa

