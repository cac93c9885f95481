import Derived.Test.YtommpppbdkapbaaBb
import Derived.Test.YtommpppbdkapbaaSg
namespace Go.Proofs.Ytommpppbdkapbaa
open Go Go.RowKit Go.Sort
set_option linter.unusedVariables false

/-! The laws of stage 12, over what the landed code has to pay: the example, pairs. -/
def sA12 : Sp := ⟨1, 1, 0, 1, ⟨#[97]⟩, ⟨#[98]⟩, 5, 15⟩
def sB12 : Sp := ⟨1, 2, 1, 2, ⟨#[99]⟩, ⟨#[98]⟩, 8, 4⟩
theorem ok12 : ∀ s ∈ [sA12, sB12], s.Ok := by
  intro s hs
  simp only [List.mem_cons, List.not_mem_nil, or_false] at hs
  rcases hs with rfl | rfl
  · refine ⟨?_, ?_, ?_, ?_, by decide, by decide, ?_, ?_⟩ <;> (first | (unfold U64; simp [sA12]) | (unfold U8; simp [sA12]) | (unfold I64; simp [sA12]))
  · refine ⟨?_, ?_, ?_, ?_, by decide, by decide, ?_, ?_⟩ <;> (first | (unfold U64; simp [sB12]) | (unfold U8; simp [sB12]) | (unfold I64; simp [sB12]))
theorem pairs12 : pairsL [sA12, sB12] [-1, 0] = [⟨0, 1⟩] := by kernel_rfl
theorem gaps12 : gapsL [sA12, sB12] ⟨0, 1⟩ = some (3, 8) := by kernel_rfl
def withinB : Option (Int × Int) → Bool
  | some (x, y) => decide (0 ≤ x) && decide (0 ≤ y)
  | none => false
/-- What a Within pays. -/
def WithinPay (F : Nat) : Prop := ∀ (a : Option Addr) (c : Nat) (L : List Sp) (p : Pr) (w : World), Rd w w.heap.size a (flatL L) → L.length ≤ 100000 → (∀ s ∈ L, s.Ok) →
  Calls Try.prog F #[.slice a L.length c, p.v] w fun e w' => e = .returned (.bool (withinB (gapsL L p))) ∧ Below w.heap.size w w'
set_option maxHeartbeats 4000000 in
theorem fixed12_any (hof : PairsPay 11) (hgp : GapsPay 13) (w : World) : Calls Try.prog 8 #[] w fun e w' => e = .returned (.bool true) ∧ Below w.heap.size w w' := by
  have HOF := Lib.hid hof; have HGP := Lib.hid hgp; clear hof hgp
  have hr : Rd (w.alloc (.cells (sA12.c ++ sB12.c) 38)) (w.alloc (.cells (sA12.c ++ sB12.c) 38)).heap.size (some ⟨w.heap.size, 0, none⟩) (flatL [sA12, sB12]) := by
    have h := lit_rd w (sA12.c ++ sB12.c) 38
    have e : flatL [sA12, sB12] = (sA12.c ++ sB12.c).toList := by simp [flatL]
    rw [e]
    exact h.more (by simp)
  have HR := Lib.hid hr; clear hr
  have HBV := Lib.hid (box1 w (.cells (sA12.c ++ sB12.c) 38))
  go_enter Try.func8, Try.ntmps8
  go_wp2_with (first
    | (go_at_call 11
       refine (HOF.out (some ⟨w.heap.size, 0, none⟩) 2 [sA12, sB12] (some ⟨w.heap.size + 1, 0, none⟩) 2 [-1, 0] _ ((HR.out.below (box1 _ (.cells #[.int .i64 (-1), .int .i64 0] 3))).more (by simp)) ((lit_at (w.alloc (.cells (sA12.c ++ sB12.c) 38)) #[.int .i64 (-1), .int .i64 0] 3 (w.heap.size + 1) (by simp)).more (by simp)) (by decide) (by decide) ok12 (by intro x hx; simp only [List.mem_cons, List.not_mem_nil, or_false] at hx; omega)).mono ?_
       rw [pairs12]
       rintro e w2 ⟨v, rfl, hown, hb⟩
       obtain ⟨va, vc, rfl, _, _, _⟩ := own_slice hown
       have HO := Lib.hid hown
       have HR2 := Lib.hid ((HR.out.below (box1 _ (.cells #[.int .i64 (-1), .int .i64 0] 3))).below (hb.mono (by simp)))
       have HB2 := Lib.hid ((HBV.out.alloc (by simp) (.cells #[.int .i64 (-1), .int .i64 0] 3)).trans (hb.mono (by simp; omega)))
       have hs2 := hb.size
       clear hown hb)
    | (go_at_call 13
       refine (HGP.out (some ⟨w.heap.size, 0, none⟩) 2 [sA12, sB12] ⟨0, 1⟩ w2 (HR2.out.more (by simp at hs2 ⊢; omega)) (by decide) ok12).mono ?_
       rw [gaps12]
       simp only [gapsV]
       rintro e w3 ⟨rfl, hb3⟩
       have HO3 := Lib.hid (own_below HO.out hb3)
       have HB3 := Lib.hid (bel2 HB2.out hb3)
       obtain ⟨b0, o0, e0, _, c0, c1⟩ := (Rd.own HO3.out).pr (i := 0) (by decide)
       subst e0
       simp only [Nat.zero_mul, Nat.add_zero, List.getElem_cons_zero] at c0 c1
       clear hb3))
  go_wp2_with fail
  go_ret
  exact ⟨rfl, HB3.out⟩
theorem great_len {L : List Sp} (h : greatB L = false) : L.length ≤ 60 := by
  rcases Nat.lt_or_ge 60 L.length with h1 | h1
  · rw [great_many h1] at h; cases h
  · exact h1
theorem own_range {L : List Sp} (h : L.length ≤ 100000) : ∀ x ∈ cutP (parL L), -9223372036854775808 ≤ x ∧ x < 9223372036854775808 := fun x hx => by
  have := cutP_valid (parL_valid L) x hx
  rw [cutP_length, parL_length] at this
  omega
theorem cut_len12 (L : List Sp) : (cutP (parL L)).length = L.length := by rw [cutP_length, parL_length]
set_option maxHeartbeats 8000000 in
theorem law_pairs12 (hof : PairsPay 11) (hgp : GapsPay 13) (a : Option Addr) (c : Nat) (L : List Sp) (b : Option Addr) (d : Nat) (P : List Int) (w : World) (ha : Rd w w.heap.size a (flatL L)) (hb : Rd w w.heap.size b (intV P)) (hc1 : L.length ≤ maxLen) (hc2 : P.length ≤ maxLen) (hok : ∀ s ∈ L, s.Ok)
    (hip : ∀ x ∈ P, -9223372036854775808 ≤ x ∧ x < 9223372036854775808) :
    Calls Try.prog 3 #[.slice a L.length c, .slice b P.length d] w fun e w' => e = .returned (.bool true) ∧ Below w.heap.size w w' := by
  have HOF := Lib.hid hof; have HGP := Lib.hid hgp; have HA := Lib.hid ha; have HB := Lib.hid hb; have HOK := Lib.hid hok; have HIP := Lib.hid hip; clear hof hgp ha hb hok hip
  have hgr := great_any a c L w HA.out hc1 HOK.out
  cases hG : greatB L with
  | true =>
    rw [hG] at hgr
    have HGR := Lib.hid hgr; clear hgr hG
    go_enter Try.func3, Try.ntmps3
    go_wp2_with (first
      | (go_at_call 7; refine HGR.out.mono ?_; rintro e w1 ⟨rfl, hb1⟩; have HB1 := Lib.hid hb1; clear hb1)
      | (go_at_call 8; refine (fixed12_any HOF.out HGP.out _).mono ?_; rintro e w2 ⟨rfl, hb2⟩))
    go_ret
    exact ⟨rfl, bel2 HB1.out hb2⟩
  | false =>
  rw [hG] at hgr
  have HGR := Lib.hid hgr; clear hgr
  have hL60 := great_len hG
  clear hG
  unfold maxLen at hc2
  by_cases hg : 60 < P.length
  · have q1 : decide (60 < (P.length : Int)) = true := decide_eq_true (by omega)
    go_enter Try.func3, Try.ntmps3
    go_wp2_with (first
      | (go_at_call 7; refine HGR.out.mono ?_; rintro e w1 ⟨rfl, hb1⟩; have HB1 := Lib.hid hb1; clear hb1)
      | (go_at_call 8; refine (fixed12_any HOF.out HGP.out _).mono ?_; rintro e w2 ⟨rfl, hb2⟩))
    go_ret
    exact ⟨rfl, bel2 HB1.out hb2⟩
  have q1 : decide (60 < (P.length : Int)) = false := decide_eq_false (by omega)
  obtain ⟨Q, hQ, hql, hqr⟩ : ∃ Q, Q = cutP (parL L) ∧ Q.length = L.length ∧ ∀ x ∈ Q, -9223372036854775808 ≤ x ∧ x < 9223372036854775808 := ⟨_, rfl, cut_len12 L, own_range (by omega)⟩
  have HQE := Lib.hid hQ; have HQL := Lib.hid hql; have HQR := Lib.hid hqr; clear hQ hql hqr
  have hp1 := pairs_le L P
  have hp2 := pairs_le L Q
  go_enter Try.func3, Try.ntmps3
  go_wp2_with (first
    | (go_at_call 7; refine HGR.out.mono ?_; rintro e w1 ⟨rfl, hb1⟩; have HB1 := Lib.hid hb1; clear hb1)
    | (go_at_call 9
       refine (refOf10_any a c L w1 ((HA.out.below HB1.out).more HB1.out.size) (by omega)).mono ?_; rintro e w2 ⟨v2, rfl, hown2, hb2⟩
       rw [← HQE.out] at hown2
       obtain ⟨a2, c2, rfl, _, _, _⟩ := own_slice hown2
       have HO2 := Lib.hid hown2; have HB2 := Lib.hid (bel2 HB1.out hb2); clear hown2 hb2)
    | (go_at_call 8; refine (fixed12_any HOF.out HGP.out _).mono ?_; rintro e w3 ⟨rfl, hb3⟩
       have HO3 := Lib.hid (own_below HO2.out hb3); have HB3 := Lib.hid (bel2 HB2.out hb3); clear hb3)
    | (go_at_call 11
       with_reducible (show Calls Try.prog 11 #[.slice a L.length c, .slice b P.length d] w3 _)
       refine (HOF.out a c L b d P w3 ((HA.out.below HB3.out).more HB3.out.size) ((HB.out.below HB3.out).more HB3.out.size) (by omega) (by omega) HOK.out HIP.out).mono ?_; rintro e w4 ⟨v4, rfl, hown4, hb4⟩
       obtain ⟨a4, c4, rfl, _, _, _⟩ := own_slice hown4
       have HO4 := Lib.hid hown4; have HP4 := Lib.hid (own_below HO3.out hb4); have HB4 := Lib.hid (bel2 HB3.out hb4); clear hown4 hb4)
    | (go_at_call 12
       with_reducible (show Calls Try.prog 12 #[.slice a L.length c, .slice b P.length d] w4 _)
       refine (refPairs_any a c L b d P w4 ((HA.out.below HB4.out).more HB4.out.size) ((HB.out.below HB4.out).more HB4.out.size) (by omega) (by omega) HOK.out HIP.out).mono ?_; rintro e w5 ⟨v5, rfl, hown5, hb5⟩
       obtain ⟨a5, c5, rfl, _, _, _⟩ := own_slice hown5
       have HO5 := Lib.hid hown5; have HQ5 := Lib.hid (own_below HO4.out hb5); have HP5 := Lib.hid (own_below HP4.out hb5); have HB5 := Lib.hid (bel2 HB4.out hb5); clear hown5 hb5)
    | (go_at_call 10
       with_reducible (show Calls Try.prog 10 #[.slice a4 (pairsL L P).length c4, .slice a5 (pairsL L P).length c5] w5 _)
       refine (same12_is a4 a5 c4 c5 _ (pairsL L P) w5 rfl (Rd.own HQ5.out) (Rd.own HO5.out) (by unfold maxLen; omega)).mono ?_; rintro e w6 ⟨rfl, hb6⟩
       have HP6 := Lib.hid (own_below HP5.out hb6); have HB6 := Lib.hid (bel2 HB5.out hb6); clear hb6)
    | (go_at_call 11
       have hcall := HOF.out a c L a2 c2 Q w6 ((HA.out.below HB6.out).more HB6.out.size) (Rd.own HP6.out) (by omega) (by rw [HQL.out]; omega) HOK.out HQR.out
       rw [HQL.out] at hcall
       refine hcall.mono ?_; clear hcall; rintro e w7 ⟨v7, rfl, hown7, hb7⟩
       obtain ⟨a7, c7, rfl, _, _, _⟩ := own_slice hown7
       have HO7 := Lib.hid hown7; have HP7 := Lib.hid (own_below HP6.out hb7); have HB7 := Lib.hid (bel2 HB6.out hb7); clear hown7 hb7)
    | (go_at_call 12
       have hcall := refPairs_any a c L a2 c2 Q w7 ((HA.out.below HB7.out).more HB7.out.size) (Rd.own HP7.out) (by omega) (by rw [HQL.out]; omega) HOK.out HQR.out
       rw [HQL.out] at hcall
       refine hcall.mono ?_; clear hcall; rintro e w8 ⟨v8, rfl, hown8, hb8⟩
       obtain ⟨a8, c8, rfl, _, _, _⟩ := own_slice hown8
       have HO8 := Lib.hid hown8; have HQ8 := Lib.hid (own_below HO7.out hb8); have HB8 := Lib.hid (bel2 HB7.out hb8); clear hown8 hb8)
    | (go_at_call 10
       refine (same12_is a7 a8 c7 c8 _ (pairsL L Q) w8 rfl (Rd.own HQ8.out) (Rd.own HO8.out) (by unfold maxLen; omega)).mono ?_; rintro e w9 ⟨rfl, hb9⟩
       have HB9 := Lib.hid (bel2 HB8.out hb9); clear hb9))
  go_ret
  exact ⟨rfl, HB9.out⟩
end Go.Proofs.Ytommpppbdkapbaa

