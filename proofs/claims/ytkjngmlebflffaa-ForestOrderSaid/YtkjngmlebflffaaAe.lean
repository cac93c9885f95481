import Derived.Test.YtkjngmlebflffaaAd
namespace Go.Proofs.Ytkjngmlebflffaa
open Go Go.RowKit Go.Sort
set_option linter.unusedVariables false

/-! The laws of stage 11, over what the landed code has to pay: the example, rows, kids. -/
theorem row11 : rowL [-1, 0, 0, 1] = [⟨0, 0, -1⟩, ⟨1, 1, 0⟩, ⟨3, 2, 1⟩, ⟨2, 1, 0⟩] := by kernel_rfl
set_option maxHeartbeats 4000000 in
theorem fixed11_any (hrow : RowPay 9) (w : World) : Calls Try.prog 7 #[] w fun e w' => e = .returned (.bool true) ∧ Below w.heap.size w w' := by
  have HROW := Lib.hid hrow; clear hrow
  have HR := Lib.hid (show Rd (w.alloc (.cells #[.int .i64 (-1), .int .i64 0, .int .i64 0, .int .i64 1] 3)) (w.alloc (.cells #[.int .i64 (-1), .int .i64 0, .int .i64 0, .int .i64 1] 3)).heap.size (some ⟨w.heap.size, 0, none⟩) (intV [-1, 0, 0, 1]) from (lit_rd w #[.int .i64 (-1), .int .i64 0, .int .i64 0, .int .i64 1] 3).more (by simp))
  go_enter Try.func7, Try.ntmps7
  go_wp2_with (go_at_call 9
               refine (HROW.out (some ⟨w.heap.size, 0, none⟩) 4 [-1, 0, 0, 1] _ HR.out (by decide) (by intro x hx; simp only [List.mem_cons, List.not_mem_nil, or_false] at hx; omega)).mono ?_
               rw [row11]
               rintro e w1 ⟨v, rfl, hown, hb⟩
               obtain ⟨va, vc, rfl, _, _, _⟩ := own_slice hown
               have HB := Lib.hid (bel2 (box1 w _) hb)
               obtain ⟨b0, o0, e0, _, c0, _, _⟩ := (Rd.own hown).item (i := 0) (by decide)
               obtain ⟨b1, o1, e1, _, d0, _, _⟩ := (Rd.own hown).item (i := 1) (by decide)
               obtain ⟨b2, o2, e2, _, f0, f1, _⟩ := (Rd.own hown).item (i := 2) (by decide)
               obtain ⟨b3, o3, e3, _, g0, _, _⟩ := (Rd.own hown).item (i := 3) (by decide)
               subst e0
               obtain ⟨rfl, rfl⟩ := And.intro (Addr.mk.inj (Option.some.inj e1)).1 (Addr.mk.inj (Option.some.inj e1)).2.1
               obtain ⟨rfl, rfl⟩ := And.intro (Addr.mk.inj (Option.some.inj e2)).1 (Addr.mk.inj (Option.some.inj e2)).2.1
               obtain ⟨rfl, rfl⟩ := And.intro (Addr.mk.inj (Option.some.inj e3)).1 (Addr.mk.inj (Option.some.inj e3)).2.1
               clear e1 e2 e3 hown hb HR
               simp only [Nat.reduceMul, Nat.add_zero, List.getElem_cons_zero, List.getElem_cons_succ, Nat.add_assoc, Nat.reduceAdd] at c0 d0 f0 f1 g0)
  go_wp2_with fail
  go_ret
  exact ⟨rfl, HB.out⟩
set_option maxHeartbeats 4000000 in
theorem law_rows11 (hrow : RowPay 9) (hdep : DepthPay 11) (a : Option Addr) (c : Nat) (P : List Int) (w : World) (ha : Rd w w.heap.size a (intV P)) (hc1 : P.length ≤ maxLen) (hok : ∀ x ∈ P, -9223372036854775808 ≤ x ∧ x < 9223372036854775808) :
    Calls Try.prog 3 #[.slice a P.length c] w fun e w' => e = .returned (.bool true) ∧ Below w.heap.size w w' := by
  have HROW := Lib.hid hrow; have HDEP := Lib.hid hdep; have HA := Lib.hid ha; have HOK := Lib.hid hok; clear hrow hdep ha hok
  unfold maxLen at hc1
  by_cases hg : 60 < P.length
  · go_enter Try.func3, Try.ntmps3
    go_wp2_with (go_at_call 7; refine (fixed11_any HROW.out _).mono ?_; rintro e w2 ⟨rfl, hb2⟩)
    go_ret
    exact ⟨rfl, hb2⟩
  have hrl := row_le P
  obtain ⟨D, hD⟩ : ∃ D, D = depthL P := ⟨_, rfl⟩
  have HD := Lib.hid hD; clear hD
  go_enter Try.func3, Try.ntmps3
  go_wp2_with (first
    | (go_at_call 7
       refine (fixed11_any HROW.out _).mono ?_; rintro e w2 ⟨rfl, hb2⟩
       have HB2 := Lib.hid hb2; clear hb2)
    | (go_at_call 9
       refine (HROW.out a c P w2 ((HA.out.below HB2.out).more HB2.out.size) (by omega) HOK.out).mono ?_; rintro e w3 ⟨v3, rfl, hown3, hb3⟩
       obtain ⟨a3, c3, rfl, _, _, _⟩ := own_slice hown3
       have HO3 := Lib.hid hown3; have HB3 := Lib.hid (bel2 HB2.out hb3); clear hown3 hb3)
    | (go_at_call 10
       refine (refRow_any a c P w3 ((HA.out.below HB3.out).more HB3.out.size) (by omega) HOK.out).mono ?_; rintro e w4 ⟨v4, rfl, hown4, hb4⟩
       obtain ⟨a4, c4, rfl, _, _, _⟩ := own_slice hown4
       have HO4 := Lib.hid hown4; have HP4 := Lib.hid (own_below HO3.out hb4); have HB4 := Lib.hid (bel2 HB3.out hb4); clear hown4 hb4)
    | (go_at_call 8
       refine (same11_is a3 a4 c3 c4 _ (rowL P) w4 rfl (Rd.own HP4.out) (Rd.own HO4.out) (by unfold maxLen; omega)).mono ?_; rintro e w5 ⟨rfl, hb5⟩
       have HB5 := Lib.hid (bel2 HB4.out hb5); clear hb5)
    | (go_at_call 11
       refine (HDEP.out a c P w5 ((HA.out.below HB5.out).more HB5.out.size) (by omega) HOK.out).mono ?_; rintro e w6 ⟨rfl, hb6⟩
       rw [← HD.out]
       have HB6 := Lib.hid (bel2 HB5.out hb6); clear hb6)
    | (go_at_call 12
       refine (refDepth_any a c P w6 ((HA.out.below HB6.out).more HB6.out.size) (by omega) HOK.out).mono ?_; rintro e w7 ⟨rfl, hb7⟩
       rw [← HD.out]
       have HB7 := Lib.hid (bel2 HB6.out hb7); clear hb7))
  go_ret
  exact ⟨ret_bool (by simp), HB7.out⟩
set_option maxHeartbeats 4000000 in
theorem law_kids11 (hrow : RowPay 9) (hkid : KidsPay 14) (a : Option Addr) (c : Nat) (P : List Int) (x : Int) (w : World) (ha : Rd w w.heap.size a (intV P)) (hc1 : P.length ≤ maxLen) :
    Calls Try.prog 4 #[.slice a P.length c, .int .i64 x] w fun e w' => e = .returned (.bool true) ∧ Below w.heap.size w w' := by
  have HROW := Lib.hid hrow; have HKID := Lib.hid hkid; have HA := Lib.hid ha; clear hrow hkid ha
  unfold maxLen at hc1
  by_cases hg : 60 < P.length
  · go_enter Try.func4, Try.ntmps4
    go_wp2_with (go_at_call 7; refine (fixed11_any HROW.out _).mono ?_; rintro e w2 ⟨rfl, hb2⟩)
    go_ret
    exact ⟨rfl, hb2⟩
  have hkl := kids_le P x
  go_enter Try.func4, Try.ntmps4
  go_wp2_with (first
    | (go_at_call 7
       refine (fixed11_any HROW.out _).mono ?_; rintro e w2 ⟨rfl, hb2⟩
       have HB2 := Lib.hid hb2; clear hb2)
    | (go_at_call 14
       refine (HKID.out a c P x w2 ((HA.out.below HB2.out).more HB2.out.size) (by omega)).mono ?_; rintro e w3 ⟨v3, rfl, hown3, hb3⟩
       obtain ⟨a3, c3, rfl, _, _, _⟩ := own_slice hown3
       have HO3 := Lib.hid hown3; have HB3 := Lib.hid (bel2 HB2.out hb3); clear hown3 hb3)
    | (go_at_call 15
       refine (refKids_any a c P x w3 ((HA.out.below HB3.out).more HB3.out.size) (by omega)).mono ?_; rintro e w4 ⟨v4, rfl, hown4, hb4⟩
       obtain ⟨a4, c4, rfl, _, _, _⟩ := own_slice hown4
       have HO4 := Lib.hid hown4; have HP4 := Lib.hid (own_below HO3.out hb4); have HB4 := Lib.hid (bel2 HB3.out hb4); clear hown4 hb4)
    | (go_at_call 13
       refine (same10_is a3 a4 c3 c4 (kidsL P x).length (natI (kidsL P x)) w4 (natI_length _) (Rd.own HP4.out) (Rd.own HO4.out) (by unfold maxLen; omega)).mono ?_; rintro e w5 ⟨rfl, hb5⟩
       have HB5 := Lib.hid (bel2 HB4.out hb5); clear hb5))
  go_ret
  exact ⟨rfl, HB5.out⟩
end Go.Proofs.Ytkjngmlebflffaa
