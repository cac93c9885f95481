import Derived.Test.YtkaafjcfcknbpaaMi
namespace Go.Proofs.Ytkaafjcfcknbpaa
open Go Go.RowKit Go.Sort

/-! SegmentHeads. -/
set_option maxRecDepth 20000 in
set_option maxHeartbeats 1000000 in
theorem law_heads (n : Nat) (k : Int) (w : World) (hn : n < 4294967296) :
    Calls Try.prog 3 #[.int .u32 (n : Int), .int .i64 k] w fun e w' => e = .returned (.bool true) ∧ Below w.heap.size w w' := by
  by_cases h : 1 ≤ k ∧ k ≤ 16
  · obtain ⟨q, rfl⟩ : ∃ q : Nat, k = q := ⟨k.toNat, by omega⟩
    have hq1 : 1 ≤ q := by omega
    have hq2 : q ≤ 16 := by omega
    obtain ⟨H, hH⟩ : ∃ H, H = headL n q := ⟨_, rfl⟩
    have hHl : H.length = 14 := by rw [hH, headL_length]
    have HH := Lib.hid hH; have HHL := Lib.hid hHl
    clear hH hHl h
    go_enter Try.func3, Try.ntmps3
    go_wp2_with fail
    refine (head_yes n q w hn hq1 hq2).mono ?_; rintro e w1 ⟨a1, c1, rfl, hc1, hm1, hr1, hb1⟩
    rw [← HH.out] at hc1 hr1 ⊢
    rw [HHL.out] at hc1 ⊢
    have HR1 := Lib.hid hr1; have HB1 := Lib.hid hb1; have HC1 := Lib.hid hc1; have HM1 := Lib.hid hm1
    clear hr1 hb1 hc1 hm1
    go_wp2_with fail
    refine (refHead_yes n q w1 hn hq1 hq2).mono ?_; rintro e w2 ⟨rfl, hb2⟩
    rw [← HH.out]
    have HR2 := Lib.hid ((HR1.out.below hb2).more hb2.size); have HB2 := Lib.hid (bel2 HB1.out hb2)
    have cv := run_string_of (w := w2) (l := H) 14 c1 HR2.out HHL.out.symm
    clear hb2
    go_wp2_with fail
    refine (read_head n q a1 c1 w2 hn hq1 hq2 (by rw [← HH.out]; exact HR2.out) HC1.out HM1.out).mono ?_; rintro e w3 ⟨⟨a3, c3, rfl⟩, hb3⟩
    have HB3 := Lib.hid (bel2 HB2.out hb3)
    clear hb3 cv
    unfold sgV
    go_wp2_with fail
    obtain ⟨w4, hw4⟩ : ∃ w4, w4 = w3.alloc (.cells #[.int .u32 (n : Int), .int .i64 (q : Int), .slice a3 0 c3, .int .i64 14, .bool false] 31) := ⟨_, rfl⟩
    rw [← hw4]
    have HRG : Hid (w4.rangeAt w3.heap.size 0 [.int .u32 (n : Int), .int .i64 (q : Int), .slice a3 0 c3, .int .i64 14, .bool false]) := by show World.rangeAt _ _ _ _; rw [hw4]; exact rangeAt_last w3 _ _ _ rfl
    have HS4 : Hid (w3.heap.size < w4.heap.size) := by show _ < _; rw [hw4]; simp
    have HB4 : Hid (Below w.heap.size w w4) := by show Below _ _ _; rw [hw4]; exact HB3.out.alloc HB3.out.size _
    clear hw4
    refine (fixed7_any w4).mono ?_; rintro e w5 ⟨rfl, hb5⟩
    have rg := range_below HRG.out hb5 HS4.out
    have s0 := rg 0 _ rfl; have s1 := rg 1 _ rfl
    rw [Nat.zero_add] at s0 s1
    have HB5 := Lib.hid (bel2 HB4.out hb5)
    clear hb5 rg
    go_wp2_with fail
    go_ret
    exact ⟨ret_bool (by simp), HB5.out⟩
  · have hd : (decide (1 ≤ k) && decide (k ≤ 16)) = false := by simp; omega
    have HD := Lib.hid hd; have HK := Lib.hid h
    clear hd h
    go_enter Try.func3, Try.ntmps3
    go_wp2_with fail
    refine (head_no (n : Int) k w HD.out).mono ?_; rintro e w1 ⟨a1, c1, rfl, hc1, hm1, hr1, hb1⟩
    rw [List.length_nil]
    have HR1 := Lib.hid hr1; have HB1 := Lib.hid hb1; have HC1 := Lib.hid hc1; have HM1 := Lib.hid hm1
    clear hr1 hb1 hc1 hm1
    go_wp2_with fail
    refine (refHead_no (n : Int) k w1 HK.out).mono ?_; rintro e w2 ⟨rfl, hb2⟩
    have HR2 := Lib.hid ((HR1.out.below hb2).more hb2.size); have HB2 := Lib.hid (bel2 HB1.out hb2)
    have cv := run_string_of (w := w2) (l := []) 0 c1 HR2.out rfl
    clear hb2
    go_wp2_with fail
    refine (read_any a1 c1 [] w2 HR2.out (by simp) HC1.out HM1.out).mono ?_
    rintro e w3 ⟨hb3, (⟨m, hm, rfl⟩ | ⟨N, K, v, xs, hm, rfl, ho, _, hx⟩)⟩
    case inr => rw [headOf_short (by simp)] at hm; cases hm
    obtain rfl : m = 2 := by rw [headOf_short (by simp)] at hm; injection hm with hm; exact hm.symm
    have HB3 := Lib.hid (bel2 HB2.out hb3)
    clear hb3 cv hm
    unfold sgV
    go_wp2_with (go_at_call 10; refine (fixed7_any _).mono ?_; rintro e w5 ⟨rfl, hb5⟩)
    go_ret
    exact ⟨rfl, bel2 (HB3.out.alloc HB3.out.size _) hb5⟩
end Go.Proofs.Ytkaafjcfcknbpaa
