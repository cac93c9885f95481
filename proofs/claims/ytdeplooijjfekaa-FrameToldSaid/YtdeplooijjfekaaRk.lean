import Derived.Test.YtdeplooijjfekaaRj
import Derived.Deep.DeepMust
namespace Go.Proofs.Ytdeplooijjfekaa
open Go Go.RowKit

set_option maxHeartbeats 4000000 in
theorem law_puts (a1 a2 : Option Addr) (c1 c2 : Nat) (l1 l2 : List UInt8) (w : World) (hr1 : Rd w w.heap.size a1 (bV l1)) (hr2 : Rd w w.heap.size a2 (bV l2)) (_hlc1 : l1.length ≤ c1) (_hc1 : c1 ≤ maxLen) (_hlc2 : l2.length ≤ c2) (_hc2 : c2 ≤ maxLen) :
    Calls Try.prog 3 #[.slice a1 l1.length c1, .slice a2 l2.length c2] w fun e w' => e = .returned (.bool true) ∧ Below w.heap.size w w' := by
  have R1 := Lib.hid hr1; have R2 := Lib.hid hr2; clear hr1 hr2

  by_cases hlong : 3000 < l1.length
  · go_enter Try.func3, Try.ntmps3
    go_wp2_with (go_at_call 7; refine (fixed_any _).mono ?_; rintro e w' ⟨rfl, hb⟩)
    go_ret
    exact ⟨rfl, hb⟩
  by_cases hlong2 : 100 < l2.length
  · go_enter Try.func3, Try.ntmps3
    go_wp2_with (go_at_call 7; refine (fixed_any _).mono ?_; rintro e w' ⟨rfl, hb⟩)
    go_ret
    exact ⟨rfl, hb⟩
  obtain ⟨n1, hn1⟩ : ∃ n1, n1 = l1.length := ⟨_, rfl⟩
  obtain ⟨n2, hn2⟩ : ∃ n2, n2 = l2.length := ⟨_, rfl⟩
  have HN1 := Lib.hid hn1; have HN2 := Lib.hid hn2
  rw [← hn1] at hlong ⊢
  rw [← hn2] at hlong2 ⊢
  clear hn1 hn2
  have s1 : ∀ W : World, Rd W W.heap.size a1 (bV l1) → (convert 22 9 (.slice a1 n1 c1)).run Try.prog W = .ok (.string (bs l1)) W := fun W h => run_string_of n1 c1 h HN1.out
  have S1 := Lib.hid s1
  clear s1
  cases hm : mayF l1.length with
  | false =>
    have HM := Lib.hid hm
    clear hm
    go_enter Try.func3, Try.ntmps3
    go_wp2_with fail
    refine (putR_is a1 n1 c1 l1 [] 1 w HN1.out (by rw [HM.out]; rfl) R1.out).mono ?_; rintro e w1 ⟨b1, d1, rfl, hd1, hm1, hr1, hb1⟩
    have HR1 := Lib.hid hr1; have HB1 := Lib.hid hb1
    have cv := S1.out w1 ((R1.out.below hb1).more hb1.size)
    clear hr1 hb1
    go_wp2_with fail
    refine (refFr_is _ l1 [] 1 w1 rfl (by rw [HM.out]; rfl)).mono ?_; rintro e w2 ⟨rfl, hb2⟩
    have cv2 := run_string_of (w := w2) (l := []) 0 d1 ((HR1.out.below hb2).more hb2.size) rfl
    have HB2 := Lib.hid (bel2 HB1.out hb2)
    clear hb2 cv
    go_wp2_with fail
    refine (fixed_any _).mono ?_; rintro e w3 ⟨rfl, hb3⟩
    have HB3 := Lib.hid (bel2 HB2.out hb3)
    clear hb3
    go_wp2_with fail
    go_ret
    exact ⟨rfl, HB3.out⟩
  | true =>
    have HM := Lib.hid hm
    clear hm
    obtain ⟨L, hL⟩ : ∃ L, L = frL l1 := ⟨_, rfl⟩
    have HL := Lib.hid hL
    clear hL
    go_enter Try.func3, Try.ntmps3
    go_wp2_with fail
    refine (putR_is a1 n1 c1 l1 L 0 w HN1.out (by rw [HM.out, HL.out]; rfl) R1.out).mono ?_; rintro e w1 ⟨b1, d1, rfl, hd1, hm1, hr1, hb1⟩
    have HR1 := Lib.hid hr1; have HB1 := Lib.hid hb1
    have cv := S1.out w1 ((R1.out.below hb1).more hb1.size)
    clear hr1 hb1
    go_wp2_with fail
    refine (refFr_is _ l1 L 0 w1 rfl (by rw [HM.out, HL.out]; rfl)).mono ?_; rintro e w2 ⟨rfl, hb2⟩
    have cv2 := run_string_of (w := w2) (l := L) L.length d1 ((HR1.out.below hb2).more hb2.size) rfl
    have HB2 := Lib.hid (bel2 HB1.out hb2)
    have HR2 := Lib.hid ((HR1.out.below hb2).more hb2.size)
    have R22 := Lib.hid ((R2.out.below HB2.out).more HB2.out.size)
    have R12 := Lib.hid ((R1.out.below HB2.out).more HB2.out.size)
    have hbs : w.heap.size ≤ w2.heap.size := HB2.out.size
    have HLL : Hid (L.length = 6 + n1) := by show _ = _; rw [HL.out, frL_length, ← HN1.out]
    have HM' := mayF_iff.1 HM.out
    rw [← HN1.out] at HM'
    have hLb : L.length ≤ 3000 := by rw [HLL.out]; omega
    obtain ⟨i0, hi0, hz0, hz1, hz2⟩ := info_parts info_u8
    have HZ2 := Lib.hid hz2
    clear hb2 cv hz2
    go_wp2_with (first
      | (at_builtin
         refine wpList_append_rd _ rfl (.tmp 45) (.tmp 46) 22 rfl w2.heap.size 5 i0 _ 1 1 Try.underlying22 hi0 hz0 hz1 HZ2.out rfl (by omega) (.slice (some ⟨w2.heap.size, 0, none⟩) 0 0) 0 [] rfl (World.ownsRow_made w2 #[] 0 (Nat.le_refl _) (by decide) rfl) _ _ n2 _ (bV l2) rfl (by rw [bV_length, HN2.out, Nat.mul_one]) (R22.out.below (box1 w2 _)) (bV_one _) (by unfold maxLen; omega) (by omega) (by simp) ?_
         intro v7 w3 hown3 hg3 _
         rw [Nat.zero_add, List.nil_append] at hown3
         have HO3 := Lib.hid hown3; have HB3 := Lib.hid (Below.of_grown (box1 w2 (.cells #[] 5)) hg3 (by simp) (by intro g hg; simp [Value.ownBlock] at hg; omega))
         have HS3 : w2.heap.size ≤ w3.heap.size := HB3.out.size
         clear hown3 hg3)
      | (at_builtin
         go_must (refine wpList_append_rd _ rfl _ _ 22 rfl w2.heap.size 5 i0 _ 1 1 Try.underlying22 hi0 hz0 hz1 HZ2.out rfl (by omega) v7 n2 (bV l2) rfl HO3.out _ _ L.length _ (bV L) rfl (by rw [bV_length, Nat.mul_one]) (HR2.out.below HB3.out) (bV_one _) (by unfold maxLen; omega) (by omega) HS3 ?_)
         intro v8 w4 hown4 hg4 _
         rw [← bV_append] at hown4
         have HO4 := Lib.hid hown4; have HB4 := Lib.hid (HB3.out.grown hg4 HS3 (by intro g hg; exact (own_shape HO3.out hg).1))
         clear hown4 hg4))
    obtain ⟨a8, c8, rfl, h8, h8m, _⟩ := own_slice HO4.out
    have HCAT : Hid (n2 + L.length = (l2 ++ L).length) := by show _ = _; rw [List.length_append, HN2.out]
    have HG : Hid (gotF (l2 ++ L) (n2 : Int) = .ok l1) := by
      show _ = _
      rw [gotF_at (by rw [← HCAT.out]; have := HLL.out; omega), HN2.out, List.drop_left]
      refine firstF_of ?_ HM.out
      rw [HL.out, ← frL_length, List.take_length]
    have HB4' : Hid (Below w.heap.size w w4) := HB2.out.trans (HB4.out.mono hbs)
    have RD : Hid (Rd w4 w4.heap.size a8 (bV (l2 ++ L))) := Rd.own HO4.out
    have R14 := Lib.hid ((R12.out.below HB4.out).more HB4.out.size)
    refine (gotF_any a8 (n2 + L.length) c8 (l2 ++ L) (n2 : Int) w4 HCAT.out (by rw [← HCAT.out]; exact h8) h8m (by rw [← HCAT.out]; omega) RD.out).mono ?_
    rintro e w5 ⟨hb5, (⟨B, v9, hg, rfl, ho⟩ | ⟨k, hg, rfl⟩)⟩
    case inr => exfalso; rw [HG.out] at hg; cases hg
    obtain rfl : l1 = B := by rw [HG.out] at hg; injection hg
    obtain ⟨a9, c9, rfl, _, _, _⟩ := own_slice ho
    have HB5 := Lib.hid (bel2 HB4'.out hb5)
    have R15 := Lib.hid ((R14.out.below hb5).more hb5.size)
    have RD5 := Lib.hid (Rd.own ho)
    clear hg ho hb5 h8 h8m
    go_wp2_with fail
    refine (fixed_any _).mono ?_; rintro e w6 ⟨rfl, hb6⟩
    have HB6 := Lib.hid (bel2 HB5.out hb6)
    have cx := run_string_of (w := w6) (l := l1) l1.length c9 ((RD5.out.below hb6).more hb6.size) rfl
    have cy := S1.out w6 ((R15.out.below hb6).more hb6.size)
    have heq : ((n2 : Int) + 6 + (l1.length : Int) == (n2 : Int) + (L.length : Int)) = true := by
      have h1 := HLL.out; have h2 := HN1.out; simp; omega
    clear hb6
    go_wp2_with fail
    go_ret
    exact ⟨rfl, HB6.out⟩
end Go.Proofs.Ytdeplooijjfekaa
