import Derived.Test.YthcnjljjncgdfaaUg
namespace Go.Proofs.Ythcnjljjncgdfaa
open Go Go.RowKit Go.Sort
set_option linter.unusedVariables false

/-! The laws of stage 10, over what the landed code has to pay. -/
def OfPays : Prop := ∀ (a : Option Addr) (c : Nat) (L : List Sp) (w : World), Rd w w.heap.size a (flatL L) → L.length ≤ 100000 → (∀ s ∈ L, s.Ok) →
  Calls Try.prog 9 #[.slice a L.length c] w fun e w' => ∃ v, e = .returned v ∧ w'.ownsRow w.heap.size 3 1 v L.length (intV (cutP (parL L))) ∧ Below w.heap.size w w'
def RightPays : Prop := ∀ (a : Option Addr) (c : Nat) (P : List Int) (w : World), Rd w w.heap.size a (intV P) → P.length ≤ 100000 → (∀ x ∈ P, -9223372036854775808 ≤ x ∧ x < 9223372036854775808) →
  Calls Try.prog 11 #[.slice a P.length c] w fun e w' => e = .returned (.bool (rightL P)) ∧ Below w.heap.size w w'
def pA : Sp := ⟨0, 1, 2, 0, ⟨#[]⟩, ⟨#[]⟩, 0, 0⟩
def pB : Sp := ⟨0, 2, 1, 0, ⟨#[]⟩, ⟨#[]⟩, 0, 0⟩
theorem pA_ok : pA.Ok := by
  refine ⟨?_, ?_, ?_, ?_, by decide, by decide, ?_, ?_⟩ <;> (first | (unfold U64; simp [pA]) | (unfold U8; simp [pA]) | (unfold I64; simp [pA]))
theorem pB_ok : pB.Ok := by
  refine ⟨?_, ?_, ?_, ?_, by decide, by decide, ?_, ?_⟩ <;> (first | (unfold U64; simp [pB]) | (unfold U8; simp [pB]) | (unfold I64; simp [pB]))
theorem cut10 : cutP (parL [pA, pB]) = [-1, 0] := by decide +kernel
theorem cut_len (L : List Sp) : (cutP (parL L)).length = L.length := by rw [cutP_length, parL_length]
theorem own_len10 {w : World} {base : Nat} {v : Value} {n : Nat} {K : List Int} (h : w.ownsRow base 3 1 v n (intV K)) : K.length = n := by
  have := h.1; rw [intV_length] at this; omega
theorem same10_is (a b : Option Addr) (c d n : Nat) (K : List Int) (w : World) (hn : K.length = n) (ha : Rd w w.heap.size a (intV K)) (hb : Rd w w.heap.size b (intV K)) (hl : n ≤ maxLen) :
    Calls Try.prog 8 #[.slice a n c, .slice b n d] w fun e w' => e = .returned (.bool true) ∧ Below w.heap.size w w' := by
  subst hn
  have := same10_any a b c d K K w ha hb hl hl
  rwa [decide_eq_true rfl] at this

set_option maxHeartbeats 2000000 in
theorem fixed10_any (hof : OfPays) (w : World) : Calls Try.prog 7 #[] w fun e w' => e = .returned (.bool true) ∧ Below w.heap.size w w' := by
  have HOF := Lib.hid hof; clear hof
  have HR := Lib.hid (show Rd (w.alloc (.cells (pA.c ++ pB.c) 31)) (w.alloc (.cells (pA.c ++ pB.c) 31)).heap.size (some ⟨w.heap.size, 0, none⟩) (flatL [pA, pB]) from by
    have h := lit_rd w (pA.c ++ pB.c) 31
    have e : flatL [pA, pB] = (pA.c ++ pB.c).toList := by simp [flatL]
    rw [e]
    exact h.more (by simp))
  go_enter Try.func7, Try.ntmps7
  go_wp2_with fail
  refine (HOF.out (some ⟨w.heap.size, 0, none⟩) 2 [pA, pB] _ HR.out (by decide) (by intro s hs; rcases List.mem_cons.1 hs with rfl | hs; exact pA_ok; rw [List.mem_singleton.1 hs]; exact pB_ok)).mono ?_
  rw [cut10]
  rintro e w1 ⟨v, rfl, hown, hb⟩
  obtain ⟨va, vc, rfl, _, _, _⟩ := own_slice hown
  have HB := Lib.hid (bel2 (box1 w (.cells (pA.c ++ pB.c) 31)) hb)
  have HO := Lib.hid hown
  clear hb hown HR
  go_wp2_with fail
  refine (same10_is va (some ⟨w1.heap.size, 0, none⟩) vc 2 2 [-1, 0] _ rfl (((Rd.own HO.out).below (box1 _ _)).more (by simp)) ((lit_rd w1 #[.int .i64 (-1), .int .i64 0] 3).more (by simp)) (by decide)).mono ?_
  rintro e w2 ⟨rfl, hb2⟩
  go_wp2_with fail
  go_ret
  exact ⟨rfl, bel2 (bel2 HB.out (box1 _ _)) hb2⟩

set_option maxHeartbeats 2000000 in
theorem law_of10 (hof : OfPays) (a : Option Addr) (c : Nat) (L : List Sp) (w : World) (ha : Rd w w.heap.size a (flatL L)) (hc1 : L.length ≤ maxLen) (hok : ∀ s ∈ L, s.Ok) :
    Calls Try.prog 3 #[.slice a L.length c] w fun e w' => e = .returned (.bool true) ∧ Below w.heap.size w w' := by
  have HOF := Lib.hid hof; have HA := Lib.hid ha; have HOK := Lib.hid hok; clear hof ha hok
  unfold maxLen at hc1
  by_cases hg : 60 < L.length
  · go_enter Try.func3, Try.ntmps3
    go_wp2_with (go_at_call 7; refine (fixed10_any HOF.out _).mono ?_; rintro e w2 ⟨rfl, hb2⟩)
    go_ret
    exact ⟨rfl, hb2⟩
  have HCL := Lib.hid (cut_len L)
  go_enter Try.func3, Try.ntmps3
  go_wp2_with (first
    | (go_at_call 7
       refine (fixed10_any HOF.out _).mono ?_; rintro e w2 ⟨rfl, hb2⟩
       have HB2 := Lib.hid hb2; clear hb2)
    | (go_at_call 9
       refine (HOF.out a c L w2 ((HA.out.below HB2.out).more HB2.out.size) (by omega) HOK.out).mono ?_; rintro e w3 ⟨v3, rfl, hown3, hb3⟩
       obtain ⟨a3, c3, rfl, _, _, _⟩ := own_slice hown3
       have HO3 := Lib.hid hown3; have HB3 := Lib.hid (bel2 HB2.out hb3); clear hown3 hb3)
    | (go_at_call 10
       refine (refOf10_any a c L w3 ((HA.out.below HB3.out).more HB3.out.size) (by omega)).mono ?_; rintro e w4 ⟨v4, rfl, hown4, hb4⟩
       obtain ⟨a4, c4, rfl, _, _, _⟩ := own_slice hown4
       have HO4 := Lib.hid hown4; have HP4 := Lib.hid (own_below HO3.out hb4); have HB4 := Lib.hid (bel2 HB3.out hb4); clear hown4 hb4)
    | (go_at_call 8
       refine (same10_is a3 a4 c3 c4 L.length (cutP (parL L)) w4 HCL.out (Rd.own HP4.out) (Rd.own HO4.out) (by unfold maxLen; omega)).mono ?_; rintro e w5 ⟨rfl, hb5⟩))
  go_ret
  exact ⟨rfl, bel2 HB4.out hb5⟩
set_option maxHeartbeats 2000000 in
theorem law_right10 (hof : OfPays) (hrt : RightPays) (a : Option Addr) (c : Nat) (P : List Int) (w : World) (ha : Rd w w.heap.size a (intV P)) (hc1 : P.length ≤ maxLen) (hok : ∀ x ∈ P, -9223372036854775808 ≤ x ∧ x < 9223372036854775808) :
    Calls Try.prog 4 #[.slice a P.length c] w fun e w' => e = .returned (.bool true) ∧ Below w.heap.size w w' := by
  have HOF := Lib.hid hof; have HRT := Lib.hid hrt; have HA := Lib.hid ha; have HOK := Lib.hid hok; clear hof hrt ha hok
  unfold maxLen at hc1
  by_cases hg : 60 < P.length
  · go_enter Try.func4, Try.ntmps4
    go_wp2_with (go_at_call 7; refine (fixed10_any HOF.out _).mono ?_; rintro e w2 ⟨rfl, hb2⟩)
    go_ret
    exact ⟨rfl, hb2⟩
  obtain ⟨q, hq⟩ : ∃ q, q = rightL P := ⟨_, rfl⟩
  have HQ := Lib.hid hq; clear hq
  go_enter Try.func4, Try.ntmps4
  go_wp2_with (first
    | (go_at_call 7
       refine (fixed10_any HOF.out _).mono ?_; rintro e w2 ⟨rfl, hb2⟩
       have HB2 := Lib.hid hb2; clear hb2)
    | (go_at_call 11
       refine (HRT.out a c P w2 ((HA.out.below HB2.out).more HB2.out.size) (by omega) HOK.out).mono ?_; rintro e w3 ⟨rfl, hb3⟩
       rw [← HQ.out]
       have HB3 := Lib.hid (bel2 HB2.out hb3); clear hb3)
    | (go_at_call 12
       refine (refRight_any a c P w3 ((HA.out.below HB3.out).more HB3.out.size) (by omega)).mono ?_; rintro e w4 ⟨rfl, hb4⟩
       rw [← HQ.out]
       have HB4 := Lib.hid (bel2 HB3.out hb4); clear hb4))
  go_ret
  exact ⟨ret_bool (by simp), HB4.out⟩
end Go.Proofs.Ythcnjljjncgdfaa
