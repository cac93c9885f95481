import Derived.Test.YtkjngmlebflffaaUg
namespace Go.Proofs.Ytkjngmlebflffaa
open Go Go.RowKit Go.Sort
set_option linter.unusedVariables false

/-! The laws of stage 10, over what the landed code has to pay. -/
def OfPays : Prop := ∀ (a : Option Addr) (c : Nat) (L : List Sp) (w : World), Rd w w.heap.size a (flatL L) → L.length ≤ 100000 → (∀ s ∈ L, s.Ok) →
  Calls Try.prog 16 #[.slice a L.length c] w fun e w' => ∃ v, e = .returned v ∧ w'.ownsRow w.heap.size 3 1 v L.length (intV (cutP (parL L))) ∧ Below w.heap.size w w'
def RightPays : Prop := ∀ (a : Option Addr) (c : Nat) (P : List Int) (w : World), Rd w w.heap.size a (intV P) → P.length ≤ 100000 → (∀ x ∈ P, -9223372036854775808 ≤ x ∧ x < 9223372036854775808) →
  Calls Try.prog 17 #[.slice a P.length c] w fun e w' => e = .returned (.bool (rightL P)) ∧ Below w.heap.size w w'
def pA : Sp := ⟨0, 1, 2, 0, ⟨#[]⟩, ⟨#[]⟩, 0, 0⟩
def pB : Sp := ⟨0, 2, 1, 0, ⟨#[]⟩, ⟨#[]⟩, 0, 0⟩
theorem pA_ok : pA.Ok := by
  refine ⟨?_, ?_, ?_, ?_, by decide, by decide, ?_, ?_⟩ <;> (first | (unfold U64; simp [pA]) | (unfold U8; simp [pA]) | (unfold I64; simp [pA]))
theorem pB_ok : pB.Ok := by
  refine ⟨?_, ?_, ?_, ?_, by decide, by decide, ?_, ?_⟩ <;> (first | (unfold U64; simp [pB]) | (unfold U8; simp [pB]) | (unfold I64; simp [pB]))
theorem cut10 : cutP (parL [pA, pB]) = [-1, 0] := by decide +kernel
theorem cut_len (L : List Sp) : (cutP (parL L)).length = L.length := by rw [cutP_length, parL_length]
theorem own_len10 {w : World} {base : Nat} {v : Value} {n : Nat} {K : List Int} (h : w.ownsRow base 3 1 v n (intV K)) : K.length = n := by
  have := h.1; rw [intV_length] at this; omega
theorem same10_is (a b : Option Addr) (c d n : Nat) (K : List Int) (w : World) (hn : K.length = n) (ha : Rd w w.heap.size a (intV K)) (hb : Rd w w.heap.size b (intV K)) (hl : n ≤ maxLen) :
    Calls Try.prog 13 #[.slice a n c, .slice b n d] w fun e w' => e = .returned (.bool true) ∧ Below w.heap.size w w' := by
  subst hn
  have := same10_any a b c d K K w ha hb hl hl
  rwa [decide_eq_true rfl] at this

end Go.Proofs.Ytkjngmlebflffaa

