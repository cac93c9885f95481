import Derived.Test.YtgeoggilnkcacaaQg
namespace Go.Proofs.Ytgeoggilnkcacaa
open Go Go.RowKit Go.Sort
set_option linter.unusedVariables false

/-! The laws of stage 15: RelaxLayers. -/
theorem solve_some {n : Int} {E : List Ed} {w : World} {F : Nat} {args : Array Value} {O : List Int} (h : Calls Try.prog F args w (SolveOut n E w)) (hs : solveL n E = some O) :
    Calls Try.prog F args w fun x w' => ∃ a1 c1, x = .returned (.tuple #[.slice a1 O.length c1, .bool true]) ∧ Rd w' w'.heap.size a1 (intV O) ∧ Below w.heap.size w w' := h.mono fun x w' h => by
  obtain ⟨h1, hb⟩ := h
  rcases h1 with ⟨O', a1, c1, e1, e2, e3⟩ | ⟨e1, _⟩
  · rw [hs] at e1
    obtain rfl := Option.some.inj e1
    exact ⟨a1, c1, e2, e3, hb⟩
  · rw [hs] at e1; cases e1
theorem solve_none {n : Int} {E : List Ed} {w : World} {F : Nat} {args : Array Value} (h : Calls Try.prog F args w (SolveOut n E w)) (hs : solveL n E = none) :
    Calls Try.prog F args w fun x w' => ∃ a1 c1, x = .returned (.tuple #[.slice a1 0 c1, .bool false]) ∧ Below w.heap.size w w' := h.mono fun x w' h => by
  obtain ⟨h1, hb⟩ := h
  rcases h1 with ⟨O', a1, c1, e1, _⟩ | ⟨_, a1, c1, e2⟩
  · rw [hs] at e1; cases e1
  · exact ⟨a1, c1, e2, hb⟩
def e15 : Ed := ⟨0, 1, -7, 0, 0, false⟩
theorem fixed15_solve : solveL 2 [e15] = some [0, -7] := by decide
theorem solve_is {n : Int} {E : List Ed} {O : List Int} (h : solveL n E = some O) : mayE n E = true ∧ metL n.toNat E = true ∧ O = rowQ n.toNat E n.toNat := by
  unfold solveL at h
  split at h
  · rename_i hc
    rw [Bool.and_eq_true] at hc
    exact ⟨hc.1, hc.2, (Option.some.inj h).symm⟩
  · cases h
theorem solve_len {n : Int} {E : List Ed} {O : List Int} (h : solveL n E = some O) : O.length ≤ 32 := by
  obtain ⟨h1, _, rfl⟩ := solve_is h
  have := mayE_iff.1 h1
  rw [rowQ_length]; omega
theorem bys_len (n : Int) (E : List Ed) : (bysL n E).length = (laysL n E).length := by
  unfold bysL laysL; split <;> simp
theorem lays_len (n : Int) (E : List Ed) : (laysL n E).length ≤ 33 := by
  unfold laysL
  split
  · rename_i h
    have := mayE_iff.1 h
    simp; omega
  · exact Nat.zero_le _
theorem lays_small (n : Int) (E : List Ed) : ∀ g ∈ laysL n E, g.length ≤ maxLen := by
  unfold laysL
  split
  · rename_i h
    have := mayE_iff.1 h
    intro g hg
    obtain ⟨k, _, rfl⟩ := List.mem_map.1 hg
    rw [rowQ_length]; unfold maxLen; omega
  · intro g hg; cases hg
theorem bys_small (n : Int) (E : List Ed) : ∀ g ∈ bysL n E, g.length ≤ maxLen := by
  unfold bysL
  split
  · rename_i h
    have := mayE_iff.1 h
    intro g hg
    obtain ⟨k, _, rfl⟩ := List.mem_map.1 hg
    rw [byL_length]; unfold maxLen; omega
  · intro g hg; cases hg
end Go.Proofs.Ytgeoggilnkcacaa

