import Derived.Test.YtgeoggilnkcacaaUe
namespace Go.Proofs.Ytgeoggilnkcacaa
open Go Go.RowKit Go.Sort
set_option linter.unusedVariables false

theorem right_no1 {P : List Int} {k : Nat} (h : k < P.length) (hx : P[k] < -1 ∨ (P.length : Int) ≤ P[k]) : rightL P = false := by
  cases hr : rightL P with
  | false => rfl
  | true => have := right_valid hr _ (List.getElem_mem h); omega
theorem right_no2 {P : List Int} {k : Nat} (h : k < P.length) (hx : 0 ≤ upL P (P.length + 1) k) : rightL P = false := by
  cases hr : rightL P with
  | false => rfl
  | true => have := right_ends hr h; omega
theorem right_yes {P : List Int} (hv : ValidP P) (h : ∀ k, k < P.length → upL P (P.length + 1) k < 0) : rightL P = true := by
  unfold rightL
  rw [Bool.and_eq_true, List.all_eq_true, List.all_eq_true]
  exact ⟨fun x hx => by simpa using hv x hx, fun i hi => decide_eq_true (h i (List.mem_range.1 hi))⟩
end Go.Proofs.Ytgeoggilnkcacaa

