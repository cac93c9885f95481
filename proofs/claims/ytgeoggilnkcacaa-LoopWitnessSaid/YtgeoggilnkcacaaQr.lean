import Derived.Test.YtgeoggilnkcacaaQq
namespace Go.Proofs.Ytgeoggilnkcacaa
open Go Go.RowKit Go.Sort
set_option linter.unusedVariables false

/-! The landed code: the greatest offsets (stage 15). -/
theorem met_equal {m : Nat} {E : List Ed} (hm : 0 < m) : metL m E = decide (rowQ m E m = rowQ m E (m - 1)) := by
  have hle : ∀ h, (rowQ m E m).getD h 0 ≤ (rowQ m E (m - 1)).getD h 0 := fun h => by
    by_cases hh : h < m
    · obtain ⟨k, rfl⟩ : ∃ k, m = k + 1 := ⟨m - 1, by omega⟩
      rw [rowQ_get hh]; exact least_le _ _ _ _
    · have e : ∀ k, (rowQ m E k).getD h 0 = 0 := fun k => by
        rw [List.getD_eq_getElem?_getD, List.getElem?_eq_none (by rw [rowQ_length]; omega)]; rfl
      rw [e, e]; exact Int.le_refl _
  rw [Bool.eq_iff_iff, decide_eq_true_iff]
  unfold metL
  rw [List.all_eq_true]
  constructor
  · intro h
    refine List.ext_getElem (by rw [rowQ_length, rowQ_length]) fun i h1 h2 => ?_
    have hi : i < m := by rw [rowQ_length] at h1; exact h1
    have a := of_decide_eq_true (h i (List.mem_range.2 hi))
    have b := hle i
    have e1 : (rowQ m E m).getD i 0 = (rowQ m E m)[i] := by rw [List.getD_eq_getElem?_getD, List.getElem?_eq_getElem h1]; rfl
    have e2 : (rowQ m E (m - 1)).getD i 0 = (rowQ m E (m - 1))[i] := by rw [List.getD_eq_getElem?_getD, List.getElem?_eq_getElem h2]; rfl
    rw [e1, e2] at a b
    omega
  · intro h x _
    rw [h]; simp
end Go.Proofs.Ytgeoggilnkcacaa

