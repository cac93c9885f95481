import Derived.Test.YthcnjljjncgdfaaUc
namespace Go.Proofs.Ythcnjljjncgdfaa
set_option linter.unusedVariables false

/-! What the law asks of the places: plain facts. -/
theorem parP_length (ids pars : List Int) : (parP ids pars).length = pars.length := by simp [parP]
theorem parP_get (ids : List Int) {pars : List Int} {k : Nat} (h : k < pars.length) : (parP ids pars).getD k (-1) = if pars[k] = 0 then -1 else firstAt ids pars[k] 0 := by
  simp [parP, List.getD, h]
/-- On a cycle the next one is the first place of the parent's number. -/
theorem on_next {ids pars : List Int} (hl : ids.length = pars.length) {i : Nat} (hi : i < pars.length) {r : Nat} (hr : upL (parP ids pars) r i = i) {m : Nat} (hm : m < r) :
    ∃ k, ∃ h : k < pars.length, upL (parP ids pars) m i = (k : Int) ∧ pars[k] ≠ 0 ∧ upL (parP ids pars) (m + 1) i = firstAt ids pars[k] 0 := by
  have hv := parP_valid hl
  have h0 := back_pos (a := (i : Int)) (by omega) hr (m := m) (by omega)
  have h1 := back_pos (a := (i : Int)) (by omega) hr (m := m + 1) (by omega)
  have h2 := (upL_range hv m i (by omega) (by rw [parP_length]; omega)).2
  rw [parP_length] at h2
  refine ⟨(upL (parP ids pars) m i).toNat, by omega, by omega, ?_, ?_⟩
  · intro e
    rw [upL_next, upL_one h0, parP_get ids (by omega), if_pos e] at h1
    omega
  · rw [upL_next, upL_one h0, parP_get ids (by omega)]
    rw [upL_next, upL_one h0, parP_get ids (by omega)] at h1
    split
    · rename_i e; rw [if_pos e] at h1; omega
    · rfl
theorem cut_tells {ids pars : List Int} (hl : ids.length = pars.length) {i : Nat} (hi : i < pars.length) :
    let Q := cutP (parP ids pars)
    (-1 ≤ Q.getD i (-1) ∧ Q.getD i (-1) < pars.length) ∧ (∀ k : Nat, Q.getD i (-1) = (k : Int) → ∃ h : k < ids.length, ids[k] = pars[i]) ∧
      (Q.getD i (-1) = -1 → pars[i] ≠ 0 → pars[i] ∈ ids → onL (parP ids pars) i = true) := by
  intro Q
  have hv := parP_valid hl
  have hi' : i < (parP ids pars).length := by rw [parP_length]; exact hi
  have hq : Q.getD i (-1) = if leastL (parP ids pars) i then -1 else (parP ids pars).getD i (-1) := cutP_get hi'
  have hr : -1 ≤ (parP ids pars).getD i (-1) ∧ (parP ids pars).getD i (-1) < pars.length := by
    have e : (parP ids pars).getD i (-1) = (parP ids pars)[i] := by simp [List.getD, hi']
    have := hv _ (List.getElem_mem hi')
    rw [parP_length] at this
    rw [e]; exact this
  refine ⟨?_, fun k hk => ?_, fun h1 h2 h3 => ?_⟩
  · rw [hq]; split
    · exact ⟨Int.le_refl _, by omega⟩
    · exact hr
  · rw [hq] at hk
    split at hk
    · omega
    · rw [parP_get ids hi] at hk
      split at hk
      · omega
      · obtain ⟨j, hj, e1, e2⟩ := firstAt_get ids pars[i] 0 (by omega)
        have : k = j := by omega
        subst this
        exact ⟨hj, e2⟩
  · rw [hq] at h1
    cases hle : leastL (parP ids pars) i with
    | true => exact (leastL_iff.1 hle).1
    | false =>
      rw [hle] at h1
      simp only [Bool.false_eq_true, if_false] at h1
      rw [parP_get ids hi, if_neg h2] at h1
      exact absurd h3 (firstAt_is _ _ _ h1)
end Go.Proofs.Ythcnjljjncgdfaa
