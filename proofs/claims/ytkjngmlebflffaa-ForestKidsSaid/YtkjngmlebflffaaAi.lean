import Derived.Test.YtkjngmlebflffaaAh
namespace Go.Proofs.Ytkjngmlebflffaa
set_option linter.unusedVariables false

/-! What lies in the row while kids are laid, but the greatest one's (the landed forest, stage 11): plain facts. -/
/-- What is laid of the first kids: of the one at l its item alone, and as many items as there are below it. -/
def Laid (P : List Int) (x : Int) (d : Nat) (K : List Nat) (l j : Nat) (D : List It) : Prop :=
  (j ≤ l ∧ D = (K.take j).flatMap (blk P x d)) ∨ (l < j ∧ ∃ k, K[l]? = some k ∧ ∃ ML : List It, ML.length = (sub P (k : Int) (d + 1)).length ∧ D = (K.take l).flatMap (blk P x d) ++ (⟨k, d, x⟩ : It) :: (ML ++ ((K.take j).drop (l + 1)).flatMap (blk P x d)))
theorem Laid.start (P : List Int) (x : Int) (d : Nat) (K : List Nat) (l : Nat) : Laid P x d K l 0 [] := .inl ⟨Nat.zero_le _, by simp⟩
theorem take_drop_next {K : List Nat} {l j : Nat} (hj : j < K.length) (h : l < j) : (K.take (j + 1)).drop (l + 1) = (K.take j).drop (l + 1) ++ [K[j]] := by
  rw [List.take_succ_eq_append_getElem hj, List.drop_append_of_le_length (by rw [List.length_take]; omega)]
theorem Laid.other {P : List Int} {x : Int} {d : Nat} {K : List Nat} {l j : Nat} {D : List It} (h : Laid P x d K l j D) (hj : j < K.length) (hne : j ≠ l) : Laid P x d K l (j + 1) (D ++ blk P x d K[j]) := by
  rcases h with ⟨h1, rfl⟩ | ⟨h1, k, hk, ML, h2, rfl⟩
  · refine .inl ⟨by omega, ?_⟩
    rw [List.take_succ_eq_append_getElem hj, List.flatMap_append]; simp
  · refine .inr ⟨by omega, k, hk, ML, h2, ?_⟩
    rw [take_drop_next hj h1, List.flatMap_append]
    simp [List.append_assoc]
theorem Laid.great {P : List Int} {x : Int} {d : Nat} {K : List Nat} {j : Nat} {D : List It} (h : Laid P x d K j j D) (hj : j < K.length) {ML : List It} (hm : ML.length = (sub P (K[j] : Int) (d + 1)).length) : Laid P x d K j (j + 1) (D ++ (⟨K[j], d, x⟩ : It) :: ML) := by
  rcases h with ⟨h1, rfl⟩ | ⟨h1, _⟩
  · refine .inr ⟨by omega, K[j], by simp [hj], ML, hm, ?_⟩
    rw [List.drop_eq_nil_of_le (by rw [List.length_take]; omega)]; simp
  · omega
theorem Laid.length {P : List Int} {x : Int} {d : Nat} {K : List Nat} {l j : Nat} {D : List It} (h : Laid P x d K l j D) (hj : j ≤ K.length) : D.length = ((K.take j).flatMap (blk P x d)).length := by
  rcases h with ⟨h1, rfl⟩ | ⟨h1, k, hk, ML, h2, rfl⟩
  · rfl
  · obtain ⟨hl, rfl⟩ := List.getElem?_eq_some_iff.1 hk
    have e : K.take j = K.take l ++ K[l] :: (K.take j).drop (l + 1) := by
      have e1 : (K.take j)[l]'(by rw [List.length_take]; omega) = K[l] := by simp
      have e2 : (K.take j).take l = K.take l := by rw [List.take_take, Nat.min_eq_left (by omega)]
      rw [← e2, ← e1, ← List.drop_eq_getElem_cons (by rw [List.length_take]; omega), List.take_append_drop]
    conv => rhs; rw [e]
    rw [List.flatMap_append, List.length_append, List.length_append, List.flatMap_cons, List.length_cons, List.length_append, List.length_append, h2]
    simp [blk]; omega
/-- At the end: the part of the one at l alone is still to be laid. -/
theorem Laid.done {P : List Int} {x : Int} {d : Nat} {K : List Nat} {l : Nat} {D : List It} (h : Laid P x d K l K.length D) (hl : l < K.length) : ∃ ML : List It, ML.length = (sub P (K[l] : Int) (d + 1)).length ∧
    D = ((K.take l).flatMap (blk P x d) ++ [(⟨K[l], d, x⟩ : It)]) ++ ML ++ (K.drop (l + 1)).flatMap (blk P x d) ∧
    K.flatMap (blk P x d) = ((K.take l).flatMap (blk P x d) ++ [(⟨K[l], d, x⟩ : It)]) ++ sub P (K[l] : Int) (d + 1) ++ (K.drop (l + 1)).flatMap (blk P x d) := by
  rcases h with ⟨h1, _⟩ | ⟨h1, k, hk, ML, h2, rfl⟩
  · omega
  · obtain ⟨_, rfl⟩ := List.getElem?_eq_some_iff.1 hk
    refine ⟨ML, h2, by rw [List.take_length]; simp, ?_⟩
    conv => lhs; rw [← List.take_append_drop l K, List.drop_eq_getElem_cons hl, List.flatMap_append, List.flatMap_cons]
    simp [blk]
end Go.Proofs.Ytkjngmlebflffaa
