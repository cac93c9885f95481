import Derived.Test.YthcnjljjncgdfaaUb
namespace Go.Proofs.Ythcnjljjncgdfaa
set_option linter.unusedVariables false

/-! The walk round a cycle: plain facts. -/
/-- The first time that a walk is back. -/
theorem first_back {P : List Int} {a : Int} (h : onL P a = true) : ∃ r, 1 ≤ r ∧ r ≤ P.length ∧ upL P r a = a ∧ ∀ j, 1 ≤ j → j < r → upL P j a ≠ a := by
  obtain ⟨n, h1, h2, h3⟩ := onL_iff.1 h
  clear h
  induction n using Nat.strongRecOn with
  | _ n ih =>
    by_cases hx : ∃ j, 1 ≤ j ∧ j < n ∧ upL P j a = a
    · obtain ⟨j, j1, j2, j3⟩ := hx
      exact ih j j2 j1 (by omega) j3
    · exact ⟨n, h1, h2, h3, fun j j1 j2 e => hx ⟨j, j1, j2, e⟩⟩
theorem back_pos {P : List Int} {a : Int} (h0 : 0 ≤ a) {r : Nat} (hr : upL P r a = a) {m : Nat} (hm : m ≤ r) : 0 ≤ upL P m a := upL_back hm (by omega)
/-- All within one round: all. -/
theorem leastL_round {P : List Int} {i : Nat} {r : Nat} (h1 : 1 ≤ r) (h2 : r ≤ P.length) (hr : upL P r i = i) (h : ∀ j, j < r → (i : Int) ≤ upL P j i) : leastL P i = true := by
  refine leastL_iff.2 ⟨onL_iff.2 ⟨r, h1, h2, hr⟩, fun m _ => ?_⟩
  have e : m = m / r * r + m % r := by rw [Nat.mul_comm]; exact (Nat.div_add_mod _ _).symm
  rw [e, upL_period hr]
  exact h _ (Nat.mod_lt _ (by omega))
theorem leastL_no {P : List Int} {i : Nat} {m : Nat} (hm : m ≤ P.length) (h : upL P m i < i) : leastL P i = false := by
  cases hl : leastL P i with
  | false => rfl
  | true => have := (leastL_iff.1 hl).2 m hm; omega
theorem leastL_off {P : List Int} {i : Nat} (h : onL P i = false) : leastL P i = false := by
  unfold leastL; rw [h]; rfl
/-- Up from a place of a forest it comes to an end. -/
theorem right_ends {P : List Int} (h : rightL P = true) {i : Nat} (hi : i < P.length) : upL P (P.length + 1) i < 0 := by
  unfold rightL at h
  rw [Bool.and_eq_true, List.all_eq_true, List.all_eq_true] at h
  simpa using h.2 i (List.mem_range.2 hi)
theorem right_valid {P : List Int} (h : rightL P = true) : ValidP P := by
  unfold rightL at h
  rw [Bool.and_eq_true, List.all_eq_true, List.all_eq_true] at h
  intro x hx
  simpa using h.1 x hx
/-! The places of parents. -/
/-- The first place of a number, from a place on. -/
def firstAt : List Int → Int → Nat → Int
  | [], _, _ => -1
  | y :: r, x, k => if y = x then (k : Int) else firstAt r x (k + 1)
theorem firstAt_range : ∀ (l : List Int) (x : Int) (k : Nat), firstAt l x k = -1 ∨ ((k : Int) ≤ firstAt l x k ∧ firstAt l x k < k + l.length)
  | [], _, _ => .inl rfl
  | y :: r, x, k => by
    have := firstAt_range r x (k + 1)
    simp only [firstAt, List.length_cons]
    split <;> omega
theorem firstAt_is : ∀ (l : List Int) (x : Int) (k : Nat), firstAt l x k = -1 → x ∉ l
  | [], _, _, _ => by simp
  | y :: r, x, k, h => by
    simp only [firstAt] at h
    split at h
    · omega
    · rename_i hne
      have := firstAt_is r x (k + 1) h
      simp only [List.mem_cons, not_or]
      exact ⟨fun e => hne e.symm, this⟩
theorem firstAt_get : ∀ (l : List Int) (x : Int) (k : Nat), 0 ≤ firstAt l x k → ∃ j, ∃ h : j < l.length, firstAt l x k = (k + j : Nat) ∧ l[j] = x
  | [], _, _, h => by simp [firstAt] at h
  | y :: r, x, k, h => by
    simp only [firstAt] at h ⊢
    split at h
    · rename_i e
      exact ⟨0, by simp, by simp [e], by simpa using e⟩
    · rename_i hne
      obtain ⟨j, hj, h1, h2⟩ := firstAt_get r x (k + 1) h
      refine ⟨j + 1, by simp; omega, ?_, by simpa using h2⟩
      rw [if_neg hne, h1]
      congr 1; omega
/-- Of each number the parent's place. -/
def parP (ids pars : List Int) : List Int := pars.map fun x => if x = 0 then -1 else firstAt ids x 0
theorem parP_valid {ids pars : List Int} (h : ids.length = pars.length) : ValidP (parP ids pars) := by
  intro y hy
  obtain ⟨x, hx, rfl⟩ := List.mem_map.1 hy
  unfold parP
  rw [List.length_map]
  split
  · exact ⟨Int.le_refl _, by omega⟩
  · have := firstAt_range ids x 0
    omega
end Go.Proofs.Ythcnjljjncgdfaa
