import Derived.Test.YtgeoggilnkcacaaGe
namespace Go.Proofs.Ytgeoggilnkcacaa
open Go Go.RowKit

/-! Rows of structs, m cells each: over any program. -/
section
variable {α : Type} {enc : α → List Value} {m : Nat}
def flatG (enc : α → List Value) (L : List α) : List Value := L.flatMap enc
theorem flatG_nil : flatG enc [] = [] := rfl
theorem flatG_cons (x : α) (L : List α) : flatG enc (x :: L) = enc x ++ flatG enc L := rfl
theorem flatG_one (x : α) : flatG enc [x] = enc x := by simp [flatG]
theorem flatG_append (L M : List α) : flatG enc (L ++ M) = flatG enc L ++ flatG enc M := by simp [flatG]
theorem flatG_length (hm : ∀ x, (enc x).length = m) : ∀ L : List α, (flatG enc L).length = L.length * m
  | [] => by simp [flatG]
  | x :: L => by rw [flatG_cons, List.length_append, hm, flatG_length hm L, List.length_cons, Nat.add_mul, Nat.one_mul, Nat.add_comm]
theorem flatG_get (hm : ∀ x, (enc x).length = m) : ∀ (L : List α) (i : Nat) (h : i < L.length) (j : Nat), j < m → (flatG enc L)[i * m + j]? = (enc L[i])[j]?
  | [], i, h, _, _ => absurd h (by simp)
  | x :: L, 0, _, j, hj => by
    rw [flatG_cons, Nat.zero_mul, Nat.zero_add, List.getElem?_append_left (by rw [hm]; exact hj)]; rfl
  | x :: L, i + 1, h, j, hj => by
    have e : (i + 1) * m + j = m + (i * m + j) := by rw [Nat.add_mul, Nat.one_mul]; omega
    rw [flatG_cons, e, List.getElem?_append_right (by rw [hm]; omega), hm, Nat.add_sub_cancel_left]
    exact flatG_get hm L i (by simpa using h) j hj
theorem flatG_all (h1 : ∀ x, ∀ u ∈ enc x, u.oneCell' = true) (L : List α) : ∀ u ∈ flatG enc L, u.oneCell' = true := by
  intro u hu
  obtain ⟨x, _, h⟩ := List.mem_flatMap.1 hu
  exact h1 x u h
/-- One element of what is read. -/
theorem Rd.elemG {w : World} {B : Nat} {a : Option Addr} {L : List α} (hm : ∀ x, (enc x).length = m) (h0 : 0 < m) (h : Rd w B a (flatG enc L)) {i : Nat} (hi : i < L.length) :
    ∃ b off, a = some ⟨b, off, none⟩ ∧ b < B ∧ ∀ j u, (enc L[i])[j]? = some u → w.cell? ⟨b, off + i * m + j, none⟩ = some u := by
  obtain ⟨b, off, ha, hb, hc⟩ := h (by rw [flatG_length hm]; exact Nat.mul_pos (by omega) h0)
  refine ⟨b, off, ha, hb, fun j u hu => ?_⟩
  have hj : j < m := by
    rcases Nat.lt_or_ge j m with h | h
    · exact h
    · rw [List.getElem?_eq_none (by rw [hm]; exact h)] at hu; cases hu
  have := hc (i * m + j) u (by rw [flatG_get hm L i hi j hj]; exact hu)
  rwa [← Nat.add_assoc] at this
end
end Go.Proofs.Ytgeoggilnkcacaa

