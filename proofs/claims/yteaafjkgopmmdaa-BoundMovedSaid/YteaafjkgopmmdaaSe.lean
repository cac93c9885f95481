import Derived.Test.YteaafjkgopmmdaaSd
namespace Go.Proofs.Yteaafjkgopmmdaa
open Go.RowKit

def flatL (L : List Sp) : List Value := L.flatMap fun s => s.c.toList
theorem c_len (s : Sp) : s.c.toList.length = 8 := rfl
theorem flatL_nil : flatL [] = [] := rfl
theorem flatL_cons (s : Sp) (L : List Sp) : flatL (s :: L) = s.c.toList ++ flatL L := rfl
theorem flatL_append (L M : List Sp) : flatL (L ++ M) = flatL L ++ flatL M := by simp [flatL]
theorem flatL_length : ∀ L : List Sp, (flatL L).length = L.length * 8
  | [] => rfl
  | s :: L => by rw [flatL_cons, List.length_append, flatL_length L, c_len]; simp; omega
theorem flatL_get : ∀ (L : List Sp) (i : Nat) (h : i < L.length) (j : Nat), j < 8 → (flatL L)[i * 8 + j]? = (L[i]).c[j]?
  | [], i, h, _, _ => absurd h (by simp)
  | s :: L, 0, _, j, hj => by
    rw [flatL_cons, List.getElem?_append_left (by rw [c_len]; omega)]
    simp
  | s :: L, i + 1, h, j, hj => by
    rw [flatL_cons, List.getElem?_append_right (by rw [c_len]; omega), c_len, show (i + 1) * 8 + j - 8 = i * 8 + j by omega]
    exact flatL_get L i (by simpa using h) j hj
theorem flatL_take : ∀ (L : List Sp) (k : Nat), (flatL L).take (k * 8) = flatL (L.take k)
  | [], k => by simp [flatL]
  | s :: L, 0 => by simp [flatL]
  | s :: L, k + 1 => by
    rw [flatL_cons, List.take_succ_cons, flatL_cons, ← flatL_take L k, List.take_append, List.take_of_length_le (by rw [c_len]; omega), c_len]
    congr 2; omega
theorem flatL_drop : ∀ (L : List Sp) (k : Nat), (flatL L).drop (k * 8) = flatL (L.drop k)
  | [], k => by simp [flatL]
  | s :: L, 0 => by simp
  | s :: L, k + 1 => by
    rw [flatL_cons, List.drop_succ_cons, ← flatL_drop L k, List.drop_append, List.drop_of_length_le (by rw [c_len]; omega), c_len]
    simp only [List.nil_append]; congr 1; omega
theorem flatL_one (L : List Sp) : ∀ u ∈ flatL L, u.oneCell' = true := by
  intro u hu
  obtain ⟨s, _, h⟩ := List.mem_flatMap.1 hu
  simp [Sp.c] at h
  rcases h with rfl | rfl | rfl | rfl | rfl | rfl | rfl | rfl <;> rfl

/-- What came in, as cells that are read. -/
theorem Spans.rd {w : World} {v : Value} {L : List Sp} (h : Spans w v L) : ∃ a c, v = .slice a L.length c ∧ L.length ≤ c ∧ c ≤ maxLen ∧ Rd w w.heap.size a (flatL L) := by
  obtain ⟨a, c, rfl, h1, h2, h3⟩ := h
  refine ⟨a, c, rfl, h1, h2, fun h0 => ?_⟩
  rw [flatL_length] at h0
  obtain ⟨b, off, rfl, hb, hr⟩ := h3 (by omega)
  refine ⟨b, off, rfl, hb, fun j u hu => ?_⟩
  have hj : j < (flatL L).length := by
    rcases Nat.lt_or_ge j (flatL L).length with h | h
    · exact h
    · rw [List.getElem?_eq_none h] at hu; cases hu
  rw [flatL_length] at hj
  have e : j = j / 8 * 8 + j % 8 := by omega
  have hi : j / 8 < L.length := by omega
  have := hr (j / 8) hi (j % 8) (by omega)
  rw [← flatL_get L (j / 8) hi (j % 8) (by omega), ← e, hu] at this
  rw [← this]; congr 2; omega

/-- One element of what is read. -/
def Elem (w : World) (b o : Nat) (s : Sp) : Prop :=
  w.cell? ⟨b, o, none⟩ = some (.int .u64 s.trace) ∧ w.cell? ⟨b, o + 1, none⟩ = some (.int .u64 s.id) ∧ w.cell? ⟨b, o + 2, none⟩ = some (.int .u64 s.parent) ∧ w.cell? ⟨b, o + 3, none⟩ = some (.int .u8 s.kind)
    ∧ w.cell? ⟨b, o + 4, none⟩ = some (.string s.host) ∧ w.cell? ⟨b, o + 5, none⟩ = some (.string s.name) ∧ w.cell? ⟨b, o + 6, none⟩ = some (.int .i64 s.start) ∧ w.cell? ⟨b, o + 7, none⟩ = some (.int .i64 s.dur)
theorem Rd.elem {w : World} {B : Nat} {a : Option Addr} {L : List Sp} (h : Rd w B a (flatL L)) {i : Nat} (hi : i < L.length) : ∃ b off, a = some ⟨b, off, none⟩ ∧ b < B ∧ Elem w b (off + i * 8) L[i] := by
  obtain ⟨b, off, ha, hb, hc⟩ := h (by rw [flatL_length]; omega)
  have key : ∀ j u, j < 8 → (L[i]).c[j]? = some u → w.cell? ⟨b, off + i * 8 + j, none⟩ = some u := fun j u hj hu => by
    have := hc (i * 8 + j) u (by rw [flatL_get L i hi j hj]; exact hu)
    rwa [← Nat.add_assoc] at this
  exact ⟨b, off, ha, hb, key 0 _ (by omega) rfl, key 1 _ (by omega) rfl, key 2 _ (by omega) rfl, key 3 _ (by omega) rfl, key 4 _ (by omega) rfl, key 5 _ (by omega) rfl, key 6 _ (by omega) rfl, key 7 _ (by omega) rfl⟩
end Go.Proofs.Yteaafjkgopmmdaa

