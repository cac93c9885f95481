import Derived.Test.YtkaafjcfcknbpaaGc
import Derived.Deep.MidRow
namespace Go.Proofs.Ytkaafjcfcknbpaa
open Go Go.RowKit

/-- Two values that share no block. -/
def Apart (u v : Value) : Prop := u.ownBlock = none ∨ v.ownBlock = none ∨ u.ownBlock ≠ v.ownBlock
theorem Apart.symm {u v : Value} (h : Apart u v) : Apart v u := by
  rcases h with h | h | h
  · exact .inr (.inl h)
  · exact .inl h
  · exact .inr (.inr fun e => h e.symm)
theorem Apart.row {u v : Value} (h : Apart u v) : u.ownBlock = none ∨ u.ownBlock ≠ v.ownBlock := by
  rcases h with h | h | h
  · exact .inl h
  · cases hu : u.ownBlock with
    | none => exact .inl rfl
    | some k => exact .inr (by rw [h]; simp)
  · exact .inr h
theorem Apart.next {w : World} {base : Nat} {e : TypeId} {size n : Nat} {u v v' : Value} {xs : List Value} (h : Apart u v) (hu : w.ownsRow base e size u n xs) (hv : v'.ownBlock = v.ownBlock ∨ v'.ownBlock = some w.heap.size) : Apart u v' := by
  rcases hv with hv | hv
  · unfold Apart; rw [hv]; exact h
  · cases hk : u.ownBlock with
    | none => exact .inl hk
    | some k =>
      refine .inr (.inr ?_)
      have := (own_shape hu hk).2.1
      rw [hk, hv]
      intro e; injection e with e; omega
theorem lit_rd (w : World) (cs : Array Value) (t : TypeId) : Rd (w.alloc (.cells cs t)) (w.heap.size + 1) (some ⟨w.heap.size, 0, none⟩) cs.toList := fun _ =>
  ⟨w.heap.size, 0, rfl, by omega, fun j u hu => by have := lit_cells w cs t j u hu; rwa [add_at] at this⟩
theorem rangeAt_last (w : World) (c : Array Value) (t : TypeId) (n : Nat) (hn : n = w.heap.size) : (w.alloc (.cells c t)).rangeAt n 0 c.toList := fun j v hv => by
  subst hn
  rw [World.cell?_alloc_at _ _ _ _ rfl, Nat.zero_add]
  simpa using hv
/-- A result that lies in a cell. -/
theorem results_cell {P : Program} {fn : Func} {p : Tmp} {ty : TypeId} (h : fn.results = #[.cell p ty]) {tmps : Array Value} {b : Nat} (hp : tmps.getD p undef = .pointer (some ⟨b, 0, none⟩)) {w : World} {v : Value}
    (hld : (loadVar ty ⟨b, 0, none⟩).run P w = .ok v w) : (results fn tmps).run P w = .ok v w := by
  have hp' : tmps[p]?.getD undef = .pointer (some ⟨b, 0, none⟩) := by rw [← hp]; simp
  simp [results, h, asAddr, hp', hld]
theorem results_cell_two {P : Program} {fn : Func} {p u : Tmp} {ty : TypeId} (h : fn.results = #[.cell p ty, .tmp u]) {tmps : Array Value} {b : Nat} (hp : tmps.getD p undef = .pointer (some ⟨b, 0, none⟩)) {x : Value} (hu : tmps.getD u undef = x) {w : World} {v : Value}
    (hld : (loadVar ty ⟨b, 0, none⟩).run P w = .ok v w) : (results fn tmps).run P w = .ok (.tuple #[v, x]) w := by
  have hp' : tmps[p]?.getD undef = .pointer (some ⟨b, 0, none⟩) := by rw [← hp]; simp
  have hu' : tmps[u]?.getD undef = x := by rw [← hu]; simp
  simp [results, h, asAddr, hp', hu', hld]
theorem there_last (w : World) (c : Array Value) (t : TypeId) (n m : Nat) (hm : m = c.size) (hn : n = w.heap.size) : (w.alloc (.cells c t)).there n 0 m := fun j hj => by
  subst hm hn
  refine ⟨?_, ?_⟩
  · rw [World.cell?_alloc_at _ _ _ _ rfl]; simp; omega
  · exact World.frozen?_alloc_at _ _ _ _ rfl
theorem there_below {w w' : World} {B b o n : Nat} (h : w.there b o n) (hb : RowKit.Below B w w') (hB : b < B) : w'.there b o n := fun j hj => by
  obtain ⟨h1, h2⟩ := h j hj
  exact ⟨by rw [hb.cell (p := ⟨b, o + j, none⟩) hB]; exact h1, by rw [hb.frozen (p := ⟨b, o + j, none⟩) hB]; exact h2⟩
theorem Below_setCells {B : Nat} {a : World} {b : Nat} (hB : B ≤ b) : ∀ (vs : List Value) (o : Nat) (w : World), RowKit.Below B a w → RowKit.Below B a (w.setCells b o vs)
  | [], _, _, h => h
  | _ :: r, o, _, h => Below_setCells hB r (o + 1) _ (h.setCell hB _)
theorem lit_at (w : World) (cs : Array Value) (t : TypeId) (n : Nat) (hn : n = w.heap.size) : Rd (w.alloc (.cells cs t)) (n + 1) (some ⟨n, 0, none⟩) cs.toList := by
  subst hn; exact lit_rd w cs t
end Go.Proofs.Ytkaafjcfcknbpaa

namespace Go.Proofs.Ytkaafjcfcknbpaa
open Go Go.RowKit

/-! Rows of structs, m cells each: over any program. -/
section
variable {α : Type} {enc : α → List Value} {m : Nat}
def flatG (enc : α → List Value) (L : List α) : List Value := L.flatMap enc
theorem flatG_nil : flatG enc [] = [] := rfl
theorem flatG_cons (x : α) (L : List α) : flatG enc (x :: L) = enc x ++ flatG enc L := rfl
theorem flatG_one (x : α) : flatG enc [x] = enc x := by simp [flatG]
theorem flatG_append (L M : List α) : flatG enc (L ++ M) = flatG enc L ++ flatG enc M := by simp [flatG]
theorem flatG_length (hm : ∀ x, (enc x).length = m) : ∀ L : List α, (flatG enc L).length = L.length * m
  | [] => by simp [flatG]
  | x :: L => by rw [flatG_cons, List.length_append, hm, flatG_length hm L, List.length_cons, Nat.add_mul, Nat.one_mul, Nat.add_comm]
theorem flatG_get (hm : ∀ x, (enc x).length = m) : ∀ (L : List α) (i : Nat) (h : i < L.length) (j : Nat), j < m → (flatG enc L)[i * m + j]? = (enc L[i])[j]?
  | [], i, h, _, _ => absurd h (by simp)
  | x :: L, 0, _, j, hj => by
    rw [flatG_cons, Nat.zero_mul, Nat.zero_add, List.getElem?_append_left (by rw [hm]; exact hj)]; rfl
  | x :: L, i + 1, h, j, hj => by
    have e : (i + 1) * m + j = m + (i * m + j) := by rw [Nat.add_mul, Nat.one_mul]; omega
    rw [flatG_cons, e, List.getElem?_append_right (by rw [hm]; omega), hm, Nat.add_sub_cancel_left]
    exact flatG_get hm L i (by simpa using h) j hj
theorem flatG_all (h1 : ∀ x, ∀ u ∈ enc x, u.oneCell' = true) (L : List α) : ∀ u ∈ flatG enc L, u.oneCell' = true := by
  intro u hu
  obtain ⟨x, _, h⟩ := List.mem_flatMap.1 hu
  exact h1 x u h
/-- One element of what is read. -/
theorem Rd.elemG {w : World} {B : Nat} {a : Option Addr} {L : List α} (hm : ∀ x, (enc x).length = m) (h0 : 0 < m) (h : Rd w B a (flatG enc L)) {i : Nat} (hi : i < L.length) :
    ∃ b off, a = some ⟨b, off, none⟩ ∧ b < B ∧ ∀ j u, (enc L[i])[j]? = some u → w.cell? ⟨b, off + i * m + j, none⟩ = some u := by
  obtain ⟨b, off, ha, hb, hc⟩ := h (by rw [flatG_length hm]; exact Nat.mul_pos (by omega) h0)
  refine ⟨b, off, ha, hb, fun j u hu => ?_⟩
  have hj : j < m := by
    rcases Nat.lt_or_ge j m with h | h
    · exact h
    · rw [List.getElem?_eq_none (by rw [hm]; exact h)] at hu; cases hu
  have := hc (i * m + j) u (by rw [flatG_get hm L i hi j hj]; exact hu)
  rwa [← Nat.add_assoc] at this
end
end Go.Proofs.Ytkaafjcfcknbpaa

