import Derived.Test.YtgeoggilnkcacaaGc
import Derived.Deep.MidRow
namespace Go.Proofs.Ytgeoggilnkcacaa
open Go Go.RowKit

/-- Two values that share no block. -/
def Apart (u v : Value) : Prop := u.ownBlock = none ∨ v.ownBlock = none ∨ u.ownBlock ≠ v.ownBlock
theorem Apart.symm {u v : Value} (h : Apart u v) : Apart v u := by
  rcases h with h | h | h
  · exact .inr (.inl h)
  · exact .inl h
  · exact .inr (.inr fun e => h e.symm)
theorem Apart.row {u v : Value} (h : Apart u v) : u.ownBlock = none ∨ u.ownBlock ≠ v.ownBlock := by
  rcases h with h | h | h
  · exact .inl h
  · cases hu : u.ownBlock with
    | none => exact .inl rfl
    | some k => exact .inr (by rw [h]; simp)
  · exact .inr h
theorem Apart.next {w : World} {base : Nat} {e : TypeId} {size n : Nat} {u v v' : Value} {xs : List Value} (h : Apart u v) (hu : w.ownsRow base e size u n xs) (hv : v'.ownBlock = v.ownBlock ∨ v'.ownBlock = some w.heap.size) : Apart u v' := by
  rcases hv with hv | hv
  · unfold Apart; rw [hv]; exact h
  · cases hk : u.ownBlock with
    | none => exact .inl hk
    | some k =>
      refine .inr (.inr ?_)
      have := (own_shape hu hk).2.1
      rw [hk, hv]
      intro e; injection e with e; omega
theorem lit_rd (w : World) (cs : Array Value) (t : TypeId) : Rd (w.alloc (.cells cs t)) (w.heap.size + 1) (some ⟨w.heap.size, 0, none⟩) cs.toList := fun _ =>
  ⟨w.heap.size, 0, rfl, by omega, fun j u hu => by have := lit_cells w cs t j u hu; rwa [add_at] at this⟩
theorem rangeAt_last (w : World) (c : Array Value) (t : TypeId) (n : Nat) (hn : n = w.heap.size) : (w.alloc (.cells c t)).rangeAt n 0 c.toList := fun j v hv => by
  subst hn
  rw [World.cell?_alloc_at _ _ _ _ rfl, Nat.zero_add]
  simpa using hv
/-- A result that lies in a cell. -/
theorem results_cell {P : Program} {fn : Func} {p : Tmp} {ty : TypeId} (h : fn.results = #[.cell p ty]) {tmps : Array Value} {b : Nat} (hp : tmps.getD p undef = .pointer (some ⟨b, 0, none⟩)) {w : World} {v : Value}
    (hld : (loadVar ty ⟨b, 0, none⟩).run P w = .ok v w) : (results fn tmps).run P w = .ok v w := by
  have hp' : tmps[p]?.getD undef = .pointer (some ⟨b, 0, none⟩) := by rw [← hp]; simp
  simp [results, h, asAddr, hp', hld]
theorem results_cell_two {P : Program} {fn : Func} {p u : Tmp} {ty : TypeId} (h : fn.results = #[.cell p ty, .tmp u]) {tmps : Array Value} {b : Nat} (hp : tmps.getD p undef = .pointer (some ⟨b, 0, none⟩)) {x : Value} (hu : tmps.getD u undef = x) {w : World} {v : Value}
    (hld : (loadVar ty ⟨b, 0, none⟩).run P w = .ok v w) : (results fn tmps).run P w = .ok (.tuple #[v, x]) w := by
  have hp' : tmps[p]?.getD undef = .pointer (some ⟨b, 0, none⟩) := by rw [← hp]; simp
  have hu' : tmps[u]?.getD undef = x := by rw [← hu]; simp
  simp [results, h, asAddr, hp', hu', hld]
theorem there_last (w : World) (c : Array Value) (t : TypeId) (n m : Nat) (hm : m = c.size) (hn : n = w.heap.size) : (w.alloc (.cells c t)).there n 0 m := fun j hj => by
  subst hm hn
  refine ⟨?_, ?_⟩
  · rw [World.cell?_alloc_at _ _ _ _ rfl]; simp; omega
  · exact World.frozen?_alloc_at _ _ _ _ rfl
theorem there_below {w w' : World} {B b o n : Nat} (h : w.there b o n) (hb : RowKit.Below B w w') (hB : b < B) : w'.there b o n := fun j hj => by
  obtain ⟨h1, h2⟩ := h j hj
  exact ⟨by rw [hb.cell (p := ⟨b, o + j, none⟩) hB]; exact h1, by rw [hb.frozen (p := ⟨b, o + j, none⟩) hB]; exact h2⟩
theorem Below_setCells {B : Nat} {a : World} {b : Nat} (hB : B ≤ b) : ∀ (vs : List Value) (o : Nat) (w : World), RowKit.Below B a w → RowKit.Below B a (w.setCells b o vs)
  | [], _, _, h => h
  | _ :: r, o, _, h => Below_setCells hB r (o + 1) _ (h.setCell hB _)
theorem lit_at (w : World) (cs : Array Value) (t : TypeId) (n : Nat) (hn : n = w.heap.size) : Rd (w.alloc (.cells cs t)) (n + 1) (some ⟨n, 0, none⟩) cs.toList := by
  subst hn; exact lit_rd w cs t
end Go.Proofs.Ytgeoggilnkcacaa

