import Derived.Test.YtgeoggilnkcacaaQd
import Derived.Test.YtgeoggilnkcacaaGn
namespace Go.Proofs.Ytgeoggilnkcacaa
open Go Go.RowKit Go.Sort
set_option linter.unusedVariables false

/-! Rows of rows of numbers, of any two types (stage 15). -/
/-- Rows of unlike kinds lie in unlike blocks. -/
theorem rows_apart15 {W : World} {b1 b2 : Nat} {e1 e2 : TypeId} {s1 s2 k1 k2 : Nat} {v1 v2 : Value} {x1 x2 : List Value} (h1 : W.ownsRow b1 e1 s1 v1 k1 x1) (h2 : W.ownsRow b2 e2 s2 v2 k2 x2) (hne : e1 ≠ e2) : v1.ownBlock = none ∨ v1.ownBlock ≠ v2.ownBlock := by
  rcases h1.2 with ⟨rfl, _⟩ | ⟨g, cap, cur, rfl, _, hgb, _⟩
  · exact .inl rfl
  · refine .inr fun e' => ?_
    rcases h2.2 with ⟨rfl, _⟩ | ⟨g2, cap2, cur2, rfl, _, hgb2, _⟩
    · cases e'
    · obtain rfl : g = g2 := by simpa [Value.ownBlock] using e'
      rw [hgb] at hgb2
      simp at hgb2
      exact hne hgb2.2
structure RowsT (sl el : TypeId) (B : Nat) (w : World) (v : Value) (G : List (List Int)) (vs : List Value) : Prop where
  own : w.ownsRow B sl 1 v G.length vs
  one : ∀ u ∈ vs, u.oneCell' = true
  at_ : ∀ i (h : i < G.length), ∃ u, vs[i]? = some u ∧ w.ownsRow B el 1 u G[i].length (intV G[i])
theorem RowsT.len {sl el : TypeId} {B : Nat} {w : World} {v : Value} {G : List (List Int)} {vs : List Value} (h : RowsT sl el B w v G vs) : vs.length = G.length := by have := h.own.1; omega
theorem RowsT.base {sl el : TypeId} {B B' : Nat} {w : World} {v : Value} {G : List (List Int)} {vs : List Value} (h : RowsT sl el B w v G vs) (hb : B' ≤ B) : RowsT sl el B' w v G vs :=
  ⟨own_base h.own hb, h.one, fun i hi => by obtain ⟨u, h1, h2⟩ := h.at_ i hi; exact ⟨u, h1, own_base h2 hb⟩⟩
theorem RowsT.kept {sl el : TypeId} {B : Nat} {w w' : World} {v : Value} {G : List (List Int)} {vs : List Value} {row : Option Nat} (h : RowsT sl el B w v G vs) (hg : w.grownBy w' row) (hv : v.ownBlock = none ∨ v.ownBlock ≠ row) (hu : ∀ i (hi : i < G.length) u, vs[i]? = some u → u.ownBlock = none ∨ u.ownBlock ≠ row) : RowsT sl el B w' v G vs :=
  ⟨h.own.kept hg hv, h.one, fun i hi => by obtain ⟨u, h1, h2⟩ := h.at_ i hi; exact ⟨u, h1, h2.kept hg (hu i hi u h1)⟩⟩
theorem RowsT.below {sl el : TypeId} {B : Nat} {w w' : World} {v : Value} {G : List (List Int)} {vs : List Value} (h : RowsT sl el B w v G vs) (hb : Below w.heap.size w w') : RowsT sl el B w' v G vs :=
  h.kept (Below.to_grown hb) (by cases v.ownBlock <;> simp) (fun i hi u _ => by cases u.ownBlock <;> simp)
/-- A row of another kind grows: these stay. -/
theorem RowsT.other {sl el e' : TypeId} {B b' s' k' : Nat} {w w' : World} {v x : Value} {G : List (List Int)} {vs xs : List Value} (h : RowsT sl el B w v G vs) (hx : w.ownsRow b' e' s' x k' xs) (hg : w.grownBy w' x.ownBlock) (h1 : sl ≠ e') (h2 : el ≠ e') : RowsT sl el B w' v G vs :=
  h.kept hg (rows_apart15 h.own hx h1) (fun i hi u hu => by
    obtain ⟨u', e, ho⟩ := h.at_ i hi
    obtain rfl : u = u' := by rw [hu] at e; exact Option.some.inj e
    exact rows_apart15 ho hx h2)
/-- One row more. -/
theorem RowsT.push {sl el : TypeId} {B : Nat} {w w2 : World} {v v' u : Value} {G : List (List Int)} {vs : List Value} {g : List Int} (h : RowsT sl el B w v G vs) (hne : el ≠ sl) (hu : w.ownsRow B el 1 u g.length (intV g)) (ho1 : u.oneCell' = true) (o : Obj)
    (ho : w2.ownsRow B sl 1 v' (G.length + 1) (vs ++ [u])) (hg : (w.alloc o).grownBy w2 v.ownBlock) : RowsT sl el B w2 v' (G ++ [g]) (vs ++ [u]) := by
  have hl := h.len
  have h' := h.below (box1 w o)
  have hu' := own_below hu (box1 w o)
  refine ⟨by rw [List.length_append]; exact ho, fun x hx => (List.mem_append.1 hx).elim (h.one x) (fun hx => by rw [List.mem_singleton.1 hx]; exact ho1), fun i hi => ?_⟩
  by_cases e : i < G.length
  · obtain ⟨x, h1, h2⟩ := h'.at_ i e
    refine ⟨x, by rw [List.getElem?_append_left (by omega)]; exact h1, ?_⟩
    rw [List.getElem_append_left e]
    exact h2.kept hg (rows_apart15 h2 h'.own hne)
  · have e2 : i = G.length := by rw [List.length_append] at hi; simp at hi; omega
    subst e2
    refine ⟨u, by rw [List.getElem?_append_right (by omega), hl]; simp, ?_⟩
    simp only [List.getElem_append_right (Nat.le_refl _), Nat.sub_self, List.getElem_cons_zero]
    exact hu'.kept hg (rows_apart15 hu' h'.own hne)
theorem RowsT.one_ {sl el : TypeId} {B : Nat} {w : World} {u : Value} {g : List Int} (hB : B ≤ w.heap.size) (hu : w.ownsRow B el 1 u g.length (intV g)) (ho1 : u.oneCell' = true) : RowsT sl el B (w.alloc (.cells #[u] sl)) (.slice (some ⟨w.heap.size, 0, none⟩) 1 1) [g] [u] := by
  refine ⟨World.ownsRow_lit w #[u] 1 hB (by decide) rfl, fun x hx => by rw [List.mem_singleton.1 hx]; exact ho1, fun i hi => ?_⟩
  obtain rfl : i = 0 := by simp at hi; omega
  exact ⟨u, rfl, own_below hu (box1 _ _)⟩
/-- Rows of rows that are read. -/
def RdRows (w : World) (B : Nat) (a : Option Addr) (G : List (List Int)) : Prop := ∀ i (h : i < G.length), ∃ b off, a = some ⟨b, off, none⟩ ∧ b < B ∧ ∃ u c, w.cell? ⟨b, off + i, none⟩ = some (.slice u G[i].length c) ∧ Rd w B u (intV G[i])
theorem RdRows.below {w w' : World} {B : Nat} {a : Option Addr} {G : List (List Int)} (h : RdRows w B a G) (hb : Below B w w') : RdRows w' B a G := fun i hi => by
  obtain ⟨b, off, h1, h2, u, c, h3, h4⟩ := h i hi
  exact ⟨b, off, h1, h2, u, c, (hb.cell (p := ⟨b, off + i, none⟩) h2).trans h3, h4.below hb⟩
theorem RdRows.more {w : World} {B B' : Nat} {a : Option Addr} {G : List (List Int)} (h : RdRows w B a G) (hB : B ≤ B') : RdRows w B' a G := fun i hi => by
  obtain ⟨b, off, h1, h2, u, c, h3, h4⟩ := h i hi
  exact ⟨b, off, h1, Nat.lt_of_lt_of_le h2 hB, u, c, h3, h4.more hB⟩
theorem RowsT.rd {sl el : TypeId} {B : Nat} {w : World} {a : Option Addr} {c : Nat} {G : List (List Int)} {vs : List Value} (h : RowsT sl el B w (.slice a G.length c) G vs) : RdRows w w.heap.size a G := fun i hi => by
  obtain ⟨u, h1, h2⟩ := h.at_ i hi
  obtain ⟨b, off, e, hb, hc⟩ := (Rd.own h.own) (by rw [h.len]; omega)
  obtain ⟨x, cx, rfl, _⟩ := own_slice h2
  exact ⟨b, off, e, hb, x, cx, hc i _ h1, Rd.own h2⟩
/-- Rows that are read, each from B0 on. -/
def RdRowsF (w : World) (B B0 : Nat) (a : Option Addr) (G : List (List Int)) : Prop := ∀ i (h : i < G.length), ∃ b off, a = some ⟨b, off, none⟩ ∧ b < B ∧ ∃ u c, w.cell? ⟨b, off + i, none⟩ = some (.slice u G[i].length c) ∧ Rd w B u (intV G[i]) ∧ From B0 u
theorem RdRowsF.rows {w : World} {B B0 : Nat} {a : Option Addr} {G : List (List Int)} (h : RdRowsF w B B0 a G) : RdRows w B a G := fun i hi => by
  obtain ⟨b, off, e, hb, u, c, h1, h2, _⟩ := h i hi
  exact ⟨b, off, e, hb, u, c, h1, h2⟩
theorem RdRowsF.get {w : World} {B B0 : Nat} {a : Option Addr} {G : List (List Int)} (h : RdRowsF w B B0 a G) {i : Nat} (hi : i < G.length) {g : List Int} (hg : G[i] = g) : ∃ b off, a = some ⟨b, off, none⟩ ∧ b < B ∧ ∃ u c, w.cell? ⟨b, off + i, none⟩ = some (.slice u g.length c) ∧ Rd w B u (intV g) ∧ From B0 u := by
  subst hg; exact h i hi
theorem RowsT.rdF {sl el : TypeId} {B : Nat} {w : World} {a : Option Addr} {c : Nat} {G : List (List Int)} {vs : List Value} (h : RowsT sl el B w (.slice a G.length c) G vs) : RdRowsF w w.heap.size B a G := fun i hi => by
  obtain ⟨u, h1, h2⟩ := h.at_ i hi
  obtain ⟨b, off, e, hb, hc⟩ := (Rd.own h.own) (by rw [h.len]; omega)
  obtain ⟨x, cx, rfl, _⟩ := own_slice h2
  exact ⟨b, off, e, hb, x, cx, hc i _ h1, Rd.own h2, own_from h2⟩
theorem RdRows.get {w : World} {B : Nat} {a : Option Addr} {G : List (List Int)} (h : RdRows w B a G) {i : Nat} (hi : i < G.length) {g : List Int} (hg : G[i] = g) : ∃ b off, a = some ⟨b, off, none⟩ ∧ b < B ∧ ∃ u c, w.cell? ⟨b, off + i, none⟩ = some (.slice u g.length c) ∧ Rd w B u (intV g) := by
  subst hg; exact h i hi
/-- All layers, from 0 on; none, if the edges may not be. -/
def laysL (n : Int) (E : List Ed) : List (List Int) := if mayE n E then (List.range (n.toNat + 1)).map (rowQ n.toNat E) else []
def bysL (n : Int) (E : List Ed) : List (List Int) := if mayE n E then (List.range (n.toNat + 1)).map (byL n.toNat E) else []
theorem range_map_take {f : Nat → List Int} (k : Nat) : (List.range (k + 1)).map f = (List.range k).map f ++ [f k] := by
  rw [List.range_succ, List.map_append]; rfl
def LayersPay (F : Nat) : Prop := ∀ (n : Int) (a : Option Addr) (c : Nat) (E : List Ed) (w : World), Rd w w.heap.size a (edsV E) → E.length ≤ 100000 → (∀ e ∈ E, e.Ok) → I64 n →
  Calls Try.prog F #[.int .i64 n, .slice a E.length c] w fun x w' => ∃ a1 c1 a2 c2, x = .returned (.tuple #[.slice a1 (laysL n E).length c1, .slice a2 (bysL n E).length c2]) ∧ RdRows w' w'.heap.size a1 (laysL n E) ∧ RdRows w' w'.heap.size a2 (bysL n E) ∧ Below w.heap.size w w'
theorem info_int15 : (Try.prog.info? 3).map (fun i => (i.zero, i.size, i.bytes)) = some (some (.int .i64 0), 1, 8) := by kernel_rfl
theorem info_i6415 : (Try.prog.info? 2).map (fun i => (i.zero, i.size, i.bytes)) = some (some (.int .i64 0), 1, 8) := by kernel_rfl
theorem info_row15 : (Try.prog.info? 44).map (fun i => (i.zero, i.size, i.bytes)) = some (some (.slice none 0 0), 1, 24) := by kernel_rfl
theorem info_row6415 : (Try.prog.info? 27).map (fun i => (i.zero, i.size, i.bytes)) = some (some (.slice none 0 0), 1, 24) := by kernel_rfl
end Go.Proofs.Ytgeoggilnkcacaa

