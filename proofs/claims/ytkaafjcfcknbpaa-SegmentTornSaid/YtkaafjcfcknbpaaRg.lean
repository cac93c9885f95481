import Derived.Test.YtkaafjcfcknbpaaRd
import Derived.Test.YtkaafjcfcknbpaaRf
import Derived.Shelf.Abstract
import Derived.Shelf.RegionOpen
import Derived.OwnWalkIn
import Derived.TacticsInMore
import Derived.LoopNIn
import Derived.LoopIn
import Derived.Maps.AppendAt
namespace Go.Proofs.Ytkaafjcfcknbpaa
open Go Go.RowKit Go.Shelf
attribute [local go_sem] Oper.semAt_some

/-- A body that is handed over: the slice, its bytes, the place behind its frame. -/
structure Bod where
  v : Value
  b : List UInt8
  q : Int
/-- The place behind the last one. -/
def lastQ (p : Int) : List Bod → Int
  | [] => p
  | x :: xs => lastQ x.q xs
theorem lastQ_snoc (x : Bod) : ∀ (xs : List Bod) (p : Int), lastQ p (xs ++ [x]) = x.q
  | [], _ => rfl
  | y :: xs, _ => lastQ_snoc x xs y.q
def BodAt (B0 : Nat) (x : Bod) (W : World) : Prop := W.ownsRow B0 5 1 x.v x.b.length (bV x.b)
def KpF (n0 bb : Nat) (W W' : World) : Prop := Below n0 W W' ∧ W'.heap[bb]? = W.heap[bb]?
def AllIs (L : List UInt8) (m : Nat) (p : Int) (xs : List Bod) : Prop := allF L m p = xs.map Bod.b ∧ endF p (xs.map Bod.b) = lastQ p xs
theorem kpF_t {n0 bb : Nat} {A B C : World} (h : KpF n0 bb A B) (k : KpF n0 bb B C) : KpF n0 bb A C := ⟨h.1.trans k.1, k.2.trans h.2⟩
theorem info_bytes : (Try.prog.info? 23).map (fun i => (i.zero, i.size, i.bytes)) = some (some (.slice none 0 0), 1, 24) := by kernel_rfl
/-- What All answers. -/
def AllOut (w : World) (L : List UInt8) (p m : Int) (e : Ending) (w' : World) : Prop :=
  ∃ (v : Value) (xs : List Bod), e = .returned (.tuple #[v, .int .i64 (endF p (xs.map Bod.b))]) ∧ allF L m.toNat p = xs.map Bod.b ∧ w'.ownsRow w.heap.size 23 1 v xs.length (xs.map Bod.v) ∧ (∀ x ∈ xs, BodAt w.heap.size x w') ∧ Below w.heap.size w w'
/-- Between two rounds of All. -/
def AllI (w : World) (p : Int) (pre : List Bod) (W : World) : Prop :=
  (∃ v, Boxed W w.heap.size 29 v ∧ W.ownsRow (w.heap.size + 5) 23 1 v pre.length (pre.map Bod.v)) ∧ Boxed W (w.heap.size + 1) 3 (.int .i64 (lastQ p pre)) ∧ (∀ x ∈ pre, BodAt (w.heap.size + 5) x W) ∧ Below w.heap.size w W ∧ w.heap.size + 5 ≤ W.heap.size
theorem ownsRow_cells {X Y : World} {row : Option Nat} {base : Nat} {e : TypeId} {size k : Nat} {v : Value} {xs : List Value} (h : X.ownsRow base e size v k xs) (hg : X.grownBy Y row) (hr : ∀ r, row = some r → ∃ o : Obj, X.heap[r]? = some o ∧ o.isCells = false) : Y.ownsRow base e size v k xs := by
  refine h.kept hg ?_
  rcases h.2 with ⟨rfl, _⟩ | ⟨g, cap, cur, rfl, _, hgb, _⟩
  · exact .inl rfl
  · refine .inr fun e' => ?_
    obtain ⟨o, ho, hc⟩ := hr g e'.symm
    rw [hgb] at ho; cases ho; cases hc
theorem boxed_cells {X Y : World} {row : Option Nat} {B : Nat} {t : TypeId} {v : Value} (h : Boxed X B t v) (hg : X.grownBy Y row) (hr : ∀ r, row = some r → ∃ o : Obj, X.heap[r]? = some o ∧ o.isCells = false) : Boxed Y B t v := by
  refine h.kept hg fun e' => ?_
  obtain ⟨o, ho, hc⟩ := hr B e'.symm
  rw [show X.heap[B]? = _ from h] at ho; cases ho; cases hc
theorem allI_own (w : World) (p : Int) {B : Nat} (hB : w.heap.size ≤ B) : OwnFrom B (AllI w p) := by
  rintro s X Y row ⟨⟨v, hv, hrow⟩, hq, hbod, hb, hs⟩ hg hr
  have hr' := fun r e => (hr r e).2
  exact ⟨⟨v, boxed_cells hv hg hr', ownsRow_cells hrow hg hr'⟩, boxed_cells hq hg hr', fun x hx => ownsRow_cells (hbod x hx) hg hr', ownFrom_below (β := Unit) (Nat.le_refl _) hB () X Y row hb hg hr, Nat.le_trans hs hg.size⟩
/-- Rows of unlike kinds lie in unlike blocks. -/
theorem rows_apart {W : World} {b1 b2 : Nat} {e1 e2 : TypeId} {s1 s2 k1 k2 : Nat} {v1 v2 : Value} {x1 x2 : List Value} (h1 : W.ownsRow b1 e1 s1 v1 k1 x1) (h2 : W.ownsRow b2 e2 s2 v2 k2 x2) (hne : e1 ≠ e2) : v1.ownBlock = none ∨ v1.ownBlock ≠ v2.ownBlock := by
  rcases h1.2 with ⟨rfl, _⟩ | ⟨g, cap, cur, rfl, _, hgb, _⟩
  · exact .inl rfl
  · refine .inr fun e' => ?_
    rcases h2.2 with ⟨rfl, _⟩ | ⟨g2, cap2, cur2, rfl, _, hgb2, _⟩
    · cases e'
    · obtain rfl : g = g2 := by simpa [Value.ownBlock] using e'
      rw [hgb] at hgb2
      simp at hgb2
      exact hne hgb2.2
theorem all_round {w W w1 : World} {p : Int} {pre : List Bod} {x : Bod} {v v' : Value} {tmp : Obj} {bb : Nat} {ob : Obj} (hbb : W.heap[bb]? = some ob) (hb5 : bb < w.heap.size + 5) (hb1 : bb ≠ w.heap.size) (hb2 : bb ≠ w.heap.size + 1)
    (hv : Boxed W w.heap.size 29 v) (hrow : W.ownsRow (w.heap.size + 5) 23 1 v pre.length (pre.map Bod.v)) (hq : Boxed W (w.heap.size + 1) 3 (.int .i64 (lastQ p pre))) (hbod : ∀ y ∈ pre, BodAt (w.heap.size + 5) y W) (hx : BodAt (w.heap.size + 5) x W) (hB : Below w.heap.size w W) (hs : w.heap.size + 5 ≤ W.heap.size)
    (hown : w1.ownsRow (w.heap.size + 5) 23 1 v' (pre.length + 1) (pre.map Bod.v ++ [x.v])) (hg : (W.alloc tmp).grownBy w1 v.ownBlock) :
    KeepsFrom (w.heap.size + 5) W ((w1.setCell ⟨w.heap.size, 0, none⟩ v').setCell ⟨w.heap.size + 1, 0, none⟩ (.int .i64 x.q)) ∧ KpF w.heap.size bb W ((w1.setCell ⟨w.heap.size, 0, none⟩ v').setCell ⟨w.heap.size + 1, 0, none⟩ (.int .i64 x.q)) ∧
    AllI w p (pre ++ [x]) ((w1.setCell ⟨w.heap.size, 0, none⟩ v').setCell ⟨w.heap.size + 1, 0, none⟩ (.int .i64 x.q)) := by
  have v1 : Boxed w1 w.heap.size 29 v := (hv.alloc tmp).kept hg (hv.not_row (by decide) hrow)
  have q1 : Boxed w1 (w.heap.size + 1) 3 (.int .i64 (lastQ p pre)) := (hq.alloc tmp).kept hg (hq.not_row (by decide) hrow)
  have b1 : ∀ y, BodAt (w.heap.size + 5) y W → BodAt (w.heap.size + 5) y w1 := fun y hy => World.ownsRow.kept (hy.alloc tmp) hg (rows_apart hy hrow (by decide))
  have k1 : KeepsFrom (w.heap.size + 5) W w1 := ((KeepsOthers.alloc W tmp).trans (KeepsOthers.of_grownBy hg fun j o ej hj => by
    rcases (hrow.alloc tmp).2 with ⟨rfl, _⟩ | ⟨g, cap, cur, rfl, _, hgb, _⟩
    · cases ej
    · obtain rfl : g = j := by simpa [Value.ownBlock] using ej
      rw [hgb] at hj; cases hj; rfl)).from _
  have d1 : Below w.heap.size W w1 := ((Below.refl _ W).alloc (by omega) tmp).grown hg (by simp; omega) (fun g e => by have := (own_shape hrow e).1; omega)
  have e1 : w1.heap[bb]? = W.heap[bb]? := by
    have hlt := (Array.getElem?_eq_some_iff.1 hbb).1
    rw [hg.block bb (by simp; omega) (fun e => by have := (own_shape hrow e.symm).1; omega), RowKit.Below.heap_alloc W tmp bb hlt]
  obtain ⟨w2, hw2⟩ : ∃ w2, w2 = w1.setCell ⟨w.heap.size, 0, none⟩ v' := ⟨_, rfl⟩
  rw [← hw2]
  have g2 : w1.grownBy w2 (some w.heap.size) := by rw [hw2]; exact grownBy_setCell' _ _ _
  have g3 : w2.grownBy (w2.setCell ⟨w.heap.size + 1, 0, none⟩ (.int .i64 x.q)) (some (w.heap.size + 1)) := grownBy_setCell' _ _ _
  have v2 : Boxed w2 w.heap.size 29 v' := by rw [hw2]; exact v1.set v'
  have q2 : Boxed w2 (w.heap.size + 1) 3 (.int .i64 (lastQ p pre)) := q1.kept g2 (by simp)
  have r2 : w2.ownsRow (w.heap.size + 5) 23 1 v' (pre.length + 1) (pre.map Bod.v ++ [x.v]) := hown.kept g2 (by
    cases hk : v'.ownBlock with
    | none => exact .inl rfl
    | some k => have := (own_shape hown hk).1; exact .inr (by simp; omega))
  have b2 : ∀ y, BodAt (w.heap.size + 5) y w1 → BodAt (w.heap.size + 5) y w2 := fun y hy => World.ownsRow.kept hy g2 (by
    cases hk : y.v.ownBlock with
    | none => exact .inl rfl
    | some k => have := (own_shape hy hk).1; exact .inr (by simp; omega))
  have r3 := r2.kept g3 (by
    cases hk : v'.ownBlock with
    | none => exact .inl rfl
    | some k => have := (own_shape r2 hk).1; exact .inr (by simp; omega))
  have b3 : ∀ y, BodAt (w.heap.size + 5) y w2 → BodAt (w.heap.size + 5) y (w2.setCell ⟨w.heap.size + 1, 0, none⟩ (.int .i64 x.q)) := fun y hy => World.ownsRow.kept hy g3 (by
    cases hk : y.v.ownBlock with
    | none => exact .inl rfl
    | some k => have := (own_shape hy hk).1; exact .inr (by simp; omega))
  have d3 : Below w.heap.size W (w2.setCell ⟨w.heap.size + 1, 0, none⟩ (.int .i64 x.q)) := by
    rw [hw2]
    exact (d1.setCell (p := ⟨w.heap.size, 0, none⟩) (Nat.le_refl _) _).setCell (p := ⟨w.heap.size + 1, 0, none⟩) (Nat.le_succ _) _
  refine ⟨?_, ⟨d3, ?_⟩, ⟨v', v2.kept g3 (by simp), by simpa using r3⟩, ?_, ?_, hB.trans d3, Nat.le_trans hs d3.size⟩
  · rw [hw2]; exact (k1.trans ((KeepsOthers.setCell _ _ _).from _)).trans ((KeepsOthers.setCell _ _ _).from _)
  · rw [g3.block bb (by have := (Array.getElem?_eq_some_iff.1 (e1.trans hbb)).1; have := g2.size; omega) (by simp; omega), g2.block bb (by have := (Array.getElem?_eq_some_iff.1 (e1.trans hbb)).1; omega) (by simp; omega), e1]
  · rw [lastQ_snoc]; exact q2.set _
  · intro y hy
    rcases List.mem_append.1 hy with hy | hy
    · exact b3 y (b2 y (b1 y (hbod y hy)))
    · rw [List.mem_singleton] at hy; subst hy; exact b3 _ (b2 _ (b1 _ hx))
theorem all_end {w W W3 : World} {p : Int} {xs : List Bod} {v : Value} {D : Nat} (hv : Boxed W w.heap.size 29 v) (hrow : W.ownsRow (w.heap.size + 5) 23 1 v xs.length (xs.map Bod.v)) (hq : Boxed W (w.heap.size + 1) 3 (.int .i64 (lastQ p xs)))
    (hbod : ∀ x ∈ xs, BodAt (w.heap.size + 5) x W) (hB : Below w.heap.size w W) (hK : W.heap[D]? = some (.deferred (some []))) (hD : w.heap.size + 5 ≤ D) (hW3 : W3 = ((W.setCell ⟨w.heap.size, 0, none⟩ v).setCell ⟨w.heap.size + 1, 0, none⟩ (.int .i64 (lastQ p xs))).drew) :
    Boxed (W3.putObj D (.deferred none)) w.heap.size 29 v ∧ Boxed (W3.putObj D (.deferred none)) (w.heap.size + 1) 3 (.int .i64 (lastQ p xs)) ∧ (W3.putObj D (.deferred none)).ownsRow w.heap.size 23 1 v xs.length (xs.map Bod.v) ∧
      (∀ x ∈ xs, BodAt w.heap.size x (W3.putObj D (.deferred none))) ∧ Below w.heap.size w (W3.putObj D (.deferred none)) ∧ W3.heap[D]? = some (.deferred (some [])) := by
  obtain ⟨w2, hw2⟩ : ∃ w2, w2 = W.setCell ⟨w.heap.size, 0, none⟩ v := ⟨_, rfl⟩
  rw [← hw2] at hW3
  obtain ⟨w3, hw3⟩ : ∃ w3, w3 = w2.setCell ⟨w.heap.size + 1, 0, none⟩ (.int .i64 (lastQ p xs)) := ⟨_, rfl⟩
  rw [← hw3] at hW3
  have g2 : W.grownBy w2 (some w.heap.size) := by rw [hw2]; exact grownBy_setCell' _ _ _
  have g3 : w2.grownBy w3 (some (w.heap.size + 1)) := by rw [hw3]; exact grownBy_setCell' _ _ _
  have g4 : w3.grownBy W3 none := by rw [hW3]; exact Below.to_grown (Below_drew (Below.refl _ _))
  have hDl := (Array.getElem?_eq_some_iff.1 hK).1
  have k2 : w2.heap[D]? = some (.deferred (some [])) := (g2.block D hDl (by simp; omega)).trans hK
  have k3 : w3.heap[D]? = some (.deferred (some [])) := (g3.block D (by have := g2.size; omega) (by simp; omega)).trans k2
  have k4 : W3.heap[D]? = some (.deferred (some [])) := (g4.block D (by have := g2.size; have := g3.size; omega) (by simp)).trans k3
  have far : ∀ {X : World} {e : TypeId} {u : Value} {k : Nat} {ys : List Value} {B : Nat}, X.ownsRow (w.heap.size + 5) e 1 u k ys → B < w.heap.size + 5 → u.ownBlock = none ∨ u.ownBlock ≠ some B := by
    intro X e u k ys B h hlt
    cases hk : u.ownBlock with
    | none => exact .inl rfl
    | some j => have := (own_shape h hk).1; exact .inr (by simp; omega)
  have g5 : W3.grownBy (W3.putObj D (.deferred none)) (some D) := grownBy_putObj' _ _ _
  have nc : ∀ r, some D = some r → ∃ o : Obj, W3.heap[r]? = some o ∧ o.isCells = false := fun r e => by cases e; exact ⟨_, k4, rfl⟩
  have row : ∀ {e : TypeId} {u : Value} {k : Nat} {ys : List Value}, W.ownsRow (w.heap.size + 5) e 1 u k ys → (W3.putObj D (.deferred none)).ownsRow w.heap.size e 1 u k ys := by
    intro e u k ys h
    have h2 := h.kept g2 (far h (by omega))
    have h3 := h2.kept g3 (far h2 (by omega))
    have h4 := h3.kept g4 (by cases u.ownBlock <;> simp)
    exact own_base (ownsRow_cells h4 g5 nc) (by omega)
  have v2 : Boxed w2 w.heap.size 29 v := by rw [hw2]; exact hv.set v
  have q3 : Boxed w3 (w.heap.size + 1) 3 (.int .i64 (lastQ p xs)) := by rw [hw3]; exact (hq.kept g2 (by simp)).set _
  refine ⟨boxed_cells ((v2.kept g3 (by simp)).kept g4 (by simp)) g5 nc, boxed_cells (q3.kept g4 (by simp)) g5 nc, row hrow, fun x hx => row (hbod x hx), ?_, k4⟩
  have b4 : Below w.heap.size w W3 := by
    rw [hW3, hw3, hw2]
    exact Below_drew ((hB.setCell (p := ⟨w.heap.size, 0, none⟩) (Nat.le_refl _) _).setCell (p := ⟨w.heap.size + 1, 0, none⟩) (Nat.le_succ _) _)
  exact b4.grown g5 b4.size (fun k e => by cases e; omega)
theorem run_loadVar_box {P : Program} {t : TypeId} {d : TypeDesc} {W : World} {B : Nat} {v : Value} (hu : P.underlying t = some d) (hd : d.isRow = false) (h : Boxed W B t v) : (loadVar t ⟨B, 0, none⟩).run P W = .ok v W := by
  have hagg : (isAgg t).run P W = .ok false W := by
    unfold isAgg
    rw [Sem.run_bind, run_underlying hu W]
    cases d <;> simp_all [TypeDesc.isRow]
  have hc := h.cell
  simp [loadVar, Sem.run_bind, hagg, Result.andThen, hc]
theorem results_cells {P : Program} {fn : Func} {p1 p2 : Tmp} {t1 t2 : TypeId} {tmps : Array Value} {B1 B2 : Nat} {W : World} {v1 v2 : Value} {d1 d2 : TypeDesc} (h : fn.results = #[.cell p1 t1, .cell p2 t2]) (e1 : tmps.getD p1 undef = .pointer (some ⟨B1, 0, none⟩)) (e2 : tmps.getD p2 undef = .pointer (some ⟨B2, 0, none⟩))
    (h1 : Boxed W B1 t1 v1) (h2 : Boxed W B2 t2 v2) (u1 : P.underlying t1 = some d1) (u2 : P.underlying t2 = some d2) (r1 : d1.isRow = false) (r2 : d2.isRow = false) : (results fn tmps).run P W = .ok (.tuple #[v1, v2]) W := by
  have l1 := run_loadVar_box u1 r1 h1
  have l2 := run_loadVar_box u2 r2 h2
  have e1' : tmps[p1]?.getD undef = .pointer (some ⟨B1, 0, none⟩) := by rw [← e1]; simp
  have e2' : tmps[p2]?.getD undef = .pointer (some ⟨B2, 0, none⟩) := by rw [← e2]; simp
  simp [results, h, asAddr, e1', e2', l1, l2]
end Go.Proofs.Ytkaafjcfcknbpaa

