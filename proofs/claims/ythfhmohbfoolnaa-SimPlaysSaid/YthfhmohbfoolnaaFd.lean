import Derived.Test.YthfhmohbfoolnaaFc
import Derived.Deep.RegionHeld3
import Derived.Deep.AppendLies
namespace Go.Proofs.Ythfhmohbfoolnaa
open Go Go.RowKit

/-- A new block. -/
def Fresh (w : World) (a' : Option Addr) : Prop := ∀ b o s, a' = some ⟨b, o, s⟩ → w.heap.size ≤ b
def FsOut (w : World) (m : FSm) (e : Ending) (w' : World) : Prop :=
  ∃ a' c', e = .returned (fsv a' m.files.length c' m.fuse m.down) ∧ m.files.length ≤ c' ∧ c' ≤ maxLen ∧ Rd w' w'.heap.size a' (flF m.files) ∧ Fresh w a' ∧ Below w.heap.size w w'
def From (w : World) (a : Option Addr) (L : List Fl) (a' : Option Addr) (L' : List Fl) : Prop := (a' = a ∧ L' = L) ∨ Fresh w a'
def FsErr (w : World) (a : Option Addr) (L : List Fl) (r : FSm × Int) (e : Ending) (w' : World) : Prop :=
  ∃ a' c', e = .returned (.tuple #[fsv a' r.1.files.length c' r.1.fuse r.1.down, .int .i64 r.2]) ∧ r.1.files.length ≤ c' ∧ c' ≤ maxLen ∧ Rd w' w'.heap.size a' (flF r.1.files) ∧ From w a L a' r.1.files ∧ Below w.heap.size w w'
theorem info_fl : (Try.prog.info? 85).map (fun i => (i.zero, i.size, i.bytes)) = some (some (noF 0).v, 5, 40) := by kernel_rfl
theorem flF_single (x : Fl) : flF [x] = x.l := flatG_one x
theorem FlAt.below {w w' : World} {B b o : Nat} {x : Fl} (h : FlAt w b o x) (hb : RowKit.Below B w w') (hB : b < B) : FlAt w' b o x := by
  obtain ⟨h0, h1, h2, h3, h4⟩ := h
  exact ⟨by rw [hb.cell (p := ⟨b, o, none⟩) hB]; exact h0, by rw [hb.cell (p := ⟨b, o + 1, none⟩) hB]; exact h1, by rw [hb.cell (p := ⟨b, o + 2, none⟩) hB]; exact h2, by rw [hb.cell (p := ⟨b, o + 3, none⟩) hB]; exact h3, by rw [hb.cell (p := ⟨b, o + 4, none⟩) hB]; exact h4⟩
theorem FlAt.new (w : World) (x : Fl) (t : TypeId) (n : Nat) (hn : n = w.heap.size) : FlAt (w.alloc (.cells x.c t)) n 0 x := by
  subst hn
  refine ⟨?_, ?_, ?_, ?_, ?_⟩ <;> simp [Fl.c]
theorem FlAt.alloc {w : World} {b o : Nat} {x : Fl} (h : FlAt w b o x) (ob : Obj) : FlAt (w.alloc ob) b o x := by
  obtain ⟨h0, h1, h2, h3, h4⟩ := h
  refine ⟨?_, ?_, ?_, ?_, ?_⟩ <;> (rw [World.cell?_alloc_lt _ _ _ (World.block_lt_of_cell? w _ (by assumption))]; assumption)
theorem FlAt.grown {w w' : World} {row : Option Nat} {b o : Nat} {x : Fl} (h : FlAt w b o x) (hg : w.grownBy w' row) (hb : b < w.heap.size) (hne : some b ≠ row) : FlAt w' b o x := by
  obtain ⟨h0, h1, h2, h3, h4⟩ := h
  refine ⟨?_, ?_, ?_, ?_, ?_⟩ <;> (rw [hg.cell_far _ hb hne]; assumption)
theorem own_ne {w : World} {base : Nat} {e : TypeId} {size n b : Nat} {v : Value} {xs : List Value} (h : w.ownsRow base e size v n xs) (hb : w.heap.size ≤ b ∨ b < base) : some b ≠ v.ownBlock := fun e' => by
  have := own_shape h e'.symm; omega
/-- The second loop of put: what lies where. -/
structure Q2 (w wr : World) (B B2 : Nat) (V : Value) (M : List Fl) (fu : Int) (dn : Bool) (k : Nat) (vv : Value) : Prop where
  hk : k ≤ M.length
  c0 : wr.cell? ⟨w.heap.size, 0, none⟩ = some vv
  c1 : wr.cell? ⟨w.heap.size, 1, none⟩ = some (.int .i64 fu)
  c2 : wr.cell? ⟨w.heap.size, 2, none⟩ = some (.bool dn)
  f0 : wr.frozen? ⟨w.heap.size, 0, none⟩ = false
  rs : wr.there (w.heap.size + 1 + 1) 0 3
  om : wr.ownsRow B 85 5 V M.length (flF M)
  ov : wr.ownsRow B2 85 5 vv ((M.take k).filter hasF).length (flF ((M.take k).filter hasF))
  bb : w.heap.size + 3 ≤ B
  vb : ∀ g, V.ownBlock = some g → g < B2
  bs : B ≤ B2
  b2 : B2 ≤ wr.heap.size
  bw : RowKit.Below w.heap.size w wr
theorem own_far {w w' : World} {row : Option Nat} {base size n : Nat} {e : TypeId} {v : Value} {xs : List Value} (h : w.ownsRow base e size v n xs) (hg : w.grownBy w' row) (hne : v.ownBlock = none ∨ v.ownBlock ≠ row) : w'.ownsRow base e size v n xs := h.kept hg hne
theorem own_set {w : World} {base size n b : Nat} {e : TypeId} {v u : Value} {xs : List Value} (h : w.ownsRow base e size v n xs) (hb : b < base) (o : Nat) : (w.setCell ⟨b, o, none⟩ u).ownsRow base e size v n xs := by
  refine ⟨h.1, h.2.imp id fun ⟨g, cap, cur, h1, h2, h3, h4⟩ => ⟨g, cap, cur, h1, h2, ?_, h4⟩⟩
  have : ¬ b = g := by omega
  simp [World.setCell, Array.getElem?_modify, this, h3]
theorem Q2.skip {w wr : World} {B B2 : Nat} {V vv : Value} {M : List Fl} {fu : Int} {dn : Bool} {k : Nat} (h : Q2 w wr B B2 V M fu dn k vv) (hk : k < M.length) (hp : hasF M[k] = false) : Q2 w wr B B2 V M fu dn (k + 1) vv :=
  have e : (M.take (k + 1)).filter hasF = (M.take k).filter hasF := by rw [List.take_succ_eq_append_getElem hk, List.filter_append]; simp [hp]
  { h with hk := hk, ov := by rw [e]; exact h.ov }
theorem Q2.next {w wr w8 : World} {B B2 : Nat} {V vv v8 : Value} {M : List Fl} {fu : Int} {dn : Bool} {k : Nat} (h : Q2 w wr B B2 V M fu dn k vv) (hk : k < M.length) (hp : hasF M[k] = true)
    (hg : wr.grownBy w8 vv.ownBlock) (ho : w8.ownsRow B2 85 5 v8 (((M.take k).filter hasF).length + 1) (flF ((M.take k).filter hasF) ++ flF [M[k]])) : Q2 w (w8.setCell ⟨w.heap.size, 0, none⟩ v8) B B2 V M fu dn (k + 1) v8 := by
  have hb2 := h.b2; have hbs := h.bs; have hbb := h.bb
  have hsz : wr.heap.size ≤ w8.heap.size := hg.size
  have far : ∀ b, b < B2 → some b ≠ vv.ownBlock := fun b hb => own_ne h.ov (.inr hb)
  have e : (M.take (k + 1)).filter hasF = (M.take k).filter hasF ++ [M[k]] := by rw [List.take_succ_eq_append_getElem hk, List.filter_append]; simp [hp]
  have c0' : w8.cell? ⟨w.heap.size, 0, none⟩ = some vv := by rw [hg.cell_far _ (by show w.heap.size < _; omega) (far w.heap.size (by omega))]; exact h.c0
  refine { hk := hk, c0 := World.cell?_setCell_same _ _ _ c0', c1 := ?_, c2 := ?_, f0 := ?_, rs := ?_, om := ?_, ov := ?_, bb := h.bb, vb := h.vb, bs := h.bs, b2 := ?_, bw := ?_ }
  · rw [World.cell?_setCell_other _ _ _ _ (by simp), hg.cell_far _ (by show w.heap.size < _; omega) (far w.heap.size (by omega))]; exact h.c1
  · rw [World.cell?_setCell_other _ _ _ _ (by simp), hg.cell_far _ (by show w.heap.size < _; omega) (far w.heap.size (by omega))]; exact h.c2
  · rw [World.frozen?_setCell, hg.frozen_far _ (by show w.heap.size < _; omega) (far w.heap.size (by omega))]; exact h.f0
  · intro j hj
    obtain ⟨r1, r2⟩ := h.rs j hj
    have e1 := hg.cell_far ⟨w.heap.size + 1 + 1, 0 + j, none⟩ (by show w.heap.size + 1 + 1 < _; omega) (far (w.heap.size + 1 + 1) (by omega))
    have e2 := hg.frozen_far ⟨w.heap.size + 1 + 1, 0 + j, none⟩ (by show w.heap.size + 1 + 1 < _; omega) (far (w.heap.size + 1 + 1) (by omega))
    exact ⟨by rw [World.cell?_setCell_other _ _ _ _ (by simp), e1]; exact r1, by rw [World.frozen?_setCell, e2]; exact r2⟩
  · refine own_set (own_far h.om hg ?_) (by omega) 0
    cases hv : V.ownBlock with
    | none => exact .inl rfl
    | some g => exact .inr (far g (h.vb g hv))
  · rw [e, List.length_append, flF_append]; exact own_set ho (by omega) 0
  · rw [World.size_setCell]; omega
  · exact (Below.of_grown h.bw hg (by omega) (fun g hgg => by have := (own_shape h.ov hgg).1; omega)).setCell (Nat.le_refl _) _
theorem Q2.alloc {w wr : World} {B B2 : Nat} {V vv : Value} {M : List Fl} {fu : Int} {dn : Bool} {k : Nat} (h : Q2 w wr B B2 V M fu dn k vv) (o : Obj) : Q2 w (wr.alloc o) B B2 V M fu dn k vv := by
  have hb2 := h.b2; have hbs := h.bs; have hbb := h.bb
  exact { h with c0 := by rw [World.cell?_alloc_lt _ _ _ (by show w.heap.size < _; omega)]; exact h.c0, c1 := by rw [World.cell?_alloc_lt _ _ _ (by show w.heap.size < _; omega)]; exact h.c1, c2 := by rw [World.cell?_alloc_lt _ _ _ (by show w.heap.size < _; omega)]; exact h.c2,
                 f0 := by rw [World.frozen?_alloc_past _ _ _ (by show w.heap.size < _; omega)]; exact h.f0, rs := World.there_alloc h.rs _, om := h.om.alloc _, ov := h.ov.alloc _, b2 := by simp; omega, bw := h.bw.alloc (by omega) _ }
theorem Q2.drew {w wr : World} {B B2 : Nat} {V vv : Value} {M : List Fl} {fu : Int} {dn : Bool} {k : Nat} (h : Q2 w wr B B2 V M fu dn k vv) : Q2 w wr.drew B B2 V M fu dn k vv :=
  ⟨h.hk, h.c0, h.c1, h.c2, h.f0, h.rs, h.om, h.ov, h.bb, h.vb, h.bs, h.b2, Below_drew h.bw⟩
end Go.Proofs.Ythfhmohbfoolnaa
