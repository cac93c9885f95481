import Derived.Test.YthfhmohbfoolnaaKd
import Derived.Sort.AssemblyPlain
import Derived.Sort.WalkA
namespace Go.Proofs.Ythfhmohbfoolnaa
open Go Go.RowKit Go.Sort

/-! The library's sort at []uint32: how the row stands while it is sorted. -/
/-- The row holds d; nothing else of what was there in w0 has turned. -/
structure Srt (w0 w : World) (blk off : Nat) (d : Array Int) : Prop where
  holds : ∀ j, j < d.size → w.cell? ⟨blk, off + j, none⟩ = some (.int .u32 d[j]!) ∧ w.frozen? ⟨blk, off + j, none⟩ = false
  grown : w0.grownBy w (some blk)
  shape : ∃ cs cs' e fr, w0.heap[blk]? = some (.cells cs e fr) ∧ w.heap[blk]? = some (.cells cs' e fr) ∧ cs'.size = cs.size
theorem Srt.lt {w0 w : World} {blk off : Nat} {d : Array Int} (h : Srt w0 w blk off d) : blk < w.heap.size := by
  obtain ⟨_, _, _, _, _, h2, _⟩ := h.shape
  exact (Array.getElem?_eq_some_iff.1 h2).1
theorem Srt.start {w0 w : World} {blk off : Nat} {d : Array Int} (h : Srt w0 w blk off d) : Srt w w blk off d := by
  obtain ⟨_, cs', e, fr, _, h2, _⟩ := h.shape
  exact ⟨h.holds, ⟨rfl, rfl, rfl, Nat.le_refl _, fun _ _ _ => rfl⟩, cs', cs', e, fr, h2, h2, rfl⟩
theorem grown_trans {w0 w1 w2 : World} {r : Option Nat} (h1 : w0.grownBy w1 r) (h2 : w1.grownBy w2 r) : w0.grownBy w2 r :=
  ⟨h2.os.trans h1.os, h2.tape.trans h1.tape, h2.output.trans h1.output, Nat.le_trans h1.size h2.size, fun k hk hn => (h2.block k (Nat.lt_of_lt_of_le hk h1.size) hn).trans (h1.block k hk hn)⟩
theorem Srt.trans {w0 w1 w2 : World} {blk off : Nat} {d1 d2 : Array Int} (h1 : Srt w0 w1 blk off d1) (h2 : Srt w1 w2 blk off d2) : Srt w0 w2 blk off d2 := by
  obtain ⟨cs, cs', e, fr, a1, a2, a3⟩ := h1.shape
  obtain ⟨cs2, cs3, e2, fr2, b1, b2, b3⟩ := h2.shape
  rw [a2] at b1
  cases b1
  exact ⟨h2.holds, grown_trans h1.grown h2.grown, cs, cs3, e, fr, a1, b2, b3.trans a3⟩
theorem Srt.below {w0 w w' : World} {blk off : Nat} {d : Array Int} (h : Srt w0 w blk off d) (hb : Below w.heap.size w w') : Srt w0 w' blk off d := by
  have hl := h.lt
  obtain ⟨cs, cs', e, fr, a1, a2, a3⟩ := h.shape
  refine ⟨fun j hj => ?_, grown_trans h.grown ⟨hb.os, hb.tape, hb.output, hb.size, fun k hk _ => hb.block k hk⟩, cs, cs', e, fr, a1, (hb.block blk hl).trans a2, a3⟩
  rw [hb.cell (p := ⟨blk, off + j, none⟩) hl, hb.frozen (p := ⟨blk, off + j, none⟩) hl]
  exact h.holds j hj
theorem Srt.drew {w0 w : World} {blk off : Nat} {d : Array Int} (h : Srt w0 w blk off d) : Srt w0 w.drew blk off d := ⟨h.holds, ⟨h.grown.os, h.grown.tape, h.grown.output, h.grown.size, h.grown.block⟩, h.shape⟩
theorem Srt.set {w0 w : World} {blk off : Nat} {d : Array Int} (h : Srt w0 w blk off d) {i : Nat} (hi : i < d.size) (x : Int) : Srt w0 (w.setCell ⟨blk, off + i, none⟩ (.int .u32 x)) blk off (d.setIfInBounds i x) := by
  obtain ⟨cs, cs', e, fr, a1, a2, a3⟩ := h.shape
  refine ⟨fun j hj => ?_, grown_trans h.grown ⟨rfl, rfl, rfl, by simp [World.setCell], fun k hk hn => by
    have : blk ≠ k := fun e => hn (by rw [e])
    simp [World.setCell, Array.getElem?_modify, this]⟩, cs, cs'.setIfInBounds (off + i) (.int .u32 x), e, fr, a1, by simp [World.setCell, Array.getElem?_modify, a2], by simp [a3]⟩
  have hj' : j < d.size := by simpa using hj
  refine ⟨?_, by rw [World.frozen?_setCell]; exact (h.holds j hj').2⟩
  by_cases he : j = i
  · subst he
    rw [World.cell?_setCell_same _ _ _ (h.holds j hj').1, getElem!_set_same d j x hj']
  · rw [World.cell?_setCell_other _ _ _ _ (fun e => he (by injection e with _ e; omega)), getElem!_set_other d i j x he]
    exact (h.holds j hj').1
/-- Two of the row change places. -/
theorem Srt.swap {w0 w : World} {blk off : Nat} {d : Array Int} (h : Srt w0 w blk off d) {i j : Nat} (hi : i < d.size) (hj : j < d.size) {x y : Int} (hx : x = d[j]!) (hy : y = d[i]!) :
    Srt w0 ((w.setCell ⟨blk, off + i, none⟩ (.int .u32 x)).setCell ⟨blk, off + j, none⟩ (.int .u32 y)) blk off (swp d i j) := by
  subst hx hy
  exact (h.set hi _).set (by simpa using hj) _
theorem less_any (x y : Int) (w : World) : Calls Try.prog 72 #[.int .u32 x, .int .u32 y] w fun e w' => e = .returned (.bool (ltInt x y)) ∧ Below w.heap.size w w' := by
  have hn : ∀ (z : Int) (w : World), Calls Try.prog 82 #[.int .u32 z] w fun e w' => e = .returned (.bool false) ∧ Below w.heap.size w w' := fun z w => by
    go_enter Try.func82, Try.ntmps82
    go_wp2
    go_ret
    exact ⟨by simp, Below.refl _ _⟩
  go_enter Try.func72, Try.ntmps72
  go_wp2_with fail
  refine (hn x w).mono ?_
  rintro e w1 ⟨rfl, h1⟩
  go_wp2
  go_ret
  exact ⟨rfl, h1⟩
end Go.Proofs.Ythfhmohbfoolnaa
