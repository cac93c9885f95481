import Derived.Test.YteaafjkgopmmdaaIa
import Derived.Test.YteaafjkgopmmdaaBb
namespace Go.Proofs.Yteaafjkgopmmdaa
open Go Go.RowKit Go.Sort
set_option linter.unusedVariables false

/-! Pairs that came in (stage 14). -/
instance : Inhabited Pr := ⟨⟨0, 0⟩⟩
section
open Go.ChangeShapes Go.WideShapes Go.ChangeAt Go.Deep Go.Joins
variable {H : Type} {enc : TypeId × Value → H} {w : World} {base : Nat} {spare : Nat → Bool} {held : Bool}
theorem pr_cells14 {fuel : Nat} {cs : List Value} {x : DataW H × List MemPlace} (h : DataW.trod enc Try.prog w base spare held fuel 35 cs = some x) : ∃ e : Pr, cs = e.c.toList := by
  obtain ⟨p, q, _, _, e⟩ := pair_cells14 h
  exact ⟨⟨p, q⟩, e⟩
set_option maxRecDepth 20000 in
theorem open_prs {b0 : Nat} {r : Reach} {t : TypeId} (ht : Try.prog.underlying t = some (.slice 35)) {v : Value} {d : DataW H} {p : List MemPlace} (hv : Value.okWide Try.prog w r b0 t v) (h : DataW.Trod enc Try.prog w base spare held t v d p) :
    ∃ (L : List Pr) (a : Option Addr) (cap : Nat), v = .slice a L.length cap ∧ L.length ≤ cap ∧ cap ≤ maxLen ∧ Rd w w.heap.size a (prsV L) := by
  obtain ⟨a, len, cap, rfl⟩ := okWide_slice ht hv
  obtain ⟨fuel, hf⟩ := h
  rcases open_slice ht hf with ⟨hcs, _⟩ | ⟨a', len', cap', m, n, D, Pl, hcs, hb, hl, hm, hmm, hx, hi⟩
  · simp [Value.cells] at hcs
    obtain ⟨rfl, rfl, rfl⟩ := hcs
    exact ⟨[], none, 0, rfl, Nat.le_refl _, by decide, Rd.nil _ _ _⟩
  simp [Value.cells] at hcs
  obtain ⟨rfl, rfl, rfl⟩ := hcs
  have hlm : len ≤ m := by rw [hmm]; split <;> omega
  rw [cells_pair14] at hi
  obtain ⟨S, hS⟩ := choose_lt (α := Pr) (n := len) (p := fun i s => w.cells? base (a'.add (i * 2)) 2 = some s.c.toList) (fun i hil => by
    obtain ⟨cs', h1, h2⟩ := hi i (by omega)
    obtain ⟨s, rfl⟩ := pr_cells14 h2
    exact ⟨s, h1⟩)
  have hcell : ∀ i, i < len → ∀ j, j < 2 → w.cell? (a'.add (i * 2 + j)) = (S i).c[j]? := fun i hil j hj => by
    have := (World.cells?_some (hS i hil)).2.2 j hj
    rw [Go.Deep.add_add] at this
    simpa using this
  refine ⟨(List.range len).map S, some a', cap, by simp, by simpa using hl, hm, fun h0 => ?_⟩
  have h0' : 0 < len := by
    rw [prsV_length] at h0
    simp at h0; omega
  have h00 : w.cell? a' = some (.int .i64 (S 0).client) := by simpa [Addr.add, Pr.c] using hcell 0 h0' 0 (by omega)
  have hspot := World.cell?_spot h00
  obtain ⟨b, off, sp⟩ := a'
  simp at hspot
  subst hspot
  refine ⟨b, off, rfl, block_lt_of_cell h00, fun q v hv => ?_⟩
  have hq : q < ((List.range len).map S).length * 2 := by
    rw [← prsV_length]; exact (List.getElem?_eq_some_iff.1 hv).1
  have hil : q / 2 < len := by
    have : ((List.range len).map S).length = len := by simp
    rw [this] at hq; omega
  have e1 := flatG_get prV_len ((List.range len).map S) (q / 2) (by simpa using hil) (q % 2) (by omega)
  rw [show q / 2 * 2 + q % 2 = q by omega] at e1
  have hv' : (prV (S (q / 2)))[q % 2]? = some v := by
    have : (prsV ((List.range len).map S))[q]? = some v := hv
    unfold prsV at this
    rw [e1] at this
    simpa using this
  have h3 := hcell (q / 2) hil (q % 2) (by omega)
  have e2 : (⟨b, off, none⟩ : Addr).add (q / 2 * 2 + q % 2) = ⟨b, off + q, none⟩ := by
    rw [show q / 2 * 2 + q % 2 = q by omega]; exact add_at b off q
  rw [e2] at h3
  rw [h3]
  have e3 : (S (q / 2)).c[q % 2]? = (prV (S (q / 2)))[q % 2]? := by simp [Pr.c, prV]
  rw [e3]; exact hv'
end
theorem i32_of14 {n : Int} (h : (Lit.int .i32 n).wf = true) : -2147483648 ≤ n ∧ n < 2147483648 := by have := bounds_i32 h; exact ⟨this.1, by omega⟩
end Go.Proofs.Yteaafjkgopmmdaa

