import Derived.Test.YtommpppbdkapbaaBa
import Derived.Test.YtommpppbdkapbaaSd
namespace Go.Proofs.Ytommpppbdkapbaa
open Go.ChangeShapes Go.WideShapes Go.ChangeAt Go.RowKit Go.Deep Go.Joins
set_option linter.unusedVariables false

/-! A pair that came in (stage 12). -/
theorem cells_pair : Try.prog.cellsOf 32 = 2 := by kernel_rfl
theorem cells_int : Try.prog.cellsOf 3 = 1 := by kernel_rfl
section
variable {H : Type} {enc : TypeId × Value → H} {w : World} {base : Nat} {spare : Nat → Bool} {held : Bool}
theorem pr_cells {fuel : Nat} {cs : List Value} {x : DataW H × List MemPlace} (h : DataW.trod enc Try.prog w base spare held fuel 32 cs = some x) : ∃ p : Pr, cs = p.c.toList := by
  obtain ⟨xs, n, _, hx, hcl, hlen, hg⟩ := DataW.trod_struct Try.underlying32 h
  rw [cells_pair] at hcl
  match cs, hcl with
  | [c0, c1], _ =>
    have hl : xs.length = 2 := hlen
    have g0 : DataW.trod enc Try.prog w base spare held n 3 [c0] = xs[0]? := by simpa [cells_int] using hg 0 _ rfl
    have g1 : DataW.trod enc Try.prog w base spare held n 3 [c1] = xs[1]? := by simpa [cells_int] using hg 1 _ rfl
    obtain ⟨x0, rfl, h0⟩ := one_int (by omega) Try.underlying3 g0
    obtain ⟨x1, rfl, h1⟩ := one_int (by omega) Try.underlying3 g1
    exact ⟨⟨x0, x1⟩, rfl⟩
theorem open_pr {b0 : Nat} {r : Reach} {v : Value} {d : DataW H} {p : List MemPlace} (hv : Value.okWide Try.prog w r b0 32 v) (h : DataW.Trod enc Try.prog w base spare held 32 v d p) : ∃ q : Pr, v = q.v := by
  obtain ⟨cs, rfl, hsz⟩ := okWide_struct Try.underlying32 hv
  obtain ⟨fuel, hf⟩ := h
  obtain ⟨s, hc⟩ := pr_cells hf
  refine ⟨s, ?_⟩
  have : cs = s.c := by rw [← Array.toList_inj]; simpa [Value.cells] using hc
  rw [this]; rfl
end
end Go.Proofs.Ytommpppbdkapbaa

