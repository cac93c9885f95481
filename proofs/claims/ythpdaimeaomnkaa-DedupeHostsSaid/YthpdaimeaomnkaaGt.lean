import Derived.Test.YthpdaimeaomnkaaGs
import Derived.Test.YthpdaimeaomnkaaSd
import Derived.Test.YthpdaimeaomnkaaDe
namespace Go.Proofs.Ythpdaimeaomnkaa
open Go.ChangeShapes Go.WideShapes Go.ChangeAt Go.RowKit Go.Deep Go.Joins

/-! Rows of texts that came in. -/
def txl (b : ByteArray) : List Value := [.string b]
theorem flat_txl (L : List ByteArray) : flatG txl L = strV (L.map txt) := by
  induction L with
  | nil => rfl
  | cons x L ih => rw [flatG_cons, ih]; simp [txl, strV, txt]
section
variable {H : Type} {enc : TypeId × Value → H} {w : World} {base : Nat} {spare : Nat → Bool} {held : Bool}
set_option maxRecDepth 100000 in
theorem open_texts {b0 : Nat} {r : Reach} {v : Value} {d : DataW H} {p : List MemPlace} (hv : Value.okWide Try.prog w r b0 37 v) (h : DataW.Trod enc Try.prog w base spare held 37 v d p) :
    ∃ (L : List ByteArray) (a : Option Addr) (c : Nat), (∀ s ∈ L, s.size ≤ maxLen) ∧ v = .slice a L.length c ∧ L.length ≤ c ∧ c ≤ maxLen ∧ Rd w w.heap.size a (strV (L.map txt)) := by
  obtain ⟨a, len, cap, rfl⟩ := okWide_slice Try.underlying37 hv
  obtain ⟨fuel, hf⟩ := h
  obtain ⟨L, a', k, h1, h2, h3, h4, h5⟩ := rows_cell txl (m := 1) (fun _ => rfl) (by omega) (fun s => s.size ≤ maxLen) Try.underlying37 (by kernel_rfl) (fun n cs y h => by
    obtain ⟨x, hx, _, hw⟩ := DataW.trod_string Try.underlying9 h
    exact ⟨x, hw, hx⟩) hf
  rw [flat_txl] at h5
  exact ⟨L, a', k, h1, h2, h3, h4, h5⟩
end
end Go.Proofs.Ythpdaimeaomnkaa
