import Derived.Test.YtkaafjcfcknbpaaGs
import Derived.Test.YtkaafjcfcknbpaaSf
namespace Go.Proofs.Ytkaafjcfcknbpaa
open Go.ChangeShapes Go.WideShapes Go.ChangeAt Go.RowKit Go.Deep Go.Joins

/-! Slices of slices of spans that came in. -/
structure Bt where
  a : Option Addr
  c : Nat
  l : List Sp
deriving instance Inhabited for Bt
def Bt.v (x : Bt) : Value := .slice x.a x.l.length x.c
def Bt.r (x : Bt) : List Value := [x.v]
def BtArg (w : World) (x : Bt) : Prop := Rd w w.heap.size x.a (flatL x.l) ∧ x.l.length ≤ x.c ∧ x.c ≤ maxLen ∧ ∀ s ∈ x.l, s.Ok
theorem flatL_flatG (L : List Sp) : flatG (fun s : Sp => s.c.toList) L = flatL L := rfl
section
variable {H : Type} {enc : TypeId × Value → H} {w : World} {base : Nat} {spare : Nat → Bool} {held : Bool}
set_option maxRecDepth 20000 in
theorem open_batches {b0 : Nat} {r : Reach} {v : Value} {d : DataW H} {p : List MemPlace} (hv : Value.okWide Try.prog w r b0 43 v) (h : DataW.Trod enc Try.prog w base spare held 43 v d p) :
    ∃ (L : List Bt) (a : Option Addr) (c : Nat), (∀ s ∈ L, BtArg w s) ∧ v = .slice a L.length c ∧ L.length ≤ c ∧ c ≤ maxLen ∧ Rd w w.heap.size a (flatG Bt.r L) := by
  obtain ⟨a, len, cap, rfl⟩ := okWide_slice Try.underlying43 hv
  obtain ⟨fuel, hf⟩ := h
  refine rows_cell Bt.r (m := 1) (fun _ => rfl) (by omega) (BtArg w) Try.underlying43 (by kernel_rfl) (fun n cs y h => ?_) hf
  have hlen : cs.length = 1 := by
    obtain ⟨d, p⟩ := y
    rcases open_slice Try.underlying46 h with ⟨hcs, _⟩ | ⟨a', len', cap', m, n', D, Pl, hcs, _⟩
    · rw [hcs]; rfl
    · rw [hcs]; rfl
  obtain ⟨x, rfl⟩ := List.length_eq_one_iff.1 hlen
  obtain ⟨L, a, k, hq, rfl, k1, k2, k3⟩ := rows_cell (fun s : Sp => s.c.toList) (m := 8) (fun s => by simp [Sp.c]) (by omega) Sp.Ok Try.underlying46 cells_sp (fun n cs y h => by
    obtain ⟨s, ho, hc⟩ := sp_cells h
    exact ⟨s, ho, hc⟩) h
  exact ⟨⟨a, k, L⟩, ⟨k3, k1, k2, hq⟩, rfl⟩
end
theorem Bt_elem {w : World} {B : Nat} {a : Option Addr} {L : List Bt} (h : Rd w B a (flatG Bt.r L)) {i : Nat} (hi : i < L.length) : ∃ b off, a = some ⟨b, off, none⟩ ∧ b < B ∧ w.cell? ⟨b, off + i, none⟩ = some (.slice L[i].a L[i].l.length L[i].c) := by
  obtain ⟨b, off, ha, hb, hc⟩ := h.elemG (m := 1) (fun _ => rfl) (by omega) hi
  have := hc 0 _ rfl
  rw [Nat.mul_one, Nat.add_zero] at this
  exact ⟨b, off, ha, hb, this⟩
end Go.Proofs.Ytkaafjcfcknbpaa
