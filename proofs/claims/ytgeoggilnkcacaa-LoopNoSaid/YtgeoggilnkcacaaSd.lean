import Derived.Test.YtgeoggilnkcacaaSb
import Derived.Test.YtgeoggilnkcacaaGd
import Derived.ProofKit
import Derived.OpenShut
import Derived.ShutString
import Derived.ChangeOld
import Derived.Deep.Slices
import Derived.Deep.Fields
import Derived.ChangeSame
import Derived.Lib.SmallJoins
namespace Go.Proofs.Ytgeoggilnkcacaa
open Go.ChangeShapes Go.WideShapes Go.ChangeAt Go.RowKit Go.Deep Go.Joins

def U64 (x : Int) : Prop := 0 ≤ x ∧ x < 18446744073709551616
def I64 (x : Int) : Prop := -9223372036854775808 ≤ x ∧ x < 9223372036854775808
def U8 (x : Int) : Prop := 0 ≤ x ∧ x < 256
structure Sp.Ok (s : Sp) : Prop where
  trace : U64 s.trace
  id : U64 s.id
  parent : U64 s.parent
  kind : U8 s.kind
  host : s.host.size ≤ maxLen
  name : s.name.size ≤ maxLen
  start : I64 s.start
  dur : I64 s.dur

theorem cells_i64 : Try.prog.cellsOf 2 = 1 := by kernel_rfl
theorem cells_u8 : Try.prog.cellsOf 5 = 1 := by kernel_rfl
theorem cells_str : Try.prog.cellsOf 9 = 1 := by kernel_rfl
section
variable {H : Type} {enc : TypeId × Value → H} {w : World} {base : Nat} {spare : Nat → Bool} {held : Bool}
theorem one_int {P : Program} {t : TypeId} {k : IntKind} {n : Nat} {v : Value} {xs : List (DataW H × List MemPlace)} {i : Nat} (hi : i < xs.length) (ht : P.underlying t = some (.int k))
    (h : DataW.trod enc P w base spare held n t [v] = xs[i]?) : ∃ x, v = .int k x ∧ (Lit.int k x).wf = true := by
  rw [List.getElem?_eq_getElem hi] at h
  obtain ⟨x, hx, _, hw⟩ := DataW.trod_int ht h
  simp at hx
  exact ⟨x, hx, hw⟩
theorem one_string {P : Program} {t : TypeId} {n : Nat} {v : Value} {xs : List (DataW H × List MemPlace)} {i : Nat} (hi : i < xs.length) (ht : P.underlying t = some .string)
    (h : DataW.trod enc P w base spare held n t [v] = xs[i]?) : ∃ s : ByteArray, v = .string s ∧ s.size ≤ maxLen := by
  rw [List.getElem?_eq_getElem hi] at h
  obtain ⟨x, hx, _, hw⟩ := DataW.trod_string ht h
  simp at hx
  exact ⟨x, hx, hw⟩
/-- Block b holds, from place off on, the spans L, eight cells each. -/
def SpRow (w : World) (b off : Nat) (L : List Sp) : Prop := ∀ i (h : i < L.length), ∀ j, j < 8 → w.cell? ⟨b, off + i * 8 + j, none⟩ = (L[i]).c[j]?
/-- The slice v reads as the spans L. -/
def Spans (w : World) (v : Value) (L : List Sp) : Prop :=
  ∃ a cap, v = .slice a L.length cap ∧ L.length ≤ cap ∧ cap ≤ maxLen ∧ (0 < L.length → ∃ b off, a = some ⟨b, off, none⟩ ∧ b < w.heap.size ∧ SpRow w b off L)
deriving instance Inhabited for Sp
end
end Go.Proofs.Ytgeoggilnkcacaa

