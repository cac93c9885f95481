import Derived.Test.YteaafjkgopmmdaaSb
import Derived.Test.YteaafjkgopmmdaaGd
import Derived.ProofKit
import Derived.OpenShut
import Derived.ShutString
import Derived.ChangeOld
import Derived.Deep.Slices
import Derived.Deep.Fields
import Derived.ChangeSame
import Derived.Lib.SmallJoins
namespace Go.Proofs.Yteaafjkgopmmdaa
open Go.ChangeShapes Go.WideShapes Go.ChangeAt Go.RowKit Go.Deep Go.Joins

def U64 (x : Int) : Prop := 0 ≤ x ∧ x < 18446744073709551616
def I64 (x : Int) : Prop := -9223372036854775808 ≤ x ∧ x < 9223372036854775808
def U8 (x : Int) : Prop := 0 ≤ x ∧ x < 256
structure Sp.Ok (s : Sp) : Prop where
  trace : U64 s.trace
  id : U64 s.id
  parent : U64 s.parent
  kind : U8 s.kind
  host : s.host.size ≤ maxLen
  name : s.name.size ≤ maxLen
  start : I64 s.start
  dur : I64 s.dur

theorem cells_sp : Try.prog.cellsOf 42 = 8 := by kernel_rfl
theorem cells_u64 : Try.prog.cellsOf 40 = 1 := by kernel_rfl
theorem cells_i64 : Try.prog.cellsOf 2 = 1 := by kernel_rfl
theorem cells_u8 : Try.prog.cellsOf 5 = 1 := by kernel_rfl
theorem cells_str : Try.prog.cellsOf 9 = 1 := by kernel_rfl
section
variable {H : Type} {enc : TypeId × Value → H} {w : World} {base : Nat} {spare : Nat → Bool} {held : Bool}
theorem one_int {P : Program} {t : TypeId} {k : IntKind} {n : Nat} {v : Value} {xs : List (DataW H × List MemPlace)} {i : Nat} (hi : i < xs.length) (ht : P.underlying t = some (.int k))
    (h : DataW.trod enc P w base spare held n t [v] = xs[i]?) : ∃ x, v = .int k x ∧ (Lit.int k x).wf = true := by
  rw [List.getElem?_eq_getElem hi] at h
  obtain ⟨x, hx, _, hw⟩ := DataW.trod_int ht h
  simp at hx
  exact ⟨x, hx, hw⟩
theorem one_string {P : Program} {t : TypeId} {n : Nat} {v : Value} {xs : List (DataW H × List MemPlace)} {i : Nat} (hi : i < xs.length) (ht : P.underlying t = some .string)
    (h : DataW.trod enc P w base spare held n t [v] = xs[i]?) : ∃ s : ByteArray, v = .string s ∧ s.size ≤ maxLen := by
  rw [List.getElem?_eq_getElem hi] at h
  obtain ⟨x, hx, _, hw⟩ := DataW.trod_string ht h
  simp at hx
  exact ⟨x, hx, hw⟩
set_option maxRecDepth 20000 in
theorem sp_cells {fuel : Nat} {cs : List Value} {x : DataW H × List MemPlace} (h : DataW.trod enc Try.prog w base spare held fuel 42 cs = some x) :
    ∃ s : Sp, s.Ok ∧ cs = s.c.toList := by
  obtain ⟨xs, n, _, hx, hcl, hlen, hg⟩ := DataW.trod_struct Try.underlying42 h
  rw [cells_sp] at hcl
  match cs, hcl with
  | [c0, c1, c2, c3, c4, c5, c6, c7], _ =>
    have hl : xs.length = 8 := hlen
    have g0 : DataW.trod enc Try.prog w base spare held n 40 [c0] = xs[0]? := by simpa [cells_u64] using hg 0 _ rfl
    have g1 : DataW.trod enc Try.prog w base spare held n 40 [c1] = xs[1]? := by simpa [cells_u64] using hg 1 _ rfl
    have g2 : DataW.trod enc Try.prog w base spare held n 40 [c2] = xs[2]? := by simpa [cells_u64] using hg 2 _ rfl
    have g3 : DataW.trod enc Try.prog w base spare held n 5 [c3] = xs[3]? := by simpa [cells_u8] using hg 3 _ rfl
    have g4 : DataW.trod enc Try.prog w base spare held n 9 [c4] = xs[4]? := by simpa [cells_str] using hg 4 _ rfl
    have g5 : DataW.trod enc Try.prog w base spare held n 9 [c5] = xs[5]? := by simpa [cells_str] using hg 5 _ rfl
    have g6 : DataW.trod enc Try.prog w base spare held n 2 [c6] = xs[6]? := by simpa [cells_i64] using hg 6 _ rfl
    have g7 : DataW.trod enc Try.prog w base spare held n 2 [c7] = xs[7]? := by simpa [cells_i64] using hg 7 _ rfl
    obtain ⟨x0, rfl, h0⟩ := one_int (by omega) Try.underlying40 g0
    obtain ⟨x1, rfl, h1⟩ := one_int (by omega) Try.underlying40 g1
    obtain ⟨x2, rfl, h2⟩ := one_int (by omega) Try.underlying40 g2
    obtain ⟨x3, rfl, h3⟩ := one_int (by omega) Try.underlying5 g3
    obtain ⟨x4, rfl, h4⟩ := one_string (by omega) Try.underlying9 g4
    obtain ⟨x5, rfl, h5⟩ := one_string (by omega) Try.underlying9 g5
    obtain ⟨x6, rfl, h6⟩ := one_int (by omega) Try.underlying2 g6
    obtain ⟨x7, rfl, h7⟩ := one_int (by omega) Try.underlying2 g7
    exact ⟨⟨x0, x1, x2, x3, x4, x5, x6, x7⟩, ⟨u64_of h0, u64_of h1, u64_of h2, u8_of h3, h4, h5, i64_of h6, i64_of h7⟩, rfl⟩

set_option maxRecDepth 20000 in
/-- A span that came in. -/
theorem open_sp {b0 : Nat} {r : Reach} {v : Value} {d : DataW H} {p : List MemPlace} (hv : Value.okWide Try.prog w r b0 42 v) (h : DataW.Trod enc Try.prog w base spare held 42 v d p) :
    ∃ s : Sp, s.Ok ∧ v = s.v := by
  obtain ⟨cs, rfl, hsz⟩ := okWide_struct Try.underlying42 hv
  obtain ⟨fuel, hf⟩ := h
  obtain ⟨s, ho, hc⟩ := sp_cells hf
  refine ⟨s, ho, ?_⟩
  have : cs = s.c := by rw [← Array.toList_inj]; simpa [Value.cells] using hc
  rw [this]; rfl

/-- Block b holds, from place off on, the spans L, eight cells each. -/
def SpRow (w : World) (b off : Nat) (L : List Sp) : Prop := ∀ i (h : i < L.length), ∀ j, j < 8 → w.cell? ⟨b, off + i * 8 + j, none⟩ = (L[i]).c[j]?
/-- The slice v reads as the spans L. -/
def Spans (w : World) (v : Value) (L : List Sp) : Prop :=
  ∃ a cap, v = .slice a L.length cap ∧ L.length ≤ cap ∧ cap ≤ maxLen ∧ (0 < L.length → ∃ b off, a = some ⟨b, off, none⟩ ∧ b < w.heap.size ∧ SpRow w b off L)
deriving instance Inhabited for Sp
set_option maxRecDepth 20000 in
theorem open_spans {b0 : Nat} {r : Reach} {t : TypeId} (ht : Try.prog.underlying t = some (.slice 42)) {v : Value} {d : DataW H} {p : List MemPlace} (hv : Value.okWide Try.prog w r b0 t v) (h : DataW.Trod enc Try.prog w base spare held t v d p) :
    ∃ L : List Sp, (∀ s ∈ L, s.Ok) ∧ Spans w v L := by
  obtain ⟨a, len, cap, rfl⟩ := okWide_slice ht hv
  obtain ⟨fuel, hf⟩ := h
  rcases open_slice ht hf with ⟨hcs, _⟩ | ⟨a', len', cap', m, n, D, Pl, hcs, hb, hl, hm, hmm, hx, hi⟩
  · simp [Value.cells] at hcs
    obtain ⟨rfl, rfl, rfl⟩ := hcs
    exact ⟨[], by simp, none, 0, rfl, Nat.le_refl _, by decide, fun h => by simp at h⟩
  simp [Value.cells] at hcs
  obtain ⟨rfl, rfl, rfl⟩ := hcs
  have hlm : len ≤ m := by rw [hmm]; split <;> omega
  rw [cells_sp] at hi
  obtain ⟨S, hS⟩ := choose_lt (α := Sp) (n := len) (p := fun i s => s.Ok ∧ w.cells? base (a'.add (i * 8)) 8 = some s.c.toList) (fun i hil => by
    obtain ⟨cs', h1, h2⟩ := hi i (by omega)
    obtain ⟨s, ho, rfl⟩ := sp_cells h2
    exact ⟨s, ho, h1⟩)
  have hcell : ∀ i, i < len → ∀ j, j < 8 → w.cell? (a'.add (i * 8 + j)) = (S i).c[j]? := fun i hil j hj => by
    have := (World.cells?_some (hS i hil).2).2.2 j hj
    rw [Go.Deep.add_add] at this
    simpa using this
  refine ⟨(List.range len).map S, fun s hs => ?_, some a', cap, by simp, by simpa using hl, hm, fun h0 => ?_⟩
  · obtain ⟨i, hir, rfl⟩ := List.mem_map.1 hs
    exact (hS i (by simpa using hir)).1
  · have h0' : 0 < len := by simpa using h0
    have h00 : w.cell? a' = some (.int .u64 (S 0).trace) := by simpa [Addr.add, Sp.c] using hcell 0 h0' 0 (by omega)
    have hspot := World.cell?_spot h00
    obtain ⟨b, off, sp⟩ := a'
    simp at hspot
    subst hspot
    refine ⟨b, off, rfl, block_lt_of_cell h00, fun i hil j hj => ?_⟩
    have hil' : i < len := by simpa using hil
    have := hcell i hil' j hj
    have e : (⟨b, off, none⟩ : Addr).add (i * 8 + j) = ⟨b, off + i * 8 + j, none⟩ := by
      unfold Addr.add; split
      · congr 1; omega
      · simp [Nat.add_assoc]
    rw [e] at this
    simpa using this
end
end Go.Proofs.Yteaafjkgopmmdaa

