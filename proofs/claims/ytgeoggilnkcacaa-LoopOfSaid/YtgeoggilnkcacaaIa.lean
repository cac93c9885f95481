import Derived.Test.YtgeoggilnkcacaaGr
import Derived.Test.YtgeoggilnkcacaaSd
import Derived.Test.YtgeoggilnkcacaaUe
namespace Go.Proofs.Ytgeoggilnkcacaa
open Go Go.RowKit Go.Sort
set_option linter.unusedVariables false

/-! Edges, rows of edges (stages 14 to 18). -/
structure Ed where
  fr : Int
  to_ : Int
  wt : Int
  pc : Int
  ps : Int
  en : Bool
deriving Inhabited, DecidableEq
def Ed.c (e : Ed) : Array Value := #[.int .i64 e.fr, .int .i64 e.to_, .int .i64 e.wt, .int .i64 e.pc, .int .i64 e.ps, .bool e.en]
def Ed.v (e : Ed) : Value := .agg #[.int .i64 e.fr, .int .i64 e.to_, .int .i64 e.wt, .int .i64 e.pc, .int .i64 e.ps, .bool e.en]
def edV (e : Ed) : List Value := [.int .i64 e.fr, .int .i64 e.to_, .int .i64 e.wt, .int .i64 e.pc, .int .i64 e.ps, .bool e.en]
def edsV (L : List Ed) : List Value := flatG edV L
structure Ed.Ok (e : Ed) : Prop where
  fr : I64 e.fr
  to_ : I64 e.to_
  wt : I64 e.wt
  pc : I64 e.pc
  ps : I64 e.ps
theorem edV_len (e : Ed) : (edV e).length = 6 := rfl
theorem edsV_length (L : List Ed) : (edsV L).length = L.length * 6 := flatG_length edV_len L
theorem edsV_append (L M : List Ed) : edsV (L ++ M) = edsV L ++ edsV M := flatG_append _ _
theorem edsV_one (L : List Ed) : ∀ u ∈ edsV L, u.oneCell' = true := flatG_all (fun x u hu => by
  simp only [edV, List.mem_cons, List.not_mem_nil, or_false] at hu
  rcases hu with rfl | rfl | rfl | rfl | rfl | rfl <;> rfl) L
theorem edsV_single (e : Ed) : edsV [e] = e.c.toList := by simp [edsV, flatG, edV, Ed.c]
theorem ed_one (e : Ed) : ∀ u ∈ e.c.toList, u.oneCell' = true := by rw [← edsV_single]; exact edsV_one _
/-- The cells of an edge that lies there. -/
structure EdAt (w : World) (b o : Nat) (e : Ed) : Prop where
  c0 : w.cell? ⟨b, o, none⟩ = some (.int .i64 e.fr)
  c1 : w.cell? ⟨b, o + 1, none⟩ = some (.int .i64 e.to_)
  c2 : w.cell? ⟨b, o + 2, none⟩ = some (.int .i64 e.wt)
  c3 : w.cell? ⟨b, o + 3, none⟩ = some (.int .i64 e.pc)
  c4 : w.cell? ⟨b, o + 4, none⟩ = some (.int .i64 e.ps)
  c5 : w.cell? ⟨b, o + 5, none⟩ = some (.bool e.en)
theorem Rd.edge {w : World} {B : Nat} {a : Option Addr} {L : List Ed} (h : Rd w B a (edsV L)) {i : Nat} (hi : i < L.length) : ∃ b off, a = some ⟨b, off, none⟩ ∧ b < B ∧ EdAt w b (off + i * 6) L[i] := by
  obtain ⟨b, off, ha, hb, hc⟩ := Rd.elemG edV_len (by omega) h hi
  exact ⟨b, off, ha, hb, hc 0 _ rfl, hc 1 _ rfl, hc 2 _ rfl, hc 3 _ rfl, hc 4 _ rfl, hc 5 _ rfl⟩
theorem EdAt.below {w w' : World} {B b o : Nat} {e : Ed} (h : EdAt w b o e) (hb : RowKit.Below B w w') (hB : b < B) : EdAt w' b o e :=
  ⟨(hb.cell (p := ⟨b, o, none⟩) hB).trans h.c0, (hb.cell (p := ⟨b, o + 1, none⟩) hB).trans h.c1, (hb.cell (p := ⟨b, o + 2, none⟩) hB).trans h.c2, (hb.cell (p := ⟨b, o + 3, none⟩) hB).trans h.c3, (hb.cell (p := ⟨b, o + 4, none⟩) hB).trans h.c4, (hb.cell (p := ⟨b, o + 5, none⟩) hB).trans h.c5⟩
theorem EdAt.new (w : World) (e : Ed) (t : TypeId) : EdAt (w.alloc (.cells e.c t)) w.heap.size 0 e := ⟨by simp [Ed.c], by simp [Ed.c], by simp [Ed.c], by simp [Ed.c], by simp [Ed.c], by simp [Ed.c]⟩
theorem info_edge : (Try.prog.info? 34).map (fun i => (i.zero, i.size, i.bytes)) = some (some (.agg #[.int .i64 0, .int .i64 0, .int .i64 0, .int .i64 0, .int .i64 0, .bool false]), 6, 48) := by kernel_rfl
theorem cells_edge : Try.prog.cellsOf 34 = 6 := by kernel_rfl
theorem cells_pair14 : Try.prog.cellsOf 32 = 2 := by kernel_rfl
theorem cells_int14 : Try.prog.cellsOf 3 = 1 := by kernel_rfl
theorem cells_i6414 : Try.prog.cellsOf 2 = 1 := by kernel_rfl
theorem cells_bool14 : Try.prog.cellsOf 4 = 1 := by kernel_rfl
/-- Numbers that came in. -/
theorem I64.of {x : Int} (h : (Lit.int .i64 x).wf = true) : I64 x := i64_of h
section
open Go.ChangeShapes Go.WideShapes Go.ChangeAt Go.Deep Go.Joins
variable {H : Type} {enc : TypeId × Value → H} {w : World} {base : Nat} {spare : Nat → Bool} {held : Bool}
theorem one_bool14 {P : Program} {t : TypeId} {n : Nat} {v : Value} {xs : List (DataW H × List MemPlace)} {i : Nat} (hi : i < xs.length) (ht : P.underlying t = some .bool)
    (h : DataW.trod enc P w base spare held n t [v] = xs[i]?) : ∃ b, v = .bool b := by
  rw [List.getElem?_eq_getElem hi] at h
  obtain ⟨x, hx, _⟩ := DataW.trod_bool ht h
  simp at hx
  exact ⟨x, hx⟩
theorem pair_cells14 {fuel : Nat} {cs : List Value} {x : DataW H × List MemPlace} (h : DataW.trod enc Try.prog w base spare held fuel 32 cs = some x) : ∃ p q : Int, I64 p ∧ I64 q ∧ cs = [.int .i64 p, .int .i64 q] := by
  obtain ⟨xs, n, _, hx, hcl, hlen, hg⟩ := DataW.trod_struct Try.underlying32 h
  rw [cells_pair14] at hcl
  match cs, hcl with
  | [c0, c1], _ =>
    have hl : xs.length = 2 := hlen
    have g0 : DataW.trod enc Try.prog w base spare held n 3 [c0] = xs[0]? := by simpa [cells_int14] using hg 0 _ rfl
    have g1 : DataW.trod enc Try.prog w base spare held n 3 [c1] = xs[1]? := by simpa [cells_int14] using hg 1 _ rfl
    obtain ⟨x0, rfl, h0⟩ := one_int (by omega) Try.underlying3 g0
    obtain ⟨x1, rfl, h1⟩ := one_int (by omega) Try.underlying3 g1
    exact ⟨x0, x1, i64_of h0, i64_of h1, rfl⟩
set_option maxRecDepth 20000 in
theorem ed_cells {fuel : Nat} {cs : List Value} {x : DataW H × List MemPlace} (h : DataW.trod enc Try.prog w base spare held fuel 34 cs = some x) : ∃ e : Ed, e.Ok ∧ cs = e.c.toList := by
  obtain ⟨xs, n, _, hx, hcl, hlen, hg⟩ := DataW.trod_struct Try.underlying34 h
  rw [cells_edge] at hcl
  match cs, hcl with
  | [c0, c1, c2, c3, c4, c5], _ =>
    have hl : xs.length = 5 := hlen
    have g0 : DataW.trod enc Try.prog w base spare held n 3 [c0] = xs[0]? := by simpa [cells_int14] using hg 0 _ rfl
    have g1 : DataW.trod enc Try.prog w base spare held n 3 [c1] = xs[1]? := by simpa [cells_int14] using hg 1 _ rfl
    have g2 : DataW.trod enc Try.prog w base spare held n 2 [c2] = xs[2]? := by simpa [cells_int14, cells_i6414] using hg 2 _ rfl
    have g3 : DataW.trod enc Try.prog w base spare held n 32 [c3, c4] = xs[3]? := by simpa [cells_int14, cells_i6414, cells_pair14] using hg 3 _ rfl
    have g5 : DataW.trod enc Try.prog w base spare held n 4 [c5] = xs[4]? := by simpa [cells_int14, cells_i6414, cells_pair14, cells_bool14] using hg 4 _ rfl
    obtain ⟨x0, rfl, h0⟩ := one_int (by omega) Try.underlying3 g0
    obtain ⟨x1, rfl, h1⟩ := one_int (by omega) Try.underlying3 g1
    obtain ⟨x2, rfl, h2⟩ := one_int (by omega) Try.underlying2 g2
    obtain ⟨x5, rfl⟩ := one_bool14 (by omega) Try.underlying4 g5
    rw [List.getElem?_eq_getElem (by omega)] at g3
    obtain ⟨p, q, hp, hq, e⟩ := pair_cells14 g3
    simp only [List.cons.injEq, and_true] at e
    obtain ⟨rfl, rfl⟩ := e
    exact ⟨⟨x0, x1, x2, p, q, x5⟩, ⟨i64_of h0, i64_of h1, i64_of h2, hp, hq⟩, rfl⟩
set_option maxRecDepth 20000 in
/-- Edges that came in. -/
theorem open_edges {b0 : Nat} {r : Reach} {t : TypeId} (ht : Try.prog.underlying t = some (.slice 34)) {v : Value} {d : DataW H} {p : List MemPlace} (hv : Value.okWide Try.prog w r b0 t v) (h : DataW.Trod enc Try.prog w base spare held t v d p) :
    ∃ (L : List Ed) (a : Option Addr) (cap : Nat), v = .slice a L.length cap ∧ L.length ≤ cap ∧ cap ≤ maxLen ∧ Rd w w.heap.size a (edsV L) ∧ ∀ e ∈ L, e.Ok := by
  obtain ⟨a, len, cap, rfl⟩ := okWide_slice ht hv
  obtain ⟨fuel, hf⟩ := h
  rcases open_slice ht hf with ⟨hcs, _⟩ | ⟨a', len', cap', m, n, D, Pl, hcs, hb, hl, hm, hmm, hx, hi⟩
  · simp [Value.cells] at hcs
    obtain ⟨rfl, rfl, rfl⟩ := hcs
    exact ⟨[], none, 0, rfl, Nat.le_refl _, by decide, Rd.nil _ _ _, by simp⟩
  simp [Value.cells] at hcs
  obtain ⟨rfl, rfl, rfl⟩ := hcs
  have hlm : len ≤ m := by rw [hmm]; split <;> omega
  rw [cells_edge] at hi
  obtain ⟨S, hS⟩ := choose_lt (α := Ed) (n := len) (p := fun i s => s.Ok ∧ w.cells? base (a'.add (i * 6)) 6 = some s.c.toList) (fun i hil => by
    obtain ⟨cs', h1, h2⟩ := hi i (by omega)
    obtain ⟨s, ho, rfl⟩ := ed_cells h2
    exact ⟨s, ho, h1⟩)
  have hcell : ∀ i, i < len → ∀ j, j < 6 → w.cell? (a'.add (i * 6 + j)) = (S i).c[j]? := fun i hil j hj => by
    have := (World.cells?_some (hS i hil).2).2.2 j hj
    rw [Go.Deep.add_add] at this
    simpa using this
  refine ⟨(List.range len).map S, some a', cap, by simp, by simpa using hl, hm, fun h0 => ?_, fun s hs => ?_⟩
  · have h0' : 0 < len := by
      rw [edsV_length] at h0
      simp at h0; omega
    have h00 : w.cell? a' = some (.int .i64 (S 0).fr) := by simpa [Addr.add, Ed.c] using hcell 0 h0' 0 (by omega)
    have hspot := World.cell?_spot h00
    obtain ⟨b, off, sp⟩ := a'
    simp at hspot
    subst hspot
    refine ⟨b, off, rfl, block_lt_of_cell h00, fun q v hv => ?_⟩
    have hq : q < ((List.range len).map S).length * 6 := by
      rw [← edsV_length]; exact (List.getElem?_eq_some_iff.1 hv).1
    have hil : q / 6 < len := by
      have : ((List.range len).map S).length = len := by simp
      rw [this] at hq; omega
    have e1 := flatG_get edV_len ((List.range len).map S) (q / 6) (by simpa using hil) (q % 6) (by omega)
    rw [show q / 6 * 6 + q % 6 = q by omega] at e1
    have hv' : (edV (S (q / 6)))[q % 6]? = some v := by
      have : (edsV ((List.range len).map S))[q]? = some v := hv
      unfold edsV at this
      rw [e1] at this
      simpa using this
    have h3 := hcell (q / 6) hil (q % 6) (by omega)
    have e2 : (⟨b, off, none⟩ : Addr).add (q / 6 * 6 + q % 6) = ⟨b, off + q, none⟩ := by
      rw [show q / 6 * 6 + q % 6 = q by omega]; exact add_at b off q
    rw [e2] at h3
    rw [h3]
    have e3 : (S (q / 6)).c[q % 6]? = (edV (S (q / 6)))[q % 6]? := by simp [Ed.c, edV]
    rw [e3]; exact hv'
  · obtain ⟨i, hir, rfl⟩ := List.mem_map.1 hs
    exact (hS i (by simpa using hir)).1
end
end Go.Proofs.Ytgeoggilnkcacaa

