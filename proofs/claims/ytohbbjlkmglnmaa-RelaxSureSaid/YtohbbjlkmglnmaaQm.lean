import Derived.Test.YtohbbjlkmglnmaaQi
import Derived.Test.YtohbbjlkmglnmaaGd
namespace Go.Proofs.Ytohbbjlkmglnmaa
open Go Go.RowKit Go.Sort
set_option linter.unusedVariables false

/-! Edges that are made to hold (stage 15): plain facts, pairs of bytes that came in. -/
def bpV (p : Nat × Nat) : List Value := [.int .u8 (p.1 : Int), .int .u8 (p.2 : Int)]
def bpsV (L : List (Nat × Nat)) : List Value := flatG bpV L
theorem bpV_len (p : Nat × Nat) : (bpV p).length = 2 := rfl
theorem bpsV_length (L : List (Nat × Nat)) : (bpsV L).length = L.length * 2 := flatG_length bpV_len L
theorem Rd.bp {w : World} {B : Nat} {a : Option Addr} {L : List (Nat × Nat)} (h : Rd w B a (bpsV L)) {i : Nat} (hi : i < L.length) :
    ∃ b off, a = some ⟨b, off, none⟩ ∧ b < B ∧ w.cell? ⟨b, off + i * 2, none⟩ = some (.int .u8 (L[i].1 : Int)) ∧ w.cell? ⟨b, off + i * 2 + 1, none⟩ = some (.int .u8 (L[i].2 : Int)) := by
  obtain ⟨b, off, ha, hb, hc⟩ := Rd.elemG bpV_len (by omega) h hi
  exact ⟨b, off, ha, hb, hc 0 _ rfl, hc 1 _ rfl⟩
/-- The edge that is made of the pair of a place. -/
def sureE (X : List Int) (PP : List (Nat × Nat)) (MM : List Int) (k : Nat) : Ed :=
  ⟨(((PP.getD k (0, 0)).1 % X.length : Nat) : Int), (((PP.getD k (0, 0)).2 % X.length : Nat) : Int), X.getD ((PP.getD k (0, 0)).2 % X.length) 0 - X.getD ((PP.getD k (0, 0)).1 % X.length) 0 + MM.getD (k % MM.length) 0, 0, 0, false⟩
def sureN (X : List Int) (PP : List (Nat × Nat)) (MM : List Int) (k : Nat) : List Ed := (List.range k).map (sureE X PP MM)
theorem sureN_length (X : List Int) (PP : List (Nat × Nat)) (MM : List Int) (k : Nat) : (sureN X PP MM k).length = k := by simp [sureN]
theorem sureN_step (X : List Int) (PP : List (Nat × Nat)) (MM : List Int) (k : Nat) : sureN X PP MM (k + 1) = sureN X PP MM k ++ [sureE X PP MM k] := by
  unfold sureN; rw [List.range_succ, List.map_append]; rfl
structure SureIn (X MM : List Int) : Prop where
  pos : 1 ≤ X.length
  few : X.length ≤ 32
  num : ∀ x ∈ X, -1125899906842624 ≤ x ∧ x ≤ 1125899906842624
  more : ∀ x ∈ MM, 0 ≤ x ∧ x < 4294967296
theorem SureIn.xat {X MM : List Int} (h : SureIn X MM) (k : Nat) : -1125899906842624 ≤ X.getD k 0 ∧ X.getD k 0 ≤ 1125899906842624 := by
  by_cases hk : k < X.length
  · have e : X.getD k 0 = X[k] := by simp [List.getD, hk]
    rw [e]; exact h.num _ (List.getElem_mem _)
  · have e : X.getD k 0 = 0 := by simp [List.getD, hk]
    omega
theorem SureIn.mat {X MM : List Int} (h : SureIn X MM) (k : Nat) : 0 ≤ MM.getD k 0 ∧ MM.getD k 0 < 4294967296 := by
  by_cases hk : k < MM.length
  · have e : MM.getD k 0 = MM[k] := by simp [List.getD, hk]
    rw [e]; exact h.more _ (List.getElem_mem _)
  · have e : MM.getD k 0 = 0 := by simp [List.getD, hk]
    omega
theorem sure_ok {X MM : List Int} (h : SureIn X MM) (PP : List (Nat × Nat)) (k : Nat) : (sureE X PP MM k).Ok ∧ edOk (X.length : Int) (sureE X PP MM k) = true ∧ holdsL (sureE X PP MM k) X = true := by
  have hp := h.pos
  have hf := h.few
  obtain ⟨p, hpp⟩ : ∃ p, PP.getD k (0, 0) = p := ⟨_, rfl⟩
  have ha := Nat.mod_lt p.1 (show X.length > 0 by omega)
  have hb := Nat.mod_lt p.2 (show X.length > 0 by omega)
  unfold sureE
  rw [hpp]
  generalize p.1 % X.length = a at *
  generalize p.2 % X.length = b at *
  have h1 := h.xat a
  have h2 := h.xat b
  have h3 := h.mat (k % MM.length)
  refine ⟨?_, ?_, ?_⟩
  · constructor <;> (unfold I64; simp only; omega)
  · rw [edOk_iff]; simp only; omega
  · rw [holds_nat (a := a) (b := b) rfl rfl ha hb, decide_eq_true_iff]
    simp only
    omega
theorem sure_all {X MM : List Int} (h : SureIn X MM) (PP : List (Nat × Nat)) (k : Nat) : mayE (X.length : Int) (sureN X PP MM k) = true ∧ allL (sureN X PP MM k) X = true ∧ ∀ e ∈ sureN X PP MM k, e.Ok := by
  have hf := h.few
  refine ⟨mayE_iff.2 ⟨by omega, by omega, fun e he => ?_⟩, List.all_eq_true.2 fun e he => ?_, fun e he => ?_⟩
  all_goals obtain ⟨j, _, rfl⟩ := List.mem_map.1 he
  · exact (sure_ok h PP j).2.1
  · exact (sure_ok h PP j).2.2
  · exact (sure_ok h PP j).1
/-- The greatest of the first numbers, and 0. -/
def topL (X : List Int) (k : Nat) : Int := (X.take k).foldl max 0
theorem topL_step {X : List Int} {k : Nat} (h : k < X.length) : topL X (k + 1) = max (topL X k) X[k] := by
  unfold topL
  rw [List.take_succ_eq_append_getElem h, List.foldl_append]; rfl
theorem topL_ge (X : List Int) : ∀ k, 0 ≤ topL X k ∧ ∀ j, j < k → ∀ h : j < X.length, X[j] ≤ topL X k
  | 0 => ⟨by simp [topL], fun j hj => by omega⟩
  | k + 1 => by
    obtain ⟨h1, h2⟩ := topL_ge X k
    by_cases hk : k < X.length
    · rw [topL_step hk]
      refine ⟨by omega, fun j hj hjl => ?_⟩
      by_cases e : j = k
      · subst e; omega
      · have := h2 j (by omega) hjl; omega
    · have e : topL X (k + 1) = topL X k := by unfold topL; rw [List.take_of_length_le (by omega), List.take_of_length_le (by omega)]
      rw [e]
      exact ⟨h1, fun j hj hjl => h2 j (by omega) hjl⟩
theorem topL_le {X MM : List Int} (h : SureIn X MM) : ∀ k, topL X k ≤ 1125899906842624
  | 0 => by simp [topL]
  | k + 1 => by
    have h1 := topL_le h k
    by_cases hk : k < X.length
    · rw [topL_step hk]; have := h.num _ (List.getElem_mem hk); omega
    · have e : topL X (k + 1) = topL X k := by unfold topL; rw [List.take_of_length_le (by omega), List.take_of_length_le (by omega)]
      rw [e]; exact h1
/-- What is told of edges that hold for numbers. -/
theorem sure_told {X MM : List Int} (h : SureIn X MM) (PP : List (Nat × Nat)) (k : Nat) : ∃ O, solveL (X.length : Int) (sureN X PP MM k) = some O ∧ O.length = X.length ∧ allL (sureN X PP MM k) O = true ∧ (∀ x ∈ O, -144115188075855872 ≤ x ∧ x ≤ 0) ∧ ∀ j (h1 : j < X.length) (h2 : j < O.length), X[j] - topL X X.length ≤ O[j] := by
  obtain ⟨m1, m2, _⟩ := sure_all h PP k
  have hs := solve_sure m1 rfl m2
  obtain ⟨m, S⟩ := solved_is hs
  have hm : X.length = m := by have := S.eq; omega
  subst hm
  refine ⟨_, hs, S.len, S.all, S.top, fun j h1 h2 => ?_⟩
  have := S.above X (topL X X.length) rfl m2 (fun x hx => by
    obtain ⟨i, hi, rfl⟩ := List.getElem_of_mem hx
    exact (topL_ge X X.length).2 i hi hi) j h1
  have e1 : X.getD j 0 = X[j] := by simp [List.getD, h1]
  rw [e1] at this
  simpa [List.getD, h2] using this
/-! Pairs of bytes that came in. -/
theorem cells_u8p : Try.prog.cellsOf 5 = 1 := by kernel_rfl
theorem cells_2u8 : Try.prog.cellsOf 39 = 2 := by kernel_rfl
section
open Go.ChangeShapes Go.WideShapes Go.ChangeAt Go.Deep Go.Joins
variable {H : Type} {enc : TypeId × Value → H} {w : World} {base : Nat} {spare : Nat → Bool} {held : Bool}
theorem bp_cells {fuel : Nat} {cs : List Value} {x : DataW H × List MemPlace} (hl : cs.length = 2) (h : DataW.trod enc Try.prog w base spare held fuel 39 cs = some x) : ∃ p : Nat × Nat, (p.1 < 256 ∧ p.2 < 256) ∧ cs = bpV p := by
  obtain ⟨xs, n, _, _, hcl, hlen, hg⟩ := DataW.trod_array Try.underlying39 h
  match cs, hl with
  | [c0, c1], _ =>
    have g0 : DataW.trod enc Try.prog w base spare held n 5 [c0] = xs[0]? := by simpa [cells_u8p] using hg 0 (by decide)
    have g1 : DataW.trod enc Try.prog w base spare held n 5 [c1] = xs[1]? := by simpa [cells_u8p] using hg 1 (by decide)
    obtain ⟨x0, rfl, h0⟩ := one_int (by omega) Try.underlying5 g0
    obtain ⟨x1, rfl, h1⟩ := one_int (by omega) Try.underlying5 g1
    have k0 := u8_of h0
    have k1 := u8_of h1
    refine ⟨(x0.toNat, x1.toNat), ⟨by show x0.toNat < 256; omega, by show x1.toNat < 256; omega⟩, ?_⟩
    unfold bpV
    simp only [List.cons.injEq, Value.int.injEq, true_and, and_true]
    omega
set_option maxRecDepth 20000 in
theorem open_bps {b0 : Nat} {r : Reach} {t : TypeId} (ht : Try.prog.underlying t = some (.slice 39)) {v : Value} {d : DataW H} {p : List MemPlace} (hv : Value.okWide Try.prog w r b0 t v) (h : DataW.Trod enc Try.prog w base spare held t v d p) :
    ∃ (L : List (Nat × Nat)) (a : Option Addr) (cap : Nat), v = .slice a L.length cap ∧ L.length ≤ cap ∧ cap ≤ maxLen ∧ Rd w w.heap.size a (bpsV L) ∧ ∀ p ∈ L, p.1 < 256 ∧ p.2 < 256 := by
  obtain ⟨a, len, cap, rfl⟩ := okWide_slice ht hv
  obtain ⟨fuel, hf⟩ := h
  rcases open_slice ht hf with ⟨hcs, _⟩ | ⟨a', len', cap', m, n, D, Pl, hcs, hb, hl, hm, hmm, hx, hi⟩
  · simp [Value.cells] at hcs
    obtain ⟨rfl, rfl, rfl⟩ := hcs
    exact ⟨[], none, 0, rfl, Nat.le_refl _, by decide, Rd.nil _ _ _, by simp⟩
  simp [Value.cells] at hcs
  obtain ⟨rfl, rfl, rfl⟩ := hcs
  have hlm : len ≤ m := by rw [hmm]; split <;> omega
  rw [cells_2u8] at hi
  obtain ⟨S, hS⟩ := choose_lt (α := Nat × Nat) (n := len) (p := fun i s => (s.1 < 256 ∧ s.2 < 256) ∧ w.cells? base (a'.add (i * 2)) 2 = some (bpV s)) (fun i hil => by
    obtain ⟨cs', h1, h2⟩ := hi i (by omega)
    obtain ⟨s, ho, rfl⟩ := bp_cells (World.cells?_some h1).2.1 h2
    exact ⟨s, ho, h1⟩)
  have hcell : ∀ i, i < len → ∀ j, j < 2 → w.cell? (a'.add (i * 2 + j)) = (bpV (S i))[j]? := fun i hil j hj => by
    have := (World.cells?_some (hS i hil).2).2.2 j hj
    rw [Go.Deep.add_add] at this
    simpa using this
  refine ⟨(List.range len).map S, some a', cap, by simp, by simpa using hl, hm, fun h0 => ?_, fun s hs => ?_⟩
  · have h0' : 0 < len := by
      rw [bpsV_length] at h0
      simp at h0; omega
    have h00 : w.cell? a' = some (.int .u8 ((S 0).1 : Int)) := by simpa [Addr.add, bpV] using hcell 0 h0' 0 (by omega)
    have hspot := World.cell?_spot h00
    obtain ⟨b, off, sp⟩ := a'
    simp at hspot
    subst hspot
    refine ⟨b, off, rfl, block_lt_of_cell h00, fun q v hv => ?_⟩
    have hq : q < ((List.range len).map S).length * 2 := by
      rw [← bpsV_length]; exact (List.getElem?_eq_some_iff.1 hv).1
    have hil : q / 2 < len := by
      have : ((List.range len).map S).length = len := by simp
      rw [this] at hq; omega
    have e1 := flatG_get bpV_len ((List.range len).map S) (q / 2) (by simpa using hil) (q % 2) (by omega)
    rw [show q / 2 * 2 + q % 2 = q by omega] at e1
    have hv' : (bpV (S (q / 2)))[q % 2]? = some v := by
      have : (bpsV ((List.range len).map S))[q]? = some v := hv
      unfold bpsV at this
      rw [e1] at this
      simpa using this
    have h3 := hcell (q / 2) hil (q % 2) (by omega)
    have e2 : (⟨b, off, none⟩ : Addr).add (q / 2 * 2 + q % 2) = ⟨b, off + q, none⟩ := by
      rw [show q / 2 * 2 + q % 2 = q by omega]; exact add_at b off q
    rw [e2] at h3
    rw [h3]; exact hv'
  · obtain ⟨i, hir, rfl⟩ := List.mem_map.1 hs
    exact (hS i (by simpa using hir)).1
end
end Go.Proofs.Ytohbbjlkmglnmaa

