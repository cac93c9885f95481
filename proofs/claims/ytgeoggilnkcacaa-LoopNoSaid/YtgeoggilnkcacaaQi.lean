import Derived.Test.YtgeoggilnkcacaaQh
namespace Go.Proofs.Ytgeoggilnkcacaa
open Go Go.RowKit Go.Sort
set_option linter.unusedVariables false

/-! What the greatest offsets are (stage 15): plain facts. -/
theorem holds_nat {e : Ed} {O : List Int} {a b : Nat} (ha : e.fr = (a : Int)) (hb : e.to_ = (b : Int)) (h1 : a < O.length) (h2 : b < O.length) : holdsL e O = decide (O.getD b 0 ≤ O.getD a 0 + e.wt) := by
  have g1 : O.getD a 0 = O[a] := by simp [List.getD, h1]
  have g2 : O.getD b 0 = O[b] := by simp [List.getD, h2]
  rw [g1, g2]
  exact holds_is (by rw [ha]; exact numAt_is h1) (by rw [hb]; exact numAt_is h2)
theorem all_iff {n : Nat} {E : List Ed} {O : List Int} (hE : ∀ e ∈ E, edOk (n : Int) e = true) (hO : O.length = n) : allL E O = true ↔ ∀ t ∈ trip E, O.getD t.2.1 0 ≤ O.getD t.1 0 + t.2.2 := by
  unfold allL
  rw [List.all_eq_true]
  have key : ∀ e ∈ E, (holdsL e O = true ↔ O.getD e.to_.toNat 0 ≤ O.getD e.fr.toNat 0 + e.wt) := fun e he => by
    have := edOk_iff.1 (hE e he)
    rw [holds_nat (a := e.fr.toNat) (b := e.to_.toNat) (by omega) (by omega) (by omega) (by omega), decide_eq_true_iff]
  constructor
  · intro h t ht
    obtain ⟨e, he, rfl⟩ := List.mem_map.1 ht
    exact (key e he).1 (h e he)
  · intro h e he
    exact (key e he).2 (h _ (List.mem_map.2 ⟨e, he, rfl⟩))
theorem met_iff {n : Nat} {E : List Ed} : metL n E = true ↔ ∀ h, h < n → (rowQ n E (n - 1)).getD h 0 ≤ (rowQ n E n).getD h 0 := by
  unfold metL
  rw [List.all_eq_true]
  constructor
  · exact fun h k hk => by simpa using h k (List.mem_range.2 hk)
  · exact fun h k hk => by simpa using h k (List.mem_range.1 hk)
theorem no_edges {E : List Ed} (hE : ∀ e ∈ E, edOk ((0 : Nat) : Int) e = true) : E = [] := by
  cases E with
  | nil => rfl
  | cons e r => have := edOk_iff.1 (hE e (List.mem_cons_self ..)); omega
theorem steady {n : Nat} {E : List Ed} (hE : ∀ e ∈ E, edOk (n : Int) e = true) (hn : 1 ≤ n) (hm : metL n E = true) : ∀ h, h < n → (rowQ n E n).getD h 0 = (rowQ n E (n - 1)).getD h 0 := by
  intro h hh
  have h1 := met_iff.1 hm h hh
  have h2 := (layers_are hE).mono (n - 1) h hh
  rw [show n - 1 + 1 = n by omega] at h2
  omega
structure Solved (n : Int) (E : List Ed) (m : Nat) (O : List Int) : Prop where
  eq : n = (m : Int)
  le : m ≤ 32
  ok : ∀ e ∈ E, edOk (m : Int) e = true
  len : O.length = m
  top : ∀ x ∈ O, -144115188075855872 ≤ x ∧ x ≤ 0
  all : allL E O = true
  tight : ∀ h, h < m → O.getD h 0 < 0 → ∃ e ∈ E, e.to_ = (h : Int) ∧ e.fr ≠ (h : Int) ∧ O.getD e.fr.toNat 0 + e.wt = O.getD h 0
  above : ∀ (Y : List Int) (top : Int), Y.length = m → allL E Y = true → (∀ x ∈ Y, x ≤ top) → ∀ h, h < m → Y.getD h 0 - top ≤ O.getD h 0
theorem solved_is {n : Int} {E : List Ed} {O : List Int} (h : solveL n E = some O) : ∃ m, Solved n E m O := by
  obtain ⟨h1, h2, rfl⟩ := solve_is h
  obtain ⟨k1, k2, k3⟩ := mayE_iff.1 h1
  obtain ⟨m, rfl⟩ : ∃ m : Nat, n = (m : Int) := ⟨n.toNat, by omega⟩
  rw [Int.toNat_natCast] at h2 ⊢
  have L := layers_are k3
  have hlen := rowQ_length m E m
  refine ⟨m, rfl, by omega, k3, hlen, row_low k3 (by omega), ?_, ?_, ?_⟩
  · rcases Nat.eq_zero_or_pos m with e | e
    · subst e; rw [no_edges k3]; rfl
    · exact (all_iff k3 hlen).2 (L.holds (steady k3 e h2) e)
  · intro h hh h0
    obtain ⟨t, ht, e1, e2, e3⟩ := L.tight (steady k3 (by omega) h2) (by omega) hh h0
    obtain ⟨e, he, rfl⟩ := List.mem_map.1 ht
    have hok := edOk_iff.1 (k3 e he)
    have e1 : e.to_.toNat = h := e1
    have e2 : e.fr.toNat ≠ h := e2
    exact ⟨e, he, by omega, by omega, e3⟩
  · intro Y top hY hall htop h hh
    refine L.above (y := fun k => Y.getD k 0) (fun t ht => (all_iff k3 hY).1 hall t ht) (top := top) (fun k hk => ?_) m h hh
    have : Y.getD k 0 = Y[k] := by simp [List.getD, hY, hk]
    show Y.getD k 0 ≤ top
    rw [this]
    exact htop _ (List.getElem_mem _)
/-- Edges that hold for some numbers can be met. -/
theorem solve_sure {m : Nat} {E : List Ed} {Y : List Int} (hm : mayE (m : Int) E = true) (hY : Y.length = m) (hall : allL E Y = true) : solveL (m : Int) E = some (rowQ m E m) := by
  obtain ⟨k1, k2, k3⟩ := mayE_iff.1 hm
  have L := layers_are k3
  have hmet : metL m E = true := by
    refine met_iff.2 fun h hh => ?_
    have := L.met (y := fun k => Y.getD k 0) (by omega) (fun t ht => (all_iff k3 hY).1 hall t ht) hh
    omega
  unfold solveL
  rw [hm, Int.toNat_natCast, hmet]; rfl
end Go.Proofs.Ytgeoggilnkcacaa

