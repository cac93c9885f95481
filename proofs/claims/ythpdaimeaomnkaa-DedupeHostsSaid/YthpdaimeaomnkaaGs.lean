import Derived.Test.YthpdaimeaomnkaaRows
import Derived.Test.YthpdaimeaomnkaaGd
import Derived.Test.YthpdaimeaomnkaaGr
namespace Go.Proofs.Ythpdaimeaomnkaa
open Go.ChangeShapes Go.WideShapes Go.ChangeAt Go.RowKit Go.Deep Go.Joins

/-! How rows of structs that hold slices are opened. -/
section
variable {H : Type} {enc : TypeId × Value → H} {P : Program} {w : World} {base : Nat} {spare : Nat → Bool} {held : Bool}
theorem bytes_cells {t e : TypeId} {fuel : Nat} {cs : List Value} {x : DataW H × List MemPlace} (ht : P.underlying t = some (.slice e)) (he : P.underlying e = some (.int .u8)) (hc : P.cellsOf e = 1)
    (hf : DataW.trod enc P w base spare held fuel t cs = some x) : ∃ (l : List UInt8) (a : Option Addr) (k : Nat), cs = [.slice a l.length k] ∧ l.length ≤ k ∧ k ≤ maxLen ∧ Rd w w.heap.size a (bV l) := by
  obtain ⟨d, p⟩ := x
  rcases open_ints ht he hc hf with ⟨hcs, _⟩ | ⟨a', len', cap', zs, hcs, hb, hl, hm, hzl, _, hcell, hwf⟩
  · exact ⟨[], none, 0, hcs, Nat.le_refl _, Nat.zero_le _, Rd.nil _ _ _⟩
  · have hlz : len' ≤ zs.length := by rw [hzl]; split <;> omega
    have htl : (zs.take len').length = len' := by simp; omega
    refine ⟨(zs.take len').map fun n => UInt8.ofNat n.toNat, some a', cap', by rw [List.length_map, htl]; exact hcs, by rw [List.length_map, htl]; exact hl, hm, ?_⟩
    rw [← bytes_of_nums (zs.take len') (fun n hn => hwf n (List.mem_of_mem_take hn))]
    intro h0
    have h0' : 0 < len' := by simp at h0; omega
    have h00 := hcell 0 (by omega)
    have hspot := World.cell?_spot h00
    have hblk := block_lt_of_cell h00
    obtain ⟨b, off, sp⟩ := a'
    simp [Addr.add] at hspot hblk
    subst hspot
    refine ⟨b, off, rfl, hblk, fun j u hu => ?_⟩
    have hj : j < len' := by
      rcases Nat.lt_or_ge j len' with h | h
      · exact h
      · rw [List.getElem?_eq_none (by simp; omega)] at hu; cases hu
    have hjz : j < zs.length := by omega
    have := hcell j hjz
    rw [add_at] at this
    rw [this, ← hu]
    simp [List.getD, hj, hjz]
theorem rows_cell {α : Type} [Inhabited α] (l : α → List Value) {m : Nat} (hlm : ∀ x, (l x).length = m) (h0 : 0 < m) (Q : α → Prop) {t e : TypeId} {fuel : Nat} {c : Value} {x : DataW H × List MemPlace} (ht : P.underlying t = some (.slice e)) (hc : P.cellsOf e = m)
    (hel : ∀ (n : Nat) (cs : List Value) (y : DataW H × List MemPlace), DataW.trod enc P w base spare held n e cs = some y → ∃ s, Q s ∧ cs = l s)
    (hf : DataW.trod enc P w base spare held fuel t [c] = some x) : ∃ (L : List α) (a : Option Addr) (k : Nat), (∀ s ∈ L, Q s) ∧ c = .slice a L.length k ∧ L.length ≤ k ∧ k ≤ maxLen ∧ Rd w w.heap.size a (flatG l L) := by
  obtain ⟨d, p⟩ := x
  rcases open_slice ht hf with ⟨hcs, _⟩ | ⟨a', len', cap', mm, n, D, Pl, hcs, hb, hl, hm, hmm, hx, hi⟩
  · simp at hcs
    exact ⟨[], none, 0, by simp, hcs, Nat.le_refl _, Nat.zero_le _, Rd.nil _ _ _⟩
  simp at hcs
  have hlm' : len' ≤ mm := by rw [hmm]; split <;> omega
  rw [hc] at hi
  obtain ⟨S, hS⟩ := choose_lt (α := α) (n := len') (p := fun i s => Q s ∧ w.cells? base (a'.add (i * m)) m = some (l s)) (fun i hil => by
    obtain ⟨cs', h1, h2⟩ := hi i (by omega)
    obtain ⟨s, ho, rfl⟩ := hel _ _ _ h2
    exact ⟨s, ho, h1⟩)
  have hcell : ∀ i, i < len' → ∀ j, j < m → w.cell? (a'.add (i * m + j)) = (l (S i))[j]? := fun i hil j hj => by
    have := (World.cells?_some (hS i hil).2).2.2 j hj
    rw [Go.Deep.add_add] at this
    exact this
  refine ⟨(List.range len').map S, some a', cap', fun s hs => ?_, by simp [hcs], by simpa using hl, hm, fun hh => ?_⟩
  · obtain ⟨i, hir, rfl⟩ := List.mem_map.1 hs
    exact (hS i (by simpa using hir)).1
  · rw [flatG_length hlm] at hh
    have h0' : 0 < len' := by
      rcases Nat.eq_zero_or_pos len' with h | h
      · subst h; simp at hh
      · exact h
    have hne : 0 < (l (S 0)).length := by rw [hlm]; exact h0
    have h00 : w.cell? a' = some ((l (S 0))[0]) := by
      have := hcell 0 h0' 0 h0
      rw [List.getElem?_eq_getElem hne] at this
      simpa [Addr.add] using this
    have hspot := World.cell?_spot h00
    obtain ⟨b, off, sp⟩ := a'
    simp at hspot
    subst hspot
    refine ⟨b, off, rfl, block_lt_of_cell h00, fun j u hu => ?_⟩
    have hj : j < (flatG l ((List.range len').map S)).length := by
      rcases Nat.lt_or_ge j (flatG l ((List.range len').map S)).length with h | h
      · exact h
      · rw [List.getElem?_eq_none h] at hu; cases hu
    rw [flatG_length hlm, List.length_map, List.length_range] at hj
    have e : j = j / m * m + j % m := by rw [Nat.mul_comm]; exact (Nat.div_add_mod j m).symm
    have hi' : j / m < len' := by rw [Nat.div_lt_iff_lt_mul h0]; exact hj
    have := hcell (j / m) hi' (j % m) (Nat.mod_lt _ h0)
    rw [add_at, ← e] at this
    rw [this, ← hu]
    have hg := flatG_get hlm ((List.range len').map S) (j / m) (by simpa using hi') (j % m) (Nat.mod_lt _ h0)
    rw [← e] at hg
    rw [hg]; simp
theorem one_bool {t : TypeId} {n : Nat} {v : Value} {xs : List (DataW H × List MemPlace)} {i : Nat} (hi : i < xs.length) (ht : P.underlying t = some .bool)
    (h : DataW.trod enc P w base spare held n t [v] = xs[i]?) : ∃ b, v = .bool b := by
  rw [List.getElem?_eq_getElem hi] at h
  obtain ⟨x, hx, _⟩ := DataW.trod_bool ht h
  simp at hx
  exact ⟨x, hx⟩
theorem one_num {t : TypeId} {k : IntKind} {n : Nat} {v : Value} {xs : List (DataW H × List MemPlace)} {i : Nat} (hi : i < xs.length) (ht : P.underlying t = some (.int k))
    (h : DataW.trod enc P w base spare held n t [v] = xs[i]?) : ∃ x, v = .int k x ∧ (Lit.int k x).wf = true := by
  rw [List.getElem?_eq_getElem hi] at h
  obtain ⟨x, hx, _, hw⟩ := DataW.trod_int ht h
  simp at hx
  exact ⟨x, hx, hw⟩
end

/-- A slice of bytes that came in. -/
structure By where
  a : Option Addr
  c : Nat
  b : List UInt8
deriving Inhabited
def By.v (x : By) : Value := .slice x.a x.b.length x.c
def By.l (x : By) : List Value := [x.v]
def ByArg (w : World) (x : By) : Prop := Rd w w.heap.size x.a (bV x.b) ∧ x.b.length ≤ x.c ∧ x.c ≤ maxLen
section
variable {H : Type} {enc : TypeId × Value → H} {w : World} {base : Nat} {spare : Nat → Bool} {held : Bool}
end
end Go.Proofs.Ythpdaimeaomnkaa

