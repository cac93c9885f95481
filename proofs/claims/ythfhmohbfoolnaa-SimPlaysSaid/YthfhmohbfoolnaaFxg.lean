import Derived.Test.YthfhmohbfoolnaaGc
import Derived.ProofKit
import Derived.OpenShut
import Derived.ShutString
import Derived.ChangeOld
import Derived.Deep.Slices
import Derived.Deep.Fields
import Derived.ChangeSame
import Derived.ChangeSlices
import Derived.Lib.SmallJoins
import Derived.Test.YthfhmohbfoolnaaGr
import Derived.Test.YthfhmohbfoolnaaFv
namespace Go.Proofs.Ythfhmohbfoolnaa
open Go.ChangeShapes Go.WideShapes Go.ChangeAt Go.RowKit Go.Deep Go.Joins

/-! How plain arguments are opened: over any program. -/
theorem u64_of {n : Int} (h : (Lit.int .u64 n).wf = true) : 0 ≤ n ∧ n < 18446744073709551616 := by have := bounds_u64 h; exact ⟨this.1, by omega⟩
theorem i64_of {n : Int} (h : (Lit.int .i64 n).wf = true) : -9223372036854775808 ≤ n ∧ n < 9223372036854775808 := by have := bounds_i64 h; exact ⟨this.1, by omega⟩
theorem u32_of {n : Int} (h : (Lit.int .u32 n).wf = true) : 0 ≤ n ∧ n < 4294967296 := by have := bounds_u32 h; exact ⟨this.1, by omega⟩
theorem u16_of {n : Int} (h : (Lit.int .u16 n).wf = true) : 0 ≤ n ∧ n < 65536 := by have := bounds_u16 h; exact ⟨this.1, by omega⟩
theorem u8_of {n : Int} (h : (Lit.int .u8 n).wf = true) : 0 ≤ n ∧ n < 256 := by have := bounds_u8 h; exact ⟨this.1, by omega⟩
theorem two_of {α : Type} : ∀ {l : List α}, l.length = 2 → ∃ x y, l = [x, y]
  | [x, y], _ => ⟨x, y, rfl⟩
  | [], h => by cases h
  | [_], h => by cases h
  | _ :: _ :: _ :: _, h => by simp at h
section
variable {H : Type} {enc : TypeId × Value → H} {P : Program} {w : World} {base : Nat} {spare : Nat → Bool} {held : Bool}
theorem okWide_slice' {r : Reach} {b0 : Nat} {t e : TypeId} {v : Value} (ht : P.underlying t = some (.slice e)) (hv : Value.okWide P w r b0 t v) : ∃ a n c, v = .slice a n c := okWide_slice ht hv
/-- A slice of integers that came in: cells that are read. -/
theorem open_nums {r : Reach} {b0 : Nat} {t e : TypeId} {k : IntKind} {v : Value} {d : DataW H} {p : List MemPlace} (ht : P.underlying t = some (.slice e)) (he : P.underlying e = some (.int k)) (hc : P.cellsOf e = 1)
    (hv : Value.okWide P w r b0 t v) (h : DataW.Trod enc P w base spare held t v d p) :
    ∃ (zs : List Int) (a : Option Addr) (c : Nat), v = .slice a zs.length c ∧ zs.length ≤ c ∧ c ≤ maxLen ∧ Rd w w.heap.size a (zs.map (Value.int k)) ∧ ∀ n ∈ zs, (Lit.int k n).wf = true := by
  obtain ⟨a, len, cap, rfl⟩ := okWide_slice' ht hv
  obtain ⟨fuel, hf⟩ := h
  rcases open_ints ht he hc hf with ⟨hcs, _⟩ | ⟨a', len', cap', zs, hcs, hb, hl, hm, hzl, _, hcell, hwf⟩
  · simp [Value.cells] at hcs
    obtain ⟨rfl, rfl, rfl⟩ := hcs
    exact ⟨[], none, 0, rfl, Nat.le_refl _, Nat.zero_le _, Rd.nil _ _ _, by simp⟩
  · simp [Value.cells] at hcs
    obtain ⟨rfl, rfl, rfl⟩ := hcs
    have hlz : len ≤ zs.length := by rw [hzl]; split <;> omega
    have htl : (zs.take len).length = len := by simp; omega
    refine ⟨zs.take len, some a', cap, by rw [htl], by rw [htl]; exact hl, hm, fun h0 => ?_, fun n hn => hwf n (List.mem_of_mem_take hn)⟩
    have h0' : 0 < len := by simp at h0; omega
    have h00 := hcell 0 (by omega)
    have hspot := World.cell?_spot h00
    have hblk := block_lt_of_cell h00
    obtain ⟨b, off, sp⟩ := a'
    simp [Addr.add] at hspot hblk
    subst hspot
    refine ⟨b, off, rfl, hblk, fun j u hu => ?_⟩
    have hj : j < len := by
      rcases Nat.lt_or_ge j len with h | h
      · exact h
      · rw [List.getElem?_eq_none (by simp; omega)] at hu; cases hu
    have hjz : j < zs.length := by omega
    have := hcell j hjz
    rw [add_at] at this
    rw [this, ← hu]
    simp [List.getD, hj, hjz]
theorem bytes_of_nums (zs : List Int) (h : ∀ n ∈ zs, (Lit.int .u8 n).wf = true) : zs.map (Value.int .u8) = bV (zs.map fun n => UInt8.ofNat n.toNat) := by
  simp only [bV, List.map_map]
  refine List.map_congr_left fun n hn => ?_
  have := u8_of (h n hn)
  simp only [Function.comp]
  congr 1
  simp
  omega
/-- A slice of bytes that came in. -/
theorem open_bytes {r : Reach} {b0 : Nat} {t e : TypeId} {v : Value} {d : DataW H} {p : List MemPlace} (ht : P.underlying t = some (.slice e)) (he : P.underlying e = some (.int .u8)) (hc : P.cellsOf e = 1)
    (hv : Value.okWide P w r b0 t v) (h : DataW.Trod enc P w base spare held t v d p) :
    ∃ (l : List UInt8) (a : Option Addr) (c : Nat), v = .slice a l.length c ∧ l.length ≤ c ∧ c ≤ maxLen ∧ Rd w w.heap.size a (bV l) := by
  obtain ⟨zs, a, c, hv', h1, h2, h3, h4⟩ := open_nums ht he hc hv h
  refine ⟨zs.map fun n => UInt8.ofNat n.toNat, a, c, by simpa using hv', by simpa using h1, h2, ?_⟩
  rw [← bytes_of_nums zs h4]; exact h3
/-- A slice of numbers of 64 bits that came in. -/
theorem open_u64s {r : Reach} {b0 : Nat} {t e : TypeId} {v : Value} {d : DataW H} {p : List MemPlace} (ht : P.underlying t = some (.slice e)) (he : P.underlying e = some (.int .u64)) (hc : P.cellsOf e = 1)
    (hv : Value.okWide P w r b0 t v) (h : DataW.Trod enc P w base spare held t v d p) :
    ∃ (l : List Nat) (a : Option Addr) (c : Nat), v = .slice a l.length c ∧ l.length ≤ c ∧ c ≤ maxLen ∧ Rd w w.heap.size a (l.map fun (n : Nat) => Value.int .u64 (n : Int)) ∧ ∀ i, l.getD i 0 < 18446744073709551616 := by
  obtain ⟨zs, a, c, hv', h1, h2, h3, h4⟩ := open_nums ht he hc hv h
  refine ⟨zs.map Int.toNat, a, c, by simpa using hv', by simpa using h1, h2, ?_, fun i => ?_⟩
  · have e : (zs.map Int.toNat).map (fun (n : Nat) => Value.int .u64 (n : Int)) = zs.map (Value.int .u64) := by
      rw [List.map_map]
      refine List.map_congr_left fun n hn => ?_
      have := u64_of (h4 n hn)
      simp only [Function.comp]
      congr 1; omega
    rw [e]; exact h3
  · by_cases hi : i < zs.length
    · have := u64_of (h4 zs[i] (List.getElem_mem _))
      simp [List.getD, hi]; omega
    · simp [List.getD, hi]
/-- An array of integers that came in. -/
theorem open_num_array {r : Reach} {b0 : Nat} {t e : TypeId} {k : IntKind} {m : Nat} {v : Value} {d : DataW H} {p : List MemPlace} (ht : P.underlying t = some (.array m e)) (he : P.underlying e = some (.int k)) (hc : P.cellsOf e = 1) (hC : P.cellsOf t = m)
    (hv : Value.okWide P w r b0 t v) (h : DataW.Trod enc P w base spare held t v d p) :
    ∃ zs : List Int, v = .agg (zs.map (Value.int k)).toArray ∧ zs.length = m ∧ ∀ n ∈ zs, (Lit.int k n).wf = true := by
  obtain ⟨cs, rfl, hsz⟩ : ∃ cs : Array Value, v = .agg cs ∧ cs.size = P.cellsOf t := by
    simp only [Value.okWide, ht] at hv
    obtain ⟨cs, h1, h2, _⟩ := hv
    exact ⟨cs, h1, h2⟩
  rw [hC] at hsz
  obtain ⟨fuel, hf⟩ := h
  obtain ⟨xs, n, _, _, hcl, hlen, hg⟩ := DataW.trod_array ht hf
  have key : ∀ i (hi : i < cs.toList.length), ∃ z, cs.toList[i] = .int k z ∧ (Lit.int k z).wf = true := by
    intro i hi
    have hi' : i < m := by simpa [hsz] using hi
    have := hg i hi'
    rw [hc, Nat.mul_one, List.getElem?_eq_getElem (by omega)] at this
    have e : (((Value.agg cs).cells.toList.drop i).take 1) = [cs.toList[i]] := by
      show (cs.toList.drop i).take 1 = _
      rw [List.drop_eq_getElem_cons hi]; rfl
    rw [e] at this
    obtain ⟨z, hz, _, hw⟩ := DataW.trod_int he this
    simp at hz
    exact ⟨z, by simpa using hz, hw⟩
  have all : ∀ l : List Value, (∀ i (hi : i < l.length), ∃ z, l[i] = .int k z ∧ (Lit.int k z).wf = true) → ∃ zs : List Int, l = zs.map (Value.int k) ∧ ∀ n ∈ zs, (Lit.int k n).wf = true := by
    intro l
    induction l with
    | nil => intro _; exact ⟨[], rfl, by simp⟩
    | cons u l ih =>
      intro hl
      obtain ⟨z, hz, hw⟩ := hl 0 (by simp)
      obtain ⟨zs, h1, h2⟩ := ih fun i hi => hl (i + 1) (by simpa using hi)
      refine ⟨z :: zs, by simp at hz; simp [hz, h1], fun n hn => ?_⟩
      rcases List.mem_cons.1 hn with rfl | hn
      · exact hw
      · exact h2 n hn
  obtain ⟨zs, h1, h2⟩ := all cs.toList key
  refine ⟨zs, ?_, ?_, h2⟩
  · rw [← h1]
  · have := congrArg List.length h1
    simp [hsz] at this
    exact this.symm
end
end Go.Proofs.Ythfhmohbfoolnaa

namespace Go.Proofs.Ythfhmohbfoolnaa
open Go.ChangeShapes Go.WideShapes Go.ChangeAt Go.RowKit Go.Deep Go.Joins

/-! How rows of structs that hold slices are opened. -/
section
variable {H : Type} {enc : TypeId × Value → H} {P : Program} {w : World} {base : Nat} {spare : Nat → Bool} {held : Bool}
theorem bytes_cell {t e : TypeId} {fuel : Nat} {c : Value} {x : DataW H × List MemPlace} (ht : P.underlying t = some (.slice e)) (he : P.underlying e = some (.int .u8)) (hc : P.cellsOf e = 1)
    (hf : DataW.trod enc P w base spare held fuel t [c] = some x) : ∃ (l : List UInt8) (a : Option Addr) (k : Nat), c = .slice a l.length k ∧ l.length ≤ k ∧ k ≤ maxLen ∧ Rd w w.heap.size a (bV l) := by
  obtain ⟨d, p⟩ := x
  rcases open_ints ht he hc hf with ⟨hcs, _⟩ | ⟨a', len', cap', zs, hcs, hb, hl, hm, hzl, _, hcell, hwf⟩
  · simp at hcs
    exact ⟨[], none, 0, hcs, Nat.le_refl _, Nat.zero_le _, Rd.nil _ _ _⟩
  · simp at hcs
    have hlz : len' ≤ zs.length := by rw [hzl]; split <;> omega
    have htl : (zs.take len').length = len' := by simp; omega
    refine ⟨(zs.take len').map fun n => UInt8.ofNat n.toNat, some a', cap', by rw [List.length_map, htl]; exact hcs, by rw [List.length_map, htl]; exact hl, hm, ?_⟩
    rw [← bytes_of_nums (zs.take len') (fun n hn => hwf n (List.mem_of_mem_take hn))]
    intro h0
    have h0' : 0 < len' := by simp at h0; omega
    have h00 := hcell 0 (by omega)
    have hspot := World.cell?_spot h00
    have hblk := block_lt_of_cell h00
    obtain ⟨b, off, sp⟩ := a'
    simp [Addr.add] at hspot hblk
    subst hspot
    refine ⟨b, off, rfl, hblk, fun j u hu => ?_⟩
    have hj : j < len' := by
      rcases Nat.lt_or_ge j len' with h | h
      · exact h
      · rw [List.getElem?_eq_none (by simp; omega)] at hu; cases hu
    have hjz : j < zs.length := by omega
    have := hcell j hjz
    rw [add_at] at this
    rw [this, ← hu]
    simp [List.getD, hj, hjz]
theorem rows_cell {α : Type} [Inhabited α] (l : α → List Value) {m : Nat} (hlm : ∀ x, (l x).length = m) (h0 : 0 < m) (Q : α → Prop) {t e : TypeId} {fuel : Nat} {c : Value} {x : DataW H × List MemPlace} (ht : P.underlying t = some (.slice e)) (hc : P.cellsOf e = m)
    (hel : ∀ (n : Nat) (cs : List Value) (y : DataW H × List MemPlace), DataW.trod enc P w base spare held n e cs = some y → ∃ s, Q s ∧ cs = l s)
    (hf : DataW.trod enc P w base spare held fuel t [c] = some x) : ∃ (L : List α) (a : Option Addr) (k : Nat), (∀ s ∈ L, Q s) ∧ c = .slice a L.length k ∧ L.length ≤ k ∧ k ≤ maxLen ∧ Rd w w.heap.size a (flatG l L) := by
  obtain ⟨d, p⟩ := x
  rcases open_slice ht hf with ⟨hcs, _⟩ | ⟨a', len', cap', mm, n, D, Pl, hcs, hb, hl, hm, hmm, hx, hi⟩
  · simp at hcs
    exact ⟨[], none, 0, by simp, hcs, Nat.le_refl _, Nat.zero_le _, Rd.nil _ _ _⟩
  simp at hcs
  have hlm' : len' ≤ mm := by rw [hmm]; split <;> omega
  rw [hc] at hi
  obtain ⟨S, hS⟩ := choose_lt (α := α) (n := len') (p := fun i s => Q s ∧ w.cells? base (a'.add (i * m)) m = some (l s)) (fun i hil => by
    obtain ⟨cs', h1, h2⟩ := hi i (by omega)
    obtain ⟨s, ho, rfl⟩ := hel _ _ _ h2
    exact ⟨s, ho, h1⟩)
  have hcell : ∀ i, i < len' → ∀ j, j < m → w.cell? (a'.add (i * m + j)) = (l (S i))[j]? := fun i hil j hj => by
    have := (World.cells?_some (hS i hil).2).2.2 j hj
    rw [Go.Deep.add_add] at this
    exact this
  refine ⟨(List.range len').map S, some a', cap', fun s hs => ?_, by simp [hcs], by simpa using hl, hm, fun hh => ?_⟩
  · obtain ⟨i, hir, rfl⟩ := List.mem_map.1 hs
    exact (hS i (by simpa using hir)).1
  · rw [flatG_length hlm] at hh
    have h0' : 0 < len' := by
      rcases Nat.eq_zero_or_pos len' with h | h
      · subst h; simp at hh
      · exact h
    have hne : 0 < (l (S 0)).length := by rw [hlm]; exact h0
    have h00 : w.cell? a' = some ((l (S 0))[0]) := by
      have := hcell 0 h0' 0 h0
      rw [List.getElem?_eq_getElem hne] at this
      simpa [Addr.add] using this
    have hspot := World.cell?_spot h00
    obtain ⟨b, off, sp⟩ := a'
    simp at hspot
    subst hspot
    refine ⟨b, off, rfl, block_lt_of_cell h00, fun j u hu => ?_⟩
    have hj : j < (flatG l ((List.range len').map S)).length := by
      rcases Nat.lt_or_ge j (flatG l ((List.range len').map S)).length with h | h
      · exact h
      · rw [List.getElem?_eq_none h] at hu; cases hu
    rw [flatG_length hlm, List.length_map, List.length_range] at hj
    have e : j = j / m * m + j % m := by rw [Nat.mul_comm]; exact (Nat.div_add_mod j m).symm
    have hi' : j / m < len' := by rw [Nat.div_lt_iff_lt_mul h0]; exact hj
    have := hcell (j / m) hi' (j % m) (Nat.mod_lt _ h0)
    rw [add_at, ← e] at this
    rw [this, ← hu]
    have hg := flatG_get hlm ((List.range len').map S) (j / m) (by simpa using hi') (j % m) (Nat.mod_lt _ h0)
    rw [← e] at hg
    rw [hg]; simp
theorem one_bool {t : TypeId} {n : Nat} {v : Value} {xs : List (DataW H × List MemPlace)} {i : Nat} (hi : i < xs.length) (ht : P.underlying t = some .bool)
    (h : DataW.trod enc P w base spare held n t [v] = xs[i]?) : ∃ b, v = .bool b := by
  rw [List.getElem?_eq_getElem hi] at h
  obtain ⟨x, hx, _⟩ := DataW.trod_bool ht h
  simp at hx
  exact ⟨x, hx⟩
theorem one_num {t : TypeId} {k : IntKind} {n : Nat} {v : Value} {xs : List (DataW H × List MemPlace)} {i : Nat} (hi : i < xs.length) (ht : P.underlying t = some (.int k))
    (h : DataW.trod enc P w base spare held n t [v] = xs[i]?) : ∃ x, v = .int k x ∧ (Lit.int k x).wf = true := by
  rw [List.getElem?_eq_getElem hi] at h
  obtain ⟨x, hx, _, hw⟩ := DataW.trod_int ht h
  simp at hx
  exact ⟨x, hx, hw⟩
end
theorem cells_u8' : Try.prog.cellsOf 5 = 1 := by kernel_rfl
theorem cells_int : Try.prog.cellsOf 3 = 1 := by kernel_rfl
theorem cells_u32 : Try.prog.cellsOf 35 = 1 := by kernel_rfl
theorem cells_bool : Try.prog.cellsOf 4 = 1 := by kernel_rfl
theorem cells_bytes : Try.prog.cellsOf 36 = 1 := by kernel_rfl
theorem cells_fates : Try.prog.cellsOf 33 = 1 := by kernel_rfl
theorem cells_fate : Try.prog.cellsOf 52 = 3 := by kernel_rfl
theorem cells_act : Try.prog.cellsOf 38 = 5 := by kernel_rfl
deriving instance Inhabited for Ft
deriving instance Inhabited for Ac
def FtArg (w : World) (t : Ft) : Prop := Rd w w.heap.size t.ga (bV t.g) ∧ t.g.length ≤ t.gc ∧ t.gc ≤ maxLen ∧ -9223372036854775808 ≤ t.bytes ∧ t.bytes ≤ 9223372036854775807
section
variable {H : Type} {enc : TypeId × Value → H} {w : World} {base : Nat} {spare : Nat → Bool} {held : Bool}
set_option maxRecDepth 100000 in
theorem fate_cells {fuel : Nat} {cs : List Value} {x : DataW H × List MemPlace} (h : DataW.trod enc Try.prog w base spare held fuel 52 cs = some x) : ∃ s : Ft, FtArg w s ∧ cs = s.l := by
  obtain ⟨xs, n, _, hx, hcl, hlen, hg⟩ := DataW.trod_struct Try.underlying52 h
  rw [cells_fate] at hcl
  match cs, hcl with
  | [c0, c1, c2], _ =>
    have hl : xs.length = 3 := hlen
    have g0 : DataW.trod enc Try.prog w base spare held n 4 [c0] = xs[0]? := by simpa [cells_bool] using hg 0 _ rfl
    have g1 : DataW.trod enc Try.prog w base spare held n 3 [c1] = xs[1]? := by simpa [cells_int] using hg 1 _ rfl
    have g2 : DataW.trod enc Try.prog w base spare held n 36 [c2] = xs[2]? := by simpa [cells_bytes] using hg 2 _ rfl
    obtain ⟨x0, rfl⟩ := one_bool (by omega) Try.underlying4 g0
    obtain ⟨x1, rfl, h1⟩ := one_num (by omega) Try.underlying3 g1
    rw [List.getElem?_eq_getElem (by omega)] at g2
    obtain ⟨l, a, k, rfl, k1, k2, k3⟩ := bytes_cell Try.underlying36 Try.underlying5 cells_u8' g2
    have hb := i64_of h1
    exact ⟨⟨x0, x1, a, k, l⟩, ⟨k3, k1, k2, hb.1, by show x1 ≤ _; omega⟩, rfl⟩
set_option maxRecDepth 100000 in
theorem act_cells {fuel : Nat} {cs : List Value} {x : DataW H × List MemPlace} (h : DataW.trod enc Try.prog w base spare held fuel 38 cs = some x) : ∃ s : Ac, AcArg w s ∧ cs = s.l := by
  obtain ⟨xs, n, _, hx, hcl, hlen, hg⟩ := DataW.trod_struct Try.underlying38 h
  rw [cells_act] at hcl
  match cs, hcl with
  | [c0, c1, c2, c3, c4], _ =>
    have hl : xs.length = 5 := hlen
    have g0 : DataW.trod enc Try.prog w base spare held n 3 [c0] = xs[0]? := by simpa [cells_int] using hg 0 _ rfl
    have g1 : DataW.trod enc Try.prog w base spare held n 35 [c1] = xs[1]? := by simpa [cells_u32] using hg 1 _ rfl
    have g2 : DataW.trod enc Try.prog w base spare held n 36 [c2] = xs[2]? := by simpa [cells_bytes] using hg 2 _ rfl
    have g3 : DataW.trod enc Try.prog w base spare held n 3 [c3] = xs[3]? := by simpa [cells_int] using hg 3 _ rfl
    have g4 : DataW.trod enc Try.prog w base spare held n 33 [c4] = xs[4]? := by simpa [cells_fates] using hg 4 _ rfl
    obtain ⟨x0, rfl, _⟩ := one_num (by omega) Try.underlying3 g0
    obtain ⟨x1, rfl, h1⟩ := one_num (by omega) Try.underlying35 g1
    obtain ⟨x3, rfl, h3⟩ := one_num (by omega) Try.underlying3 g3
    rw [List.getElem?_eq_getElem (by omega)] at g2 g4
    obtain ⟨l, a, k, rfl, k1, k2, k3⟩ := bytes_cell Try.underlying36 Try.underlying5 cells_u8' g2
    obtain ⟨T, fa, fk, hT, rfl, f1, f2, f3⟩ := rows_cell Ft.l Ft_len (by omega) (FtArg w) Try.underlying33 cells_fate (fun _ _ _ h => fate_cells h) g4
    have hb := u32_of h1
    have hs := i64_of h3
    obtain ⟨n1, rfl⟩ := Int.eq_ofNat_of_zero_le hb.1
    exact ⟨⟨x0, n1, a, k, l, x3, fa, fk, T⟩, ⟨by show n1 < _; omega, hs.1, by show x3 ≤ _; omega, k3, k1, k2, f3, f1, f2, hT⟩, rfl⟩
set_option maxRecDepth 100000 in
/-- Acts that came in. -/
theorem open_acts {b0 : Nat} {r : Reach} {v : Value} {d : DataW H} {p : List MemPlace} (hv : Value.okWide Try.prog w r b0 22 v) (h : DataW.Trod enc Try.prog w base spare held 22 v d p) :
    ∃ (L : List Ac) (a : Option Addr) (c : Nat), (∀ s ∈ L, AcArg w s) ∧ v = .slice a L.length c ∧ L.length ≤ c ∧ c ≤ maxLen ∧ Rd w w.heap.size a (flatG Ac.l L) := by
  obtain ⟨a, len, cap, rfl⟩ := okWide_slice Try.underlying22 hv
  obtain ⟨fuel, hf⟩ := h
  exact rows_cell Ac.l (fun _ => rfl) (by omega) (AcArg w) Try.underlying22 cells_act (fun _ _ _ h => act_cells h) hf
set_option maxRecDepth 100000 in
/-- Fates that came in. -/
theorem open_fates {b0 : Nat} {r : Reach} {v : Value} {d : DataW H} {p : List MemPlace} (hv : Value.okWide Try.prog w r b0 33 v) (h : DataW.Trod enc Try.prog w base spare held 33 v d p) :
    ∃ (L : List Ft) (a : Option Addr) (c : Nat), (∀ s ∈ L, FtArg w s) ∧ v = .slice a L.length c ∧ L.length ≤ c ∧ c ≤ maxLen ∧ Rd w w.heap.size a (flatG Ft.l L) := by
  obtain ⟨a, len, cap, rfl⟩ := okWide_slice Try.underlying33 hv
  obtain ⟨fuel, hf⟩ := h
  exact rows_cell Ft.l Ft_len (by omega) (FtArg w) Try.underlying33 cells_fate (fun _ _ _ h => fate_cells h) hf
end
end Go.Proofs.Ythfhmohbfoolnaa

