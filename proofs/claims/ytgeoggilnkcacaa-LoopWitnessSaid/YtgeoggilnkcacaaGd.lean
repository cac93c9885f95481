import Derived.Test.YtgeoggilnkcacaaGc
import Derived.ProofKit
import Derived.OpenShut
import Derived.ShutString
import Derived.ChangeOld
import Derived.Deep.Slices
import Derived.Deep.Fields
import Derived.ChangeSame
import Derived.ChangeSlices
import Derived.Lib.SmallJoins
namespace Go.Proofs.Ytgeoggilnkcacaa
open Go.ChangeShapes Go.WideShapes Go.ChangeAt Go.RowKit Go.Deep Go.Joins

/-! How plain arguments are opened: over any program. -/
theorem u64_of {n : Int} (h : (Lit.int .u64 n).wf = true) : 0 ≤ n ∧ n < 18446744073709551616 := by have := bounds_u64 h; exact ⟨this.1, by omega⟩
theorem i64_of {n : Int} (h : (Lit.int .i64 n).wf = true) : -9223372036854775808 ≤ n ∧ n < 9223372036854775808 := by have := bounds_i64 h; exact ⟨this.1, by omega⟩
theorem u32_of {n : Int} (h : (Lit.int .u32 n).wf = true) : 0 ≤ n ∧ n < 4294967296 := by have := bounds_u32 h; exact ⟨this.1, by omega⟩
theorem u16_of {n : Int} (h : (Lit.int .u16 n).wf = true) : 0 ≤ n ∧ n < 65536 := by have := bounds_u16 h; exact ⟨this.1, by omega⟩
theorem u8_of {n : Int} (h : (Lit.int .u8 n).wf = true) : 0 ≤ n ∧ n < 256 := by have := bounds_u8 h; exact ⟨this.1, by omega⟩
theorem two_of {α : Type} : ∀ {l : List α}, l.length = 2 → ∃ x y, l = [x, y]
  | [x, y], _ => ⟨x, y, rfl⟩
  | [], h => by cases h
  | [_], h => by cases h
  | _ :: _ :: _ :: _, h => by simp at h
section
variable {H : Type} {enc : TypeId × Value → H} {P : Program} {w : World} {base : Nat} {spare : Nat → Bool} {held : Bool}
theorem okWide_slice' {r : Reach} {b0 : Nat} {t e : TypeId} {v : Value} (ht : P.underlying t = some (.slice e)) (hv : Value.okWide P w r b0 t v) : ∃ a n c, v = .slice a n c := okWide_slice ht hv
/-- A slice of integers that came in: cells that are read. -/
theorem open_nums {r : Reach} {b0 : Nat} {t e : TypeId} {k : IntKind} {v : Value} {d : DataW H} {p : List MemPlace} (ht : P.underlying t = some (.slice e)) (he : P.underlying e = some (.int k)) (hc : P.cellsOf e = 1)
    (hv : Value.okWide P w r b0 t v) (h : DataW.Trod enc P w base spare held t v d p) :
    ∃ (zs : List Int) (a : Option Addr) (c : Nat), v = .slice a zs.length c ∧ zs.length ≤ c ∧ c ≤ maxLen ∧ Rd w w.heap.size a (zs.map (Value.int k)) ∧ ∀ n ∈ zs, (Lit.int k n).wf = true := by
  obtain ⟨a, len, cap, rfl⟩ := okWide_slice' ht hv
  obtain ⟨fuel, hf⟩ := h
  rcases open_ints ht he hc hf with ⟨hcs, _⟩ | ⟨a', len', cap', zs, hcs, hb, hl, hm, hzl, _, hcell, hwf⟩
  · simp [Value.cells] at hcs
    obtain ⟨rfl, rfl, rfl⟩ := hcs
    exact ⟨[], none, 0, rfl, Nat.le_refl _, Nat.zero_le _, Rd.nil _ _ _, by simp⟩
  · simp [Value.cells] at hcs
    obtain ⟨rfl, rfl, rfl⟩ := hcs
    have hlz : len ≤ zs.length := by rw [hzl]; split <;> omega
    have htl : (zs.take len).length = len := by simp; omega
    refine ⟨zs.take len, some a', cap, by rw [htl], by rw [htl]; exact hl, hm, fun h0 => ?_, fun n hn => hwf n (List.mem_of_mem_take hn)⟩
    have h0' : 0 < len := by simp at h0; omega
    have h00 := hcell 0 (by omega)
    have hspot := World.cell?_spot h00
    have hblk := block_lt_of_cell h00
    obtain ⟨b, off, sp⟩ := a'
    simp [Addr.add] at hspot hblk
    subst hspot
    refine ⟨b, off, rfl, hblk, fun j u hu => ?_⟩
    have hj : j < len := by
      rcases Nat.lt_or_ge j len with h | h
      · exact h
      · rw [List.getElem?_eq_none (by simp; omega)] at hu; cases hu
    have hjz : j < zs.length := by omega
    have := hcell j hjz
    rw [add_at] at this
    rw [this, ← hu]
    simp [List.getD, hj, hjz]
theorem bytes_of_nums (zs : List Int) (h : ∀ n ∈ zs, (Lit.int .u8 n).wf = true) : zs.map (Value.int .u8) = bV (zs.map fun n => UInt8.ofNat n.toNat) := by
  simp only [bV, List.map_map]
  refine List.map_congr_left fun n hn => ?_
  have := u8_of (h n hn)
  simp only [Function.comp]
  congr 1
  simp
  omega
/-- A slice of bytes that came in. -/
theorem open_bytes {r : Reach} {b0 : Nat} {t e : TypeId} {v : Value} {d : DataW H} {p : List MemPlace} (ht : P.underlying t = some (.slice e)) (he : P.underlying e = some (.int .u8)) (hc : P.cellsOf e = 1)
    (hv : Value.okWide P w r b0 t v) (h : DataW.Trod enc P w base spare held t v d p) :
    ∃ (l : List UInt8) (a : Option Addr) (c : Nat), v = .slice a l.length c ∧ l.length ≤ c ∧ c ≤ maxLen ∧ Rd w w.heap.size a (bV l) := by
  obtain ⟨zs, a, c, hv', h1, h2, h3, h4⟩ := open_nums ht he hc hv h
  refine ⟨zs.map fun n => UInt8.ofNat n.toNat, a, c, by simpa using hv', by simpa using h1, h2, ?_⟩
  rw [← bytes_of_nums zs h4]; exact h3
/-- A slice of numbers of 64 bits that came in. -/
theorem open_u64s {r : Reach} {b0 : Nat} {t e : TypeId} {v : Value} {d : DataW H} {p : List MemPlace} (ht : P.underlying t = some (.slice e)) (he : P.underlying e = some (.int .u64)) (hc : P.cellsOf e = 1)
    (hv : Value.okWide P w r b0 t v) (h : DataW.Trod enc P w base spare held t v d p) :
    ∃ (l : List Nat) (a : Option Addr) (c : Nat), v = .slice a l.length c ∧ l.length ≤ c ∧ c ≤ maxLen ∧ Rd w w.heap.size a (l.map fun (n : Nat) => Value.int .u64 (n : Int)) ∧ ∀ i, l.getD i 0 < 18446744073709551616 := by
  obtain ⟨zs, a, c, hv', h1, h2, h3, h4⟩ := open_nums ht he hc hv h
  refine ⟨zs.map Int.toNat, a, c, by simpa using hv', by simpa using h1, h2, ?_, fun i => ?_⟩
  · have e : (zs.map Int.toNat).map (fun (n : Nat) => Value.int .u64 (n : Int)) = zs.map (Value.int .u64) := by
      rw [List.map_map]
      refine List.map_congr_left fun n hn => ?_
      have := u64_of (h4 n hn)
      simp only [Function.comp]
      congr 1; omega
    rw [e]; exact h3
  · by_cases hi : i < zs.length
    · have := u64_of (h4 zs[i] (List.getElem_mem _))
      simp [List.getD, hi]; omega
    · simp [List.getD, hi]
/-- An array of integers that came in. -/
theorem open_num_array {r : Reach} {b0 : Nat} {t e : TypeId} {k : IntKind} {m : Nat} {v : Value} {d : DataW H} {p : List MemPlace} (ht : P.underlying t = some (.array m e)) (he : P.underlying e = some (.int k)) (hc : P.cellsOf e = 1) (hC : P.cellsOf t = m)
    (hv : Value.okWide P w r b0 t v) (h : DataW.Trod enc P w base spare held t v d p) :
    ∃ zs : List Int, v = .agg (zs.map (Value.int k)).toArray ∧ zs.length = m ∧ ∀ n ∈ zs, (Lit.int k n).wf = true := by
  obtain ⟨cs, rfl, hsz⟩ : ∃ cs : Array Value, v = .agg cs ∧ cs.size = P.cellsOf t := by
    simp only [Value.okWide, ht] at hv
    obtain ⟨cs, h1, h2, _⟩ := hv
    exact ⟨cs, h1, h2⟩
  rw [hC] at hsz
  obtain ⟨fuel, hf⟩ := h
  obtain ⟨xs, n, _, _, hcl, hlen, hg⟩ := DataW.trod_array ht hf
  have key : ∀ i (hi : i < cs.toList.length), ∃ z, cs.toList[i] = .int k z ∧ (Lit.int k z).wf = true := by
    intro i hi
    have hi' : i < m := by simpa [hsz] using hi
    have := hg i hi'
    rw [hc, Nat.mul_one, List.getElem?_eq_getElem (by omega)] at this
    have e : (((Value.agg cs).cells.toList.drop i).take 1) = [cs.toList[i]] := by
      show (cs.toList.drop i).take 1 = _
      rw [List.drop_eq_getElem_cons hi]; rfl
    rw [e] at this
    obtain ⟨z, hz, _, hw⟩ := DataW.trod_int he this
    simp at hz
    exact ⟨z, by simpa using hz, hw⟩
  have all : ∀ l : List Value, (∀ i (hi : i < l.length), ∃ z, l[i] = .int k z ∧ (Lit.int k z).wf = true) → ∃ zs : List Int, l = zs.map (Value.int k) ∧ ∀ n ∈ zs, (Lit.int k n).wf = true := by
    intro l
    induction l with
    | nil => intro _; exact ⟨[], rfl, by simp⟩
    | cons u l ih =>
      intro hl
      obtain ⟨z, hz, hw⟩ := hl 0 (by simp)
      obtain ⟨zs, h1, h2⟩ := ih fun i hi => hl (i + 1) (by simpa using hi)
      refine ⟨z :: zs, by simp at hz; simp [hz, h1], fun n hn => ?_⟩
      rcases List.mem_cons.1 hn with rfl | hn
      · exact hw
      · exact h2 n hn
  obtain ⟨zs, h1, h2⟩ := all cs.toList key
  refine ⟨zs, ?_, ?_, h2⟩
  · rw [← h1]
  · have := congrArg List.length h1
    simp [hsz] at this
    exact this.symm
end
end Go.Proofs.Ytgeoggilnkcacaa

