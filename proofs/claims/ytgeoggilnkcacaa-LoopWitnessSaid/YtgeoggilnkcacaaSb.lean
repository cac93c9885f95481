import Derived.Test.YtgeoggilnkcacaaRows
import Derived.Test.YtgeoggilnkcacaaGc
namespace Go.Proofs.Ytgeoggilnkcacaa
open Go.RowKit
def inN (b : Int) : Bool := (b == 45) || (b == 46) || (b == 95) || (decide (97 ≤ b) && decide (b ≤ 122)) || (decide (48 ≤ b) && decide (b ≤ 57))

theorem take_snoc (s : ByteArray) (k : Nat) (h : k < s.size) : s.data.toList.take (k + 1) = s.data.toList.take k ++ [s[k]] := by
  rw [List.take_succ_eq_append_getElem (by simpa using h)]; rfl
def allN (l : List UInt8) : Bool := l.all fun c => inN c.toNat
theorem allN_snoc (l : List UInt8) (c : UInt8) : allN (l ++ [c]) = (allN l && inN c.toNat) := by simp [allN]
theorem allN_false {l l' : List UInt8} (h : allN l = false) : allN (l ++ l') = false := by
  simp only [allN, List.all_append] at *; rw [h]; rfl
def nameB (s : ByteArray) : Bool := decide (1 ≤ s.size) && decide (s.size ≤ 16) && allN s.data.toList

/-- The document's signs. -/
def signs : ByteArray := ⟨#[97, 98, 99, 100, 101, 102, 103, 104, 105, 106, 107, 108, 109, 110, 111, 112, 113, 114, 115, 116, 117, 118, 119, 120, 121, 122, 48, 49, 50, 51, 52, 53, 54, 55, 56, 57, 45, 46, 95]⟩
theorem signs_size : signs.size = 39 := by decide
def among (l : List UInt8) (c : UInt8) : Bool := l.any fun x => x == c
theorem among_fin : ∀ n : Fin 256, among signs.data.toList ⟨⟨n⟩⟩ = inN ((n : Nat) : Int) := by decide +kernel
theorem among_signs (c : UInt8) : among signs.data.toList c = inN (c.toNat : Int) := by
  obtain ⟨⟨n⟩⟩ := c; exact among_fin n
theorem among_snoc (l : List UInt8) (c x : UInt8) : among (l ++ [c]) x = (among l x || c == x) := by simp [among]

theorem toList_empty {s : ByteArray} (h : s.size < 1) : s.toList = [] := by
  rw [ByteArray.toList_eq]; have : s.data.toList.length = s.size := by simp
  exact List.length_eq_zero_iff.1 (by omega)
theorem toList_not {s : ByteArray} (h : ¬ s.size < 1) : s.toList.isEmpty = false ∧ ¬ s.toList = [] := by
  rw [ByteArray.toList_eq]; have : s.data.toList.length = s.size := by simp
  have : ¬ s.data.toList = [] := fun e => by rw [e] at this; simp at this; omega
  exact ⟨by simpa using this, this⟩

end Go.Proofs.Ytgeoggilnkcacaa

namespace Go.Proofs.Ytgeoggilnkcacaa
open Go.RowKit

structure Sp where
  trace : Int
  id : Int
  parent : Int
  kind : Int
  host : ByteArray
  name : ByteArray
  start : Int
  dur : Int
def Sp.c (s : Sp) : Array Value := #[.int .u64 s.trace, .int .u64 s.id, .int .u64 s.parent, .int .u8 s.kind, .string s.host, .string s.name, .int .i64 s.start, .int .i64 s.dur]
def Sp.v (s : Sp) : Value := .agg #[.int .u64 s.trace, .int .u64 s.id, .int .u64 s.parent, .int .u8 s.kind, .string s.host, .string s.name, .int .i64 s.start, .int .i64 s.dur]

theorem bcell {W w1 : World} (hb : Below W.heap.size W w1) : (∀ b o, b < W.heap.size → w1.cell? ⟨b, o, none⟩ = W.cell? ⟨b, o, none⟩) ∧ (∀ b o, b < W.heap.size → w1.frozen? ⟨b, o, none⟩ = W.frozen? ⟨b, o, none⟩) :=
  ⟨fun b o h => hb.cell (p := ⟨b, o, none⟩) h, fun b o h => hb.frozen (p := ⟨b, o, none⟩) h⟩


/-- Block n holds the span s. -/
def Box (w : World) (n : Nat) (s : Sp) : Prop := n < w.heap.size ∧ ∀ i, i < 8 → w.cell? ⟨n, i, none⟩ = s.c[i]?
theorem Box.below {w w' : World} {n : Nat} {s : Sp} (h : Box w n s) {B : Nat} (hb : Below B w w') (hB : n < B) : Box w' n s :=
  ⟨Nat.lt_of_lt_of_le h.1 hb.size, fun i hi => by rw [hb.cell (p := ⟨n, i, none⟩) hB]; exact h.2 i hi⟩
theorem Box.all {w : World} {n : Nat} {s : Sp} (h : Box w n s) :
    w.cell? ⟨n, 0, none⟩ = some (.int .u64 s.trace) ∧ w.cell? ⟨n, 1, none⟩ = some (.int .u64 s.id) ∧ w.cell? ⟨n, 2, none⟩ = some (.int .u64 s.parent) ∧ w.cell? ⟨n, 3, none⟩ = some (.int .u8 s.kind)
    ∧ w.cell? ⟨n, 4, none⟩ = some (.string s.host) ∧ w.cell? ⟨n, 5, none⟩ = some (.string s.name) ∧ w.cell? ⟨n, 6, none⟩ = some (.int .i64 s.start) ∧ w.cell? ⟨n, 7, none⟩ = some (.int .i64 s.dur) :=
  ⟨h.2 0 (by omega), h.2 1 (by omega), h.2 2 (by omega), h.2 3 (by omega), h.2 4 (by omega), h.2 5 (by omega), h.2 6 (by omega), h.2 7 (by omega)⟩
theorem Box.new (w : World) (s : Sp) (t : TypeId) : Box (w.alloc (.cells s.c t)) w.heap.size s := ⟨by simp, fun i _ => by simp⟩

end Go.Proofs.Ytgeoggilnkcacaa

