import Derived.Test.YthpdaimeaomnkaaSa
namespace Go.Proofs.Ythpdaimeaomnkaa
open Go.RowKit

structure Sp where
  trace : Int
  id : Int
  parent : Int
  kind : Int
  host : ByteArray
  name : ByteArray
  start : Int
  dur : Int
def Sp.c (s : Sp) : Array Value := #[.int .u64 s.trace, .int .u64 s.id, .int .u64 s.parent, .int .u8 s.kind, .string s.host, .string s.name, .int .i64 s.start, .int .i64 s.dur]
def Sp.v (s : Sp) : Value := .agg #[.int .u64 s.trace, .int .u64 s.id, .int .u64 s.parent, .int .u8 s.kind, .string s.host, .string s.name, .int .i64 s.start, .int .i64 s.dur]

theorem bcell {W w1 : World} (hb : Below W.heap.size W w1) : (∀ b o, b < W.heap.size → w1.cell? ⟨b, o, none⟩ = W.cell? ⟨b, o, none⟩) ∧ (∀ b o, b < W.heap.size → w1.frozen? ⟨b, o, none⟩ = W.frozen? ⟨b, o, none⟩) :=
  ⟨fun b o h => hb.cell (p := ⟨b, o, none⟩) h, fun b o h => hb.frozen (p := ⟨b, o, none⟩) h⟩


/-- Block n holds the span s. -/
def Box (w : World) (n : Nat) (s : Sp) : Prop := n < w.heap.size ∧ ∀ i, i < 8 → w.cell? ⟨n, i, none⟩ = s.c[i]?
theorem Box.below {w w' : World} {n : Nat} {s : Sp} (h : Box w n s) {B : Nat} (hb : Below B w w') (hB : n < B) : Box w' n s :=
  ⟨Nat.lt_of_lt_of_le h.1 hb.size, fun i hi => by rw [hb.cell (p := ⟨n, i, none⟩) hB]; exact h.2 i hi⟩
theorem Box.all {w : World} {n : Nat} {s : Sp} (h : Box w n s) :
    w.cell? ⟨n, 0, none⟩ = some (.int .u64 s.trace) ∧ w.cell? ⟨n, 1, none⟩ = some (.int .u64 s.id) ∧ w.cell? ⟨n, 2, none⟩ = some (.int .u64 s.parent) ∧ w.cell? ⟨n, 3, none⟩ = some (.int .u8 s.kind)
    ∧ w.cell? ⟨n, 4, none⟩ = some (.string s.host) ∧ w.cell? ⟨n, 5, none⟩ = some (.string s.name) ∧ w.cell? ⟨n, 6, none⟩ = some (.int .i64 s.start) ∧ w.cell? ⟨n, 7, none⟩ = some (.int .i64 s.dur) :=
  ⟨h.2 0 (by omega), h.2 1 (by omega), h.2 2 (by omega), h.2 3 (by omega), h.2 4 (by omega), h.2 5 (by omega), h.2 6 (by omega), h.2 7 (by omega)⟩
theorem Box.new (w : World) (s : Sp) (t : TypeId) : Box (w.alloc (.cells s.c t)) w.heap.size s := ⟨by simp, fun i _ => by simp⟩

end Go.Proofs.Ythpdaimeaomnkaa
