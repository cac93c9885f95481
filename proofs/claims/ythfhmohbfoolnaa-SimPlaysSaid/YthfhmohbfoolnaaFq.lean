import Derived.Test.YthfhmohbfoolnaaFp
import Derived.Test.YthfhmohbfoolnaaFn
namespace Go.Proofs.Ythfhmohbfoolnaa
open Go Go.RowKit Go.Sort

/-! What a file system of the program has to pay: over this alone go the statements. -/
/-- Nothing is changed but the blocks of S, and new ones. -/
structure Off (S : Nat → Prop) (w w' : World) : Prop where
  os : w'.os = w.os
  tape : w'.tape = w.tape
  output : w'.output = w.output
  size : w.heap.size ≤ w'.heap.size
  block : ∀ k, k < w.heap.size → ¬ S k → w'.heap[k]? = w.heap[k]?
theorem Off.refl (S : Nat → Prop) (w : World) : Off S w w := ⟨rfl, rfl, rfl, Nat.le_refl _, fun _ _ _ => rfl⟩
theorem Off.of_below {S : Nat → Prop} {w w' : World} (h : Below w.heap.size w w') : Off S w w' := ⟨h.os, h.tape, h.output, h.size, fun k hk _ => h.block k hk⟩
theorem Off.below {S : Nat → Prop} {w w' : World} (h : Off S w w') {B : Nat} (hB : B ≤ w.heap.size) (hS : ∀ k, S k → B ≤ k) : Below B w w' :=
  ⟨h.os, h.tape, h.output, h.size, fun k hk => h.block k (by omega) fun hs => by have := hS k hs; omega⟩
theorem Off.cell {S : Nat → Prop} {w w' : World} (h : Off S w w') {p : Addr} (hp : p.block < w.heap.size) (hs : ¬ S p.block) : w'.cell? p = w.cell? p := World.cell?_of_block (h.block _ hp hs)
theorem Off.frozen {S : Nat → Prop} {w w' : World} (h : Off S w w') {p : Addr} (hp : p.block < w.heap.size) (hs : ¬ S p.block) : w'.frozen? p = w.frozen? p := World.frozen?_of_block (h.block _ hp hs)
/-- Cells that are read, in no block of S. -/
def RdN (S : Nat → Prop) (w : World) (a : Option Addr) (cs : List Value) : Prop :=
  0 < cs.length → ∃ b off, a = some ⟨b, off, none⟩ ∧ b < w.heap.size ∧ ¬ S b ∧ ∀ j u, cs[j]? = some u → w.cell? ⟨b, off + j, none⟩ = some u
theorem RdN.rd {S : Nat → Prop} {w : World} {a : Option Addr} {cs : List Value} (h : RdN S w a cs) : Rd w w.heap.size a cs := fun h0 => by
  obtain ⟨b, off, ha, hb, _, hc⟩ := h h0; exact ⟨b, off, ha, hb, hc⟩
theorem RdN.off {S S' : Nat → Prop} {w w' : World} {a : Option Addr} {cs : List Value} (h : RdN S w a cs) (ho : Off S w w') (hs : ∀ k, S' k → S k ∨ w.heap.size ≤ k) : RdN S' w' a cs := fun h0 => by
  obtain ⟨b, off, ha, hb, hn, hc⟩ := h h0
  refine ⟨b, off, ha, Nat.lt_of_lt_of_le hb ho.size, fun hk => ?_, fun j u hu => ?_⟩
  · rcases hs b hk with h | h
    · exact hn h
    · omega
  · rw [ho.cell (p := ⟨b, off + j, none⟩) hb hn]; exact hc j u hu
theorem RdN.of {S : Nat → Prop} {w : World} {B : Nat} {a : Option Addr} {cs : List Value} (h : Rd w B a cs) (hB : B ≤ w.heap.size) (hS : ∀ k, S k → B ≤ k) : RdN S w a cs := fun h0 => by
  obtain ⟨b, off, ha, hb, hc⟩ := h h0
  exact ⟨b, off, ha, by omega, fun hs => by have := hS b hs; omega, hc⟩
/-- The blocks that are written, and those that are read, behind an act. -/
structure Did (S R S' R' : Nat → Prop) (w w' : World) : Prop where
  s : ∀ k, S' k → S k ∨ w.heap.size ≤ k
  r : ∀ k, R' k → R k ∨ S k ∨ w.heap.size ≤ k
  off : Off S w w'
theorem Did.rdn {S R S' R' : Nat → Prop} {w w' : World} {a : Option Addr} {cs : List Value} (h : Did S R S' R' w w') (hr : RdN S w a cs) : RdN S' w' a cs := hr.off h.off h.s
theorem Did.trans {S R S1 R1 S2 R2 : Nat → Prop} {w w1 w2 : World} (h1 : Did S R S1 R1 w w1) (h2 : Did S1 R1 S2 R2 w1 w2) : Did S R S2 R2 w w2 := by
  have hs1 := h1.off.size
  refine ⟨fun k hk => ?_, fun k hk => ?_, ⟨h2.off.os.trans h1.off.os, h2.off.tape.trans h1.off.tape, h2.off.output.trans h1.off.output, Nat.le_trans hs1 h2.off.size, fun k hk hn => ?_⟩⟩
  · rcases h2.s k hk with h | h
    · exact h1.s k h
    · exact .inr (by omega)
  · rcases h2.r k hk with h | h | h
    · exact h1.r k h
    · rcases h1.s k h with h | h
      · exact .inr (.inl h)
      · exact .inr (.inr h)
    · exact .inr (.inr (by omega))
  · rw [h2.off.block k (by omega) (fun hk' => by
      rcases h1.s k hk' with h | h
      · exact hn h
      · omega)]
    exact h1.off.block k hk hn
/-- Before an act comes what lays new blocks alone. -/
theorem Did.after {S R S1 R1 : Nat → Prop} {w w0 w1 : World} (hb : Below w.heap.size w w0) (h1 : Did S R S1 R1 w0 w1) : Did S R S1 R1 w w1 :=
  (Did.mk (S' := S) (R' := R) (fun _ h => .inl h) (fun _ h => .inl h) (Off.of_below hb)).trans h1
theorem Did.refl (S R : Nat → Prop) (w : World) : Did S R S R w w := ⟨fun _ h => .inl h, fun _ h => .inl h, Off.refl _ _⟩
/-- No file is too great. -/
def Bnd (m : FSm) : Prop := m.files.length ≤ 1000000 ∧ ∀ x ∈ m.files, SzF 1000000000 x
/-- Bytes that may be read, and written, in new blocks. -/
def NewBytes (w w' : World) (S R : Nat → Prop) (a : Option Addr) (l : List UInt8) : Prop :=
  0 < l.length → ∃ g off, a = some ⟨g, off, none⟩ ∧ w.heap.size ≤ g ∧ g < w'.heap.size ∧ ¬ S g ∧ ¬ R g ∧ w'.rangeAt g off (bV l) ∧ w'.there g off l.length
structure FsKit where
  Fs : World → (Nat → Prop) → (Nat → Prop) → Nat → FSm → Prop
  low : ∀ {w : World} {S R : Nat → Prop} {p : Nat} {m : FSm}, Fs w S R p m → (∀ k, S k → k < w.heap.size) ∧ (∀ k, R k → k < w.heap.size)
  move : ∀ {w w' : World} {S R : Nat → Prop} {p : Nat} {m : FSm}, Fs w S R p m → w.heap.size ≤ w'.heap.size → (∀ k, S k ∨ R k → w'.heap[k]? = w.heap[k]?) → Fs w' S R p m
  ok : ∀ {w : World} {S R : Nat → Prop} {p : Nat} {m : FSm}, Fs w S R p m → m.Ok
  new : ∀ (w : World), Calls Try.prog 10 #[] w fun e w' => ∃ p S R, e = .returned (.pointer (some ⟨p, 0, none⟩)) ∧ Fs w' S R p newF ∧ (∀ k, S k → w.heap.size ≤ k) ∧ (∀ k, R k → w.heap.size ≤ k) ∧ Below w.heap.size w w'
  create : ∀ (w : World) (S R : Nat → Prop) (p : Nat) (m : FSm) (n : Nat), Fs w S R p m → Bnd m → n < 4294967296 → Calls Try.prog 17 #[.pointer (some ⟨p, 0, none⟩), .int .u32 (n : Int)] w fun e w' => ∃ S' R', e = .returned (.int .i64 (createF m n).2) ∧ Fs w' S' R' p (createF m n).1 ∧ Did S R S' R' w w'
  append : ∀ (w : World) (S R : Nat → Prop) (p : Nat) (m : FSm) (n : Nat) (a : Option Addr) (c : Nat) (b : List UInt8), Fs w S R p m → Bnd m → n < 4294967296 → RdN S w a (bV b) → b.length ≤ 1000000000 → b.length ≤ c → c ≤ maxLen →
    Calls Try.prog 18 #[.pointer (some ⟨p, 0, none⟩), .int .u32 (n : Int), .slice a b.length c] w fun e w' => ∃ S' R', e = .returned (.int .i64 (appendF m n (bs b)).2) ∧ Fs w' S' R' p (appendF m n (bs b)).1 ∧ Did S R S' R' w w'
  trunc : ∀ (w : World) (S R : Nat → Prop) (p : Nat) (m : FSm) (n : Nat) (s : Int), Fs w S R p m → Bnd m → n < 4294967296 → -9223372036854775808 ≤ s → s ≤ 9223372036854775807 → Calls Try.prog 23 #[.pointer (some ⟨p, 0, none⟩), .int .u32 (n : Int), .int .i64 s] w fun e w' => ∃ S' R', e = .returned (.int .i64 (truncF m n s).2) ∧ Fs w' S' R' p (truncF m n s).1 ∧ Did S R S' R' w w'
  sync : ∀ (w : World) (S R : Nat → Prop) (p : Nat) (m : FSm) (n : Nat), Fs w S R p m → Bnd m → n < 4294967296 → Calls Try.prog 19 #[.pointer (some ⟨p, 0, none⟩), .int .u32 (n : Int)] w fun e w' => ∃ S' R', e = .returned (.int .i64 (syncF m n).2) ∧ Fs w' S' R' p (syncF m n).1 ∧ Did S R S' R' w w'
  remove : ∀ (w : World) (S R : Nat → Prop) (p : Nat) (m : FSm) (n : Nat), Fs w S R p m → Bnd m → n < 4294967296 → Calls Try.prog 24 #[.pointer (some ⟨p, 0, none⟩), .int .u32 (n : Int)] w fun e w' => ∃ S' R', e = .returned (.int .i64 (removeF m n).2) ∧ Fs w' S' R' p (removeF m n).1 ∧ Did S R S' R' w w'
  read : ∀ (w : World) (S R : Nat → Prop) (p : Nat) (m : FSm) (n : Nat), Fs w S R p m → Bnd m → n < 4294967296 → Calls Try.prog 14 #[.pointer (some ⟨p, 0, none⟩), .int .u32 (n : Int)] w fun e w' => ∃ S' R' a c, e = .returned (.tuple #[.slice a (readF m n).1.size c, .int .i64 (readF m n).2]) ∧ (readF m n).1.size ≤ c ∧ c ≤ maxLen ∧ NewBytes w w' S' R' a (readF m n).1.data.toList ∧ Fs w' S' R' p m ∧ Did S R S' R' w w'
  list : ∀ (w : World) (S R : Nat → Prop) (p : Nat) (m : FSm), Fs w S R p m → Bnd m → Calls Try.prog 13 #[.pointer (some ⟨p, 0, none⟩)] w fun e w' => ∃ S' R' a c, e = .returned (.slice a (numsF false m.files).length c) ∧ (numsF false m.files).length ≤ c ∧ c ≤ maxLen ∧ RdN S' w' a (u32V (numsF false m.files)) ∧ Fs w' S' R' p m ∧ Did S R S' R' w w'
  unsafe_ : ∀ (w : World) (S R : Nat → Prop) (p : Nat) (m : FSm), Fs w S R p m → Bnd m → Calls Try.prog 12 #[.pointer (some ⟨p, 0, none⟩)] w fun e w' => ∃ S' R' a c, e = .returned (.slice a (numsF true m.files).length c) ∧ (numsF true m.files).length ≤ c ∧ c ≤ maxLen ∧ RdN S' w' a (u32V (numsF true m.files)) ∧ Fs w' S' R' p m ∧ Did S R S' R' w w'
  fuse : ∀ (w : World) (S R : Nat → Prop) (p : Nat) (m : FSm) (f : Int), Fs w S R p m → -9223372036854775808 ≤ f → f ≤ 9223372036854775807 → Calls Try.prog 20 #[.pointer (some ⟨p, 0, none⟩), .int .i64 f] w fun e w' => ∃ S' R', e = .returned (.tuple #[]) ∧ Fs w' S' R' p { m with fuse := max f (-1) } ∧ Did S R S' R' w w'
  down : ∀ (w : World) (S R : Nat → Prop) (p : Nat) (m : FSm), Fs w S R p m → Calls Try.prog 16 #[.pointer (some ⟨p, 0, none⟩)] w fun e w' => ∃ S' R', e = .returned (.bool m.down) ∧ Fs w' S' R' p m ∧ Did S R S' R' w w'
  crash : ∀ (w : World) (S R : Nat → Prop) (p : Nat) (m : FSm) (a : Option Addr) (c : Nat) (T : List Ft), Fs w S R p m → Bnd m → RdN S w a (flatG Ft.l T) → T.length ≤ 1000000 → T.length ≤ c → c ≤ maxLen →
    (∀ t ∈ T, RdN S w t.ga (bV t.g) ∧ t.g.length ≤ t.gc ∧ t.gc ≤ maxLen ∧ -9223372036854775808 ≤ t.bytes ∧ t.bytes ≤ 9223372036854775807) →
    Calls Try.prog 15 #[.pointer (some ⟨p, 0, none⟩), .slice a T.length c] w fun e w' => ∃ S' R', e = .returned (.tuple #[]) ∧ Fs w' S' R' p (crashF m T) ∧ Did S R S' R' w w'
  copy : ∀ (w : World) (S R : Nat → Prop) (p : Nat) (m : FSm), Fs w S R p m → Bnd m → Calls Try.prog 40 #[.pointer (some ⟨p, 0, none⟩)] w fun e w' => ∃ S' R' q S2 R2, e = .returned (.pointer (some ⟨q, 0, none⟩)) ∧ Fs w' S' R' p m ∧ Fs w' S2 R2 q m ∧ (∀ k, S' k → ¬ S2 k ∧ ¬ R2 k) ∧ (∀ k, S2 k → w.heap.size ≤ k ∧ ¬ R' k) ∧ (∀ k, R2 k → R k ∨ S k ∨ w.heap.size ≤ k) ∧ Did S R S' R' w w'
end Go.Proofs.Ythfhmohbfoolnaa
