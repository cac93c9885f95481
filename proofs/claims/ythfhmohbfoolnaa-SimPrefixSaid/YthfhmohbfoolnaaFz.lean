import Derived.Test.YthfhmohbfoolnaaFx
import Derived.Test.YthfhmohbfoolnaaFu
namespace Go.Proofs.Ythfhmohbfoolnaa
open Go Go.RowKit Go.Sort

/-! SimPrefix: what stands behind k parts; the row of all that was written. -/
/-- Bytes that came in. -/
structure Pt where
  a : Option Addr
  c : Nat
  b : List UInt8
deriving Inhabited
def Pt.l (p : Pt) : List Value := [.slice p.a p.b.length p.c]
def PtArg (w : World) (p : Pt) : Prop := Rd w w.heap.size p.a (bV p.b) ∧ p.b.length ≤ p.c ∧ p.c ≤ maxLen
theorem part_elem {w : World} {B : Nat} {a : Option Addr} {L : List Pt} (h : Rd w B a (flatG Pt.l L)) {i : Nat} (hi : i < L.length) : ∃ b off, a = some ⟨b, off, none⟩ ∧ b < B ∧ w.cell? ⟨b, off + i, none⟩ = some (.slice L[i].a L[i].b.length L[i].c) := by
  obtain ⟨b, off, ha, hb, hc⟩ := Rd.elemG (enc := Pt.l) (m := 1) (fun _ => rfl) (by omega) h hi
  have := hc 0 _ rfl
  rw [Nat.mul_one, Nat.add_zero] at this
  exact ⟨b, off, ha, hb, this⟩
/-- All the bytes behind k of the further parts. -/
def allK (b : List UInt8) (T : List Pt) (k : Nat) : List UInt8 := b ++ (T.take k).flatMap Pt.b
theorem allK_zero (b : List UInt8) (T : List Pt) : allK b T 0 = b := by simp [allK]
theorem allK_succ (b : List UInt8) (T : List Pt) {k : Nat} (hk : k < T.length) : allK b T (k + 1) = allK b T k ++ T[k].b := by
  unfold allK
  rw [← List.take_append_getElem hk, List.flatMap_append, ← List.append_assoc]
  simp
theorem allK_length {b : List UInt8} {T : List Pt} (hb : b.length ≤ 200) : ∀ {k : Nat}, k ≤ T.length → (∀ j, (h : j < T.length) → j < k → T[j].b.length ≤ 200) → (allK b T k).length ≤ 200 * (k + 1) ∧ b.length ≤ (allK b T k).length := by
  intro k
  induction k with
  | zero => intro _ _; rw [allK_zero]; omega
  | succ k ih =>
    intro hk h
    obtain ⟨h1, h2⟩ := ih (by omega) (fun j hj hjk => h j hj (by omega))
    have h3 := h k (by omega) (by omega)
    rw [allK_succ b T (by omega), List.length_append]
    omega
theorem allK_split (b : List UInt8) (T : List Pt) (k : Nat) : bs (allK b T k) = bs b ++ bs ((T.take k).flatMap Pt.b) := by
  rw [bs_append]; rfl
/-- The file system behind k of the further parts, the fuse at f. -/
def stK (b : List UInt8) (T : List Pt) (f k : Nat) : FSm := oneF (bs b) (bs (allK b T (min k (f + 1)))) (if k ≤ f then ((f - k : Nat) : Int) else 0) (decide (f < k))
theorem stK_zero (b : List UInt8) (T : List Pt) (f : Nat) : stK b T f 0 = oneF (bs b) (bs b) (f : Int) false := by
  simp [stK, allK_zero]
theorem stK_step (b : List UInt8) (T : List Pt) (f : Nat) {k : Nat} (hk : k < T.length) : appendF (stK b T f k) 3 (bs T[k].b) = (stK b T f (k + 1), if k < f then 0 else 7) := by
  unfold stK
  rw [one_append]
  have m1 : ∀ j, j ≤ f + 1 → min j (f + 1) = j := fun j hj => Nat.min_eq_left hj
  have m2 : ∀ j, f + 1 ≤ j → min j (f + 1) = f + 1 := fun j hj => Nat.min_eq_right hj
  rcases Nat.lt_trichotomy k f with h | h | h
  · have e1 : decide (f < k) = false := decide_eq_false (by omega)
    have e2 : decide (f < k + 1) = false := decide_eq_false (by omega)
    have e3 : (if k ≤ f then ((f - k : Nat) : Int) else 0) = ((f - k : Nat) : Int) := if_pos (by omega)
    have e4 : (if k + 1 ≤ f then ((f - (k + 1) : Nat) : Int) else 0) = ((f - (k + 1) : Nat) : Int) := if_pos (by omega)
    have e5 : ¬ ((f - k : Nat) : Int) = 0 := by omega
    have e6 : (0 : Int) < ((f - k : Nat) : Int) := by omega
    have e7 : ((f - k : Nat) : Int) - 1 = ((f - (k + 1) : Nat) : Int) := by omega
    rw [e1, e2, e3, e4, if_neg (show ¬ (false = true) by decide), if_neg e5, if_pos e6, e7, if_pos h, m1 k (by omega), m1 (k + 1) (by omega), allK_succ b T hk, bs_append]
  · subst h
    have e1 : decide (k < k) = false := decide_eq_false (by omega)
    have e2 : decide (k < k + 1) = true := decide_eq_true (by omega)
    have e3 : (if k ≤ k then ((k - k : Nat) : Int) else 0) = 0 := by simp
    have e4 : (if k + 1 ≤ k then ((k - (k + 1) : Nat) : Int) else 0) = 0 := if_neg (by omega)
    rw [e1, e2, e3, e4, if_neg (show ¬ (false = true) by decide), if_pos rfl, if_neg (show ¬ k < k by omega), m1 k (by omega), m1 (k + 1) (by omega), allK_succ b T hk, bs_append]
  · have e1 : decide (f < k) = true := decide_eq_true (by omega)
    have e2 : decide (f < k + 1) = true := decide_eq_true (by omega)
    have e3 : (if k ≤ f then ((f - k : Nat) : Int) else 0) = 0 := if_neg (by omega)
    have e4 : (if k + 1 ≤ f then ((f - (k + 1) : Nat) : Int) else 0) = 0 := if_neg (by omega)
    rw [e1, e2, e3, e4, if_pos rfl, if_neg (show ¬ k < f by omega), m2 k (by omega), m2 (k + 1) (by omega)]
theorem info_u8' : (Try.prog.info? 5).map (fun i => (i.zero, i.size, i.bytes)) = some (some (.int .u8 0), 1, 1) := by kernel_rfl
/-- Where the law stands: the file system, and the fate in its block. -/
structure Q6 (K : FsKit) (w wr : World) (p : Nat) (S R : Nat → Prop) (m : FSm) (kp : Bool) (tb : Int) (ga : Option Addr) (gl gc : Nat) : Prop where
  fs : K.Fs wr S R p m
  bw : Below w.heap.size w wr
  lo : ∀ k, S k → w.heap.size + 1 ≤ k
  sz : w.heap.size + 1 ≤ wr.heap.size
  t0 : wr.cell? ⟨w.heap.size, 0, none⟩ = some (.bool kp)
  t1 : wr.cell? ⟨w.heap.size, 1, none⟩ = some (.int .i64 tb)
  t2 : wr.cell? ⟨w.heap.size, 2, none⟩ = some (.slice ga gl gc)
theorem Q6.did {K : FsKit} {w wr w' : World} {p : Nat} {S R S' R' : Nat → Prop} {m m' : FSm} {kp : Bool} {tb : Int} {ga : Option Addr} {gl gc : Nat} (h : Q6 K w wr p S R m kp tb ga gl gc) (hf : K.Fs w' S' R' p m') (hd : Did S R S' R' wr w') : Q6 K w w' p S' R' m' kp tb ga gl gc := by
  have hs := h.sz
  have hn : ¬ S w.heap.size := fun hk => by have := h.lo _ hk; omega
  exact { fs := hf
          bw := h.bw.trans (hd.off.below h.bw.size (fun k hk => by have := h.lo k hk; omega))
          lo := fun k hk => (hd.s k hk).elim (h.lo k) (fun h' => Nat.le_trans hs h')
          sz := Nat.le_trans hs hd.off.size
          t0 := by rw [hd.off.cell (p := ⟨w.heap.size, 0, none⟩) (by show w.heap.size < _; omega) hn]; exact h.t0
          t1 := by rw [hd.off.cell (p := ⟨w.heap.size, 1, none⟩) (by show w.heap.size < _; omega) hn]; exact h.t1
          t2 := by rw [hd.off.cell (p := ⟨w.heap.size, 2, none⟩) (by show w.heap.size < _; omega) hn]; exact h.t2 }
theorem Q6.rdn {K : FsKit} {w wr : World} {p : Nat} {S R : Nat → Prop} {m : FSm} {kp : Bool} {tb : Int} {ga : Option Addr} {gl gc : Nat} (h : Q6 K w wr p S R m kp tb ga gl gc) {a : Option Addr} {cs : List Value} (hr : Rd w w.heap.size a cs) : RdN S wr a cs :=
  RdN.of (hr.below h.bw) h.bw.size (fun k hk => by have := h.lo k hk; omega)
/-- The row of all the bytes: the law's own, apart from the file system's blocks. -/
structure AllAt (w wr : World) (S R : Nat → Prop) (va : Value) (L : List UInt8) : Prop where
  own : wr.ownsRow (w.heap.size + 1) 5 1 va L.length (bV L)
  apart : ∀ g, va.ownBlock = some g → ¬ S g ∧ ¬ R g
theorem AllAt.did {w wr w' : World} {S R S' R' : Nat → Prop} {va : Value} {L : List UInt8} (h : AllAt w wr S R va L) (hd : Did S R S' R' wr w') : AllAt w w' S' R' va L := by
  obtain ⟨⟨h1, h2⟩, h3⟩ := h
  rcases h2 with ⟨hv, hn⟩ | ⟨g, cap, cur, hv, hB, hg, rest⟩
  · exact ⟨⟨h1, .inl ⟨hv, hn⟩⟩, fun g hg => by rw [hv] at hg; cases hg⟩
  · have hlt : g < wr.heap.size := (Array.getElem?_eq_some_iff.1 hg).1
    have ha := h3 g (by rw [hv]; rfl)
    refine ⟨⟨h1, .inr ⟨g, cap, cur, hv, hB, by rw [hd.off.block g hlt ha.1]; exact hg, rest⟩⟩, fun g' hg' => ?_⟩
    have : g' = g := by rw [hv] at hg'; simpa [Value.ownBlock] using hg'.symm
    subst this
    exact ⟨fun hs => (hd.s _ hs).elim ha.1 (fun h => by omega), fun hr => (hd.r _ hr).elim ha.2 (fun h => h.elim ha.1 (fun h => by omega))⟩
/-- Behind an append to the row: it, and the file system beside it. -/
theorem Q6.grown {K : FsKit} {w wr w' : World} {p : Nat} {S R : Nat → Prop} {m : FSm} {kp : Bool} {tb : Int} {ga : Option Addr} {gl gc : Nat} {va va' : Value} {L L' : List UInt8}
    (h : Q6 K w wr p S R m kp tb ga gl gc) (ha : AllAt w wr S R va L) (ho : w'.ownsRow (w.heap.size + 1) 5 1 va' L'.length (bV L')) (hg : wr.grownBy w' va.ownBlock) (hv : ∀ g, va'.ownBlock = some g → va.ownBlock = some g ∨ wr.heap.size ≤ g) :
    Q6 K w w' p S R m kp tb ga gl gc ∧ AllAt w w' S R va' L' := by
  have hlow := K.low h.fs
  have hb : ∀ g, va.ownBlock = some g → w.heap.size + 1 ≤ g := fun g hg => (own_shape ha.own hg).1
  have hsz := h.sz
  have hk : ∀ k, k < w.heap.size + 1 → w'.heap[k]? = wr.heap[k]? := fun k hk => hg.block k (by omega) (fun e => by have := hb k e.symm; omega)
  refine ⟨{ fs := K.move h.fs hg.size (fun k hk => ?_), bw := ?_, lo := h.lo, sz := Nat.le_trans hsz hg.size, t0 := ?_, t1 := ?_, t2 := ?_ }, ⟨ho, fun g hg' => ?_⟩⟩
  · refine hg.block k (hk.elim (hlow.1 k) (hlow.2 k)) (fun e => ?_)
    have := ha.apart k e.symm
    exact hk.elim this.1 this.2
  · exact h.bw.trans ⟨hg.os, hg.tape, hg.output, hg.size, fun k h' => hk k (by omega)⟩
  · rw [World.cell?_of_block (a := ⟨w.heap.size, 0, none⟩) (hk _ (by show w.heap.size < _; omega))]; exact h.t0
  · rw [World.cell?_of_block (a := ⟨w.heap.size, 1, none⟩) (hk _ (by show w.heap.size < _; omega))]; exact h.t1
  · rw [World.cell?_of_block (a := ⟨w.heap.size, 2, none⟩) (hk _ (by show w.heap.size < _; omega))]; exact h.t2
  · rcases hv g hg' with h' | h'
    · exact ha.apart g h'
    · exact ⟨fun hs => by have := hlow.1 g hs; omega, fun hr => by have := hlow.2 g hr; omega⟩
/-- What is read behind the crash: the safe part, and a first part of the rest. -/
theorem stK_read (b : List UInt8) (T : List Pt) (f k : Nat) (t : Ft) : ∃ R : List UInt8, readF (crashF (stK b T f k) [t]) 3 = (bs R, 0) ∧ R.length = b.length + min (max t.bytes 0).toNat ((allK b T (min k (f + 1))).length - b.length) ∧
    ∀ i, i < R.length → (i < b.length ∨ i + 16 < R.length) → R[i]? = (allK b T (min k (f + 1)))[i]? := by
  have hsp := allK_split b T (min k (f + 1))
  have hle : b.length ≤ (allK b T (min k (f + 1))).length := by unfold allK; rw [List.length_append]; omega
  unfold stK
  rw [one_crash hsp, bs_toList, bs_size]
  generalize allK b T (min k (f + 1)) = A at *
  by_cases h : bs A = bs b
  · have hA := bs_inj h
    rw [if_pos h]
    exact ⟨b, rfl, by rw [hA]; simp, fun i _ _ => by rw [hA]⟩
  · rw [if_neg h]
    exact ⟨_, rfl, partF_len A b.length t.bytes t.g hle, fun i hi h2 => partF_at A b.length t.bytes t.g hle i hi h2⟩
end Go.Proofs.Ythfhmohbfoolnaa
