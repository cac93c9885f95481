import Derived.Test.YtkaafjcfcknbpaaRn
namespace Go.Proofs.Ytkaafjcfcknbpaa
open Go Go.RowKit

theorem le_inj : ∀ {x y : List UInt8}, x.length = y.length → le x = le y → x = y
  | [], [], _, _ => rfl
  | [], _ :: _, h, _ => by simp at h
  | _ :: _, [], h, _ => by simp at h
  | a :: x, b :: y, h, e => by
    have ha := a.toNat_lt
    have hb := b.toNat_lt
    rw [le, le] at e
    have e1 : a.toNat = b.toNat := by omega
    have e2 : le x = le y := by omega
    rw [UInt8.toNat_inj.1 e1, le_inj (by simpa using h) e2]
theorem mul_xor (a x y : Nat) : 2 ^ a * (x ^^^ y) = 2 ^ a * x ^^^ 2 ^ a * y := by
  have := Nat.shiftLeft_xor_distrib (i := a) (a := x) (b := y)
  rw [Nat.shiftLeft_eq, Nat.shiftLeft_eq, Nat.shiftLeft_eq, Nat.mul_comm _ (2 ^ a), Nat.mul_comm _ (2 ^ a), Nat.mul_comm _ (2 ^ a)] at this
  exact this
theorem told_step {l m : List UInt8} {first E k I J : Nat} (h : le m = le l ^^^ 2 ^ first * E) (hI : I < m.length) (hJ : J < 8) (hT : 8 * I + J = first + k) {c : UInt8} (hc : c.toNat = m[I].toNat ^^^ 2 ^ J) :
    le (m.set I c) = le l ^^^ 2 ^ first * (E ^^^ 2 ^ k) := by
  rw [le_set m I hI J hJ c hc, h, hT, mul_xor, Nat.xor_assoc, Nat.pow_add]
theorem told_lt {E k : Nat} (h : E < 2 ^ k) : E ^^^ 2 ^ k < 2 ^ (k + 1) :=
  Nat.xor_lt_two_pow (Nat.lt_of_lt_of_le h (Nat.pow_le_pow_right (by omega) (by omega))) (Nat.pow_lt_pow_right (by omega) (by omega))
theorem told_ne {E k : Nat} (h : E < 2 ^ k) : E ^^^ 2 ^ k ≠ 0 := fun h0 => by
  have := congrArg (· ^^^ 2 ^ k) h0
  simp [Nat.xor_assoc] at this
  omega
theorem bV_set (m : List UInt8) (i : Nat) (n : UInt8) : bV (m.set i n) = (bV m).set i (.int .u8 (n.toNat : Int)) := by simp [bV, List.map_set]
theorem bit_of (B : Nat) (hB : B < 4294967296) : bits BinOp.and IntKind.u32 (B : Int) 1 = ((B % 2 : Nat) : Int) := by
  rw [← nat_mask1]; exact u32_and_nat B 1 hB (by omega)
/-- Bytes that are turned within n of them alone, from o on, as the bits of E say, from bit f of these on. -/
def Turned (L m : List UInt8) (o n f E : Nat) : Prop :=
  m.length = L.length ∧ m.take o = L.take o ∧ m.drop (o + n) = L.drop (o + n) ∧ le ((m.drop o).take n) = le ((L.drop o).take n) ^^^ 2 ^ f * E
theorem Turned.start (L : List UInt8) (o n f : Nat) : Turned L L o n f 0 := ⟨rfl, rfl, rfl, by simp⟩
theorem Turned.next {L m : List UInt8} {o n f E k I J : Nat} (h : Turned L m o n f E) (hn : o + n ≤ L.length) (h1 : o ≤ I) (h2 : I < o + n) (hJ : J < 8) (hT : 8 * (I - o) + J = f + k) {c : UInt8} (hIm : I < m.length) (hc : c.toNat = m[I].toNat ^^^ 2 ^ J) :
    Turned L (m.set I c) o n f (E ^^^ 2 ^ k) := by
  obtain ⟨g1, g2, g3, g4⟩ := h
  refine ⟨by rw [List.length_set]; exact g1, ?_, ?_, ?_⟩
  · rw [List.take_set_of_le (by omega)]; exact g2
  · rw [List.drop_set_of_lt (by omega)]; exact g3
  · have e : ((m.set I c).drop o).take n = ((m.drop o).take n).set (I - o) c := by
      rw [List.drop_set, if_neg (by omega), List.take_set]
    rw [e]
    refine told_step g4 (by rw [List.length_take, List.length_drop]; omega) hJ hT ?_
    rw [hc]
    simp only [List.getElem_take, List.getElem_drop]
    congr 3
    omega
theorem Turned.same {L m : List UInt8} {o n f : Nat} (h : Turned L m o n f 0) : m = L := by
  obtain ⟨g1, g2, g3, g4⟩ := h
  rw [Nat.mul_zero, Nat.xor_zero] at g4
  have g5 := le_inj (by rw [List.length_take, List.length_take, List.length_drop, List.length_drop, g1]) g4
  have e : ∀ x : List UInt8, x = x.take o ++ ((x.drop o).take n ++ x.drop (o + n)) := fun x => by
    rw [← List.drop_drop, List.take_append_drop, List.take_append_drop]
  rw [e m, e L, g2, g3, g5]
theorem xor_ne {a b : Nat} (h : b ≠ 0) : a ≠ a ^^^ b := fun e => h (by
  have := congrArg (a ^^^ ·) e
  simpa [← Nat.xor_assoc] using this.symm)
theorem frL_two (l : List UInt8) : (frL l).take 2 = putL l.length 2 := frL_head (s := frL l) (by rw [← frL_length, List.take_length])
theorem frL_four (l : List UInt8) : gN (frL l) 2 4 = sumF (putL l.length 2) l := frL_sum (s := frL l) (by rw [← frL_length, List.take_length])
theorem frL_rest (l : List UInt8) : (frL l).drop 6 = l := by rw [frL, dropA _ _ _ _ (by omega), dropA _ _ _ _ (by omega), List.drop_zero]
/-- A frame of which the length stays, and whose sum is not that of its body: its sum is wrong. -/
theorem gotF_sum {l m : List UInt8} (hl : mayF l.length = true) (hm : m.length = (frL l).length) (h2 : m.take 2 = putL l.length 2) (hs : sumF (putL l.length 2) (m.drop 6) ≠ gN m 2 4) : gotF m 0 = .error 8 := by
  have hb := mayF_iff.1 hl
  rw [frL_length] at hm
  have hn : gN m 0 2 = l.length := by
    rw [gN_slab (l := m) (p := 0) (k := 2) (n := l.length) (by rw [List.drop_zero]; exact h2)]; omega
  have h := gotF_at (l := m) (q := 0) (by omega)
  rw [List.drop_zero] at h
  rw [show (0 : Int) = ((0 : Nat) : Int) from rfl, h]
  refine firstF_sum (by rw [hn]; exact hl) (by rw [hn]; omega) ?_
  rw [hn, h2, List.take_of_length_le (by rw [List.length_drop]; omega)]
  exact hs
theorem told_sum {l m : List UInt8} {f E : Nat} (hl : mayF l.length = true) (h : Turned (frL l) m 2 4 f E) (hE : E ≠ 0) : gotF m 0 = .error 8 := by
  obtain ⟨g1, g2, g3, g4⟩ := h
  have hb := mayF_iff.1 hl
  have hlen := g1
  rw [frL_length] at hlen
  refine gotF_sum hl g1 (by rw [g2, frL_two]) ?_
  rw [g3, frL_rest, gN_le m 2 4 (by omega), g4, ← gN_le (frL l) 2 4 (by rw [frL_length]; omega), frL_four]
  exact xor_ne (Nat.mul_ne_zero (by have := Nat.pow_pos (n := f) (show 0 < 2 by omega); omega) hE)
theorem told_body {l m : List UInt8} {f E : Nat} (hl : mayF l.length = true) (h : Turned (frL l) m 6 l.length f E) (hf : f ≤ 8 * l.length) (hE : E ≠ 0) (hE2 : E < 4294967296) : gotF m 0 = .error 8 := by
  obtain ⟨g1, g2, g3, g4⟩ := h
  have hb := mayF_iff.1 hl
  have hlen := g1
  rw [frL_length] at hlen
  have h2 : m.take 2 = putL l.length 2 := by
    have := congrArg (List.take 2) g2
    rw [List.take_take, List.take_take] at this
    rw [← frL_two]; exact this
  have h4 : gN m 2 4 = sumF (putL l.length 2) l := by
    have e : (m.drop 2).take 4 = ((frL l).drop 2).take 4 := by
      have := congrArg (List.drop 2) g2
      rw [List.drop_take, List.drop_take] at this
      exact this
    rw [gN_le m 2 4 (by omega), e, ← gN_le (frL l) 2 4 (by rw [frL_length]; omega), frL_four]
  refine gotF_sum hl g1 h2 ?_
  rw [frL_rest, List.take_of_length_le (by rw [List.length_drop]; omega), List.take_of_length_le (by omega)] at g4
  rw [h4]
  intro e
  have e1 : le (putL l.length 2 ++ m.drop 6) = le (putL l.length 2 ++ l) ^^^ 2 ^ (16 + f) * E := by
    rw [le_append, le_append, g4, putL_length, mul_xor, Nat.xor_assoc, Nat.pow_add, Nat.mul_assoc]
  refine hE ((told (l := putL l.length 2 ++ l) (m := putL l.length 2 ++ m.drop 6) (by simp; omega) (first := 16 + f) (by rw [List.length_append, putL_length]; omega) hE2 e1).1 e)
end Go.Proofs.Ytkaafjcfcknbpaa

