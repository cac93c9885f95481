import Derived.Test.YtkaafjcfcknbpaaMi
import Derived.Test.YtkaafjcfcknbpaaRl
namespace Go.Proofs.Ytkaafjcfcknbpaa
open Go Go.RowKit Go.Sort

/-! SegmentTold: a burst of up to 32 bits in a head. -/
theorem xor_mid (a c i : Nat) : a ^^^ (c ^^^ (i ^^^ a)) = c ^^^ i := by
  rw [Nat.xor_comm i a, ← Nat.xor_assoc c, Nat.xor_comm c a, Nat.xor_assoc a, ← Nat.xor_assoc a a, Nat.xor_self, Nat.zero_xor]
theorem more_le (l : List UInt8) : moreL 0 l = 4294967295 ^^^ (stN (8 * l.length) (inv 0) ^^^ stN (8 * l.length) (le l)) := by
  unfold moreL
  rw [inv_xor (crc_lt _ (inv_lt 0)), crc_le, stN_xor]
/-- What is turned within 32 bits of bytes and their sum behind them: the sum is no more that of the bytes. -/
theorem burst {x s x' s' : List UInt8} {f E : Nat} (hl : x'.length = x.length) (hs : le s = moreL 0 x) (hs' : le s' = moreL 0 x') (h : le (x' ++ s') = le (x ++ s) ^^^ 2 ^ f * E) (hE : E < 4294967296) : E = 0 := by
  rw [le_append, le_append, hl, hs, hs', more_le, more_le, hl] at h
  have e : 2 ^ f * E = (le x ^^^ 2 ^ (8 * x.length) * (4294967295 ^^^ (stN (8 * x.length) (inv 0) ^^^ stN (8 * x.length) (le x)))) ^^^ (le x' ^^^ 2 ^ (8 * x.length) * (4294967295 ^^^ (stN (8 * x.length) (inv 0) ^^^ stN (8 * x.length) (le x')))) := by
    rw [h, ← Nat.xor_assoc, Nat.xor_self, Nat.zero_xor]
  have k := congrArg (stN (8 * x.length)) e
  rw [stN_xor, stN_xor, stN_xor, stN_mul, stN_mul, xor_mid, xor_mid, Nat.xor_self] at k
  by_cases hf : f ≤ 8 * x.length
  · rw [show 8 * x.length = f + (8 * x.length - f) by omega, stN_add, stN_mul] at k
    exact stN_zero _ hE k
  · rw [show f = 8 * x.length + (f - 8 * x.length) by omega, Nat.pow_add, Nat.mul_assoc, stN_mul] at k
    rcases Nat.mul_eq_zero.1 k with k | k
    · have := Nat.pow_pos (n := f - 8 * x.length) (show 0 < 2 by omega); omega
    · exact k
theorem head_told {n k f E : Nat} {m : List UInt8} (h : Turned (headL n k) m 0 14 f E) (hE : E ≠ 0) (hE2 : E < 4294967296) : headOf m = .error 3 ∨ headOf m = .error 8 := by
  obtain ⟨g1, _, _, g4⟩ := h
  rw [headL_length] at g1
  rw [List.drop_zero, List.drop_zero, List.take_of_length_le (by omega), List.take_of_length_le (by rw [headL_length]; omega)] at g4
  by_cases h4 : m.take 4 = let7
  · by_cases h8 : moreL 0 (m.take 10) = gN m 10 4
    · exfalso
      refine hE (burst (x := hd10 n k) (s := putL (moreL 0 (hd10 n k)) 4) (x' := m.take 10) (s' := m.drop 10) (f := f) (by rw [List.length_take, hd10_length]; omega) ?_ ?_ ?_ hE2)
      · have e := gN_le (headL n k) 10 4 (by rw [headL_length]; omega)
        have e2 := headL_sum n k []
        rw [List.append_nil, e] at e2
        have e3 : ((headL n k).drop 10).take 4 = putL (moreL 0 (hd10 n k)) 4 := by
          rw [headL, List.drop_append_of_le_length (by rw [hd10_length]; omega), List.drop_of_length_le (by rw [hd10_length]; omega), List.nil_append, List.take_of_length_le (by rw [putL_length]; omega)]
        rw [e3] at e2; exact e2
      · rw [h8, gN_le m 10 4 (by omega), List.take_of_length_le (by rw [List.length_drop]; omega)]
      · rw [List.take_append_drop]; exact g4
    · exact .inr (headOf_sum (by omega) h4 h8)
  · exact .inl (headOf_form (by omega) h4)
end Go.Proofs.Ytkaafjcfcknbpaa
