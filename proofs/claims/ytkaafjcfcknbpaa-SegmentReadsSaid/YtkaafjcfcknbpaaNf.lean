import Derived.Test.YtkaafjcfcknbpaaCa
import Derived.Test.YtkaafjcfcknbpaaWb
namespace Go.Proofs.Ytkaafjcfcknbpaa
open Go Go.RowKit

/-- The bytes of the number that is read are those that were read. -/
theorem gN_left (l r : List UInt8) (i : Nat) : ∀ k, i + k ≤ l.length → gN (l ++ r) i k = gN l i k
  | 0, _ => rfl
  | k + 1, h => by
    have e : (l ++ r).getD (i + k) 0 = l.getD (i + k) 0 := by
      simp only [List.getD]; rw [List.getElem?_append_left (by omega)]
    rw [gN, gN, gN_left l r i k (by omega), e]
theorem le_append : ∀ (x y : List UInt8), le (x ++ y) = le x ^^^ 2 ^ (8 * x.length) * le y
  | [], y => by simp [le]
  | c :: x, y => by
    rw [List.cons_append, le, le, le_append x y, add_xor _ c.toNat_lt, add_xor _ c.toNat_lt, List.length_cons, Nat.xor_assoc]
    congr 1
    have h := Nat.shiftLeft_xor_distrib (i := 8) (a := le x) (b := 2 ^ (8 * x.length) * le y)
    rw [Nat.shiftLeft_eq, Nat.shiftLeft_eq, Nat.shiftLeft_eq, Nat.mul_comm _ (2 ^ 8), Nat.mul_comm _ (2 ^ 8), Nat.mul_comm _ (2 ^ 8)] at h
    rw [show (256 : Nat) = 2 ^ 8 from rfl, h, show 8 * (x.length + 1) = 8 + 8 * x.length by omega, Nat.pow_add, Nat.mul_assoc]
theorem le_lt : ∀ (x : List UInt8), le x < 2 ^ (8 * x.length)
  | [] => by simp [le]
  | c :: x => by
    have h := le_lt x
    have hc := c.toNat_lt
    rw [le, List.length_cons, show 8 * (x.length + 1) = 8 + 8 * x.length by omega, Nat.pow_add, show (2 : Nat) ^ 8 = 256 from rfl]
    generalize 2 ^ (8 * x.length) = X at h ⊢
    omega
theorem gN_shift (l : List UInt8) (p : Nat) : ∀ k, gN l p k = gN (l.drop p) 0 k
  | 0 => rfl
  | k + 1 => by
    have e : l.getD (p + k) 0 = (l.drop p).getD (0 + k) 0 := by
      simp only [List.getD]; rw [List.getElem?_drop, Nat.zero_add]
    rw [gN, gN, gN_shift l p k, e]
theorem gN_cons (c : UInt8) (l : List UInt8) : ∀ k, gN (c :: l) 0 (k + 1) = c.toNat + 256 * gN l 0 k
  | 0 => by simp [gN, List.getD]
  | k + 1 => by
    have e : (c :: l).getD (0 + (k + 1)) 0 = l.getD (0 + k) 0 := by simp [List.getD]
    rw [gN, gN_cons c l k, e, gN, show 8 * (k + 1) = 8 * k + 8 by omega, Nat.pow_add, show (2 : Nat) ^ 8 = 256 from rfl, Nat.mul_add, ← Nat.mul_assoc (l.getD (0 + k) 0).toNat, Nat.mul_comm ((l.getD (0 + k) 0).toNat * 2 ^ (8 * k)) 256]
    omega
theorem gN_le0 : ∀ (l : List UInt8) (k : Nat), k ≤ l.length → gN l 0 k = le (l.take k)
  | l, 0, _ => by simp [gN, le]
  | [], k + 1, h => by simp at h
  | c :: l, k + 1, h => by rw [gN_cons, List.take_succ_cons, le, gN_le0 l k (by simpa using h)]
/-- The number at a place is that of its bytes. -/
theorem gN_le (l : List UInt8) (p k : Nat) (h : p + k ≤ l.length) : gN l p k = le ((l.drop p).take k) := by
  rw [gN_shift, gN_le0 _ _ (by rw [List.length_drop]; omega)]
end Go.Proofs.Ytkaafjcfcknbpaa

