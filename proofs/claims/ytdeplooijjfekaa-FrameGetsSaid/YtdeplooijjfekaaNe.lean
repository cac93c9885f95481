import Derived.Test.YtdeplooijjfekaaNd
import Derived.Test.YtdeplooijjfekaaCa
namespace Go.Proofs.Ytdeplooijjfekaa
open Go Go.RowKit

theorem byt_of_gN (l : List UInt8) (at_ : Nat) : ∀ k, ∀ i < k, byt (gN l at_ k) i = l.getD (at_ + i) 0
  | 0, i, h => by omega
  | k + 1, i, h => by
    apply UInt8.toNat_inj.1
    rw [byt_nat, gN]
    by_cases hi : i < k
    · have ih := byt_of_gN l at_ k i hi
      rw [← ih, byt_nat]
      have e : (l.getD (at_ + k) 0).toNat * 2 ^ (8 * k) = 2 ^ (8 * i) * (256 * ((l.getD (at_ + k) 0).toNat * 2 ^ (8 * (k - i - 1)))) := by
        rw [show 8 * k = 8 * i + (8 + 8 * (k - i - 1)) by omega, Nat.pow_add, Nat.pow_add, show (2 : Nat) ^ 8 = 256 from rfl]
        simp only [← Nat.mul_assoc]; rw [Nat.mul_comm (l.getD (at_ + k) 0).toNat]; simp only [Nat.mul_assoc]; rw [Nat.mul_left_comm (l.getD (at_ + k) 0).toNat]
      rw [e, Nat.add_mul_div_left _ _ (Nat.pow_pos (by omega))]
      omega
    · obtain rfl : i = k := by omega
      have hlt := gN_lt l at_ i
      rw [Nat.add_mul_div_right _ _ (Nat.pow_pos (by omega)), Nat.div_eq_of_lt hlt, Nat.zero_add]
      exact Nat.mod_eq_of_lt (UInt8.toNat_lt _)
/-- The bytes of the number that is read are those that were read. -/
theorem putL_gN (l : List UInt8) (p k : Nat) (h : p + k ≤ l.length) : putL (gN l p k) k = (l.drop p).take k := by
  apply List.ext_getElem
  · rw [putL_length, List.length_take, List.length_drop]; omega
  · intro i h1 h2
    rw [putL_length] at h1
    simp only [putL, List.getElem_map, List.getElem_range, List.getElem_take, List.getElem_drop]
    rw [byt_of_gN l p k i h1, getD_lt (by omega)]
theorem gN_of (l : List UInt8) (p n : Nat) : ∀ k, (∀ i < k, l.getD (p + i) 0 = byt n i) → gN l p k = n % 2 ^ (8 * k)
  | 0, _ => by rw [gN, Nat.mul_zero, Nat.pow_zero, Nat.mod_one]
  | k + 1, h => by
    rw [gN, gN_of l p n k (fun i hi => h i (by omega)), h k (by omega), byt_nat, show 8 * (k + 1) = 8 * k + 8 by omega, Nat.pow_add, Nat.mod_mul, Nat.mul_comm (2 ^ (8 * k)), show (2 : Nat) ^ 8 = 256 from rfl]
theorem getD_drop_take (l : List UInt8) (p k i : Nat) (h : i < k) : ((l.drop p).take k).getD i 0 = l.getD (p + i) 0 := by
  simp only [List.getD]
  rw [List.getElem?_take_of_lt h, List.getElem?_drop]
theorem gN_slab {l : List UInt8} {p n k : Nat} (h : (l.drop p).take k = putL n k) : gN l p k = n % 2 ^ (8 * k) :=
  gN_of l p n k fun i hi => by
    rw [← getD_drop_take l p k i hi, h]
    simp [List.getD, putL, hi]
theorem slab {l F : List UInt8} {p n off k : Nat} (h : (l.drop p).take n = F) (hk : off + k ≤ n) : (l.drop (p + off)).take k = (F.drop off).take k := by
  subst h
  rw [List.drop_take, List.take_take, List.drop_drop]
  congr 1; omega
theorem dropA (n k m : Nat) (R : List UInt8) (h : k ≤ m) : (putL n k ++ R).drop m = R.drop (m - k) := by
  rw [List.drop_append, List.drop_of_length_le (by rw [putL_length]; exact h), List.nil_append, putL_length]
theorem takeA (n k : Nat) (R : List UInt8) : (putL n k ++ R).take k = putL n k := by
  rw [List.take_append, putL_length, Nat.sub_self, List.take_zero, List.append_nil, List.take_of_length_le (by rw [putL_length]; exact Nat.le_refl _)]
theorem i64_small {n : Nat} (h : n < 9223372036854775808) : IntKind.i64.wrap (n : Int) = (n : Int) := IntWalk.i64_in _ ⟨by omega, by omega⟩
theorem gN_left (l r : List UInt8) (i : Nat) : ∀ k, i + k ≤ l.length → gN (l ++ r) i k = gN l i k
  | 0, _ => rfl
  | k + 1, h => by
    have e : (l ++ r).getD (i + k) 0 = l.getD (i + k) 0 := by
      simp only [List.getD]; rw [List.getElem?_append_left (by omega)]
    rw [gN, gN, gN_left l r i k (by omega), e]
theorem le_append : ∀ (x y : List UInt8), le (x ++ y) = le x ^^^ 2 ^ (8 * x.length) * le y
  | [], y => by simp [le]
  | c :: x, y => by
    rw [List.cons_append, le, le, le_append x y, add_xor _ c.toNat_lt, add_xor _ c.toNat_lt, List.length_cons, Nat.xor_assoc]
    congr 1
    have h := Nat.shiftLeft_xor_distrib (i := 8) (a := le x) (b := 2 ^ (8 * x.length) * le y)
    rw [Nat.shiftLeft_eq, Nat.shiftLeft_eq, Nat.shiftLeft_eq, Nat.mul_comm _ (2 ^ 8), Nat.mul_comm _ (2 ^ 8), Nat.mul_comm _ (2 ^ 8)] at h
    rw [show (256 : Nat) = 2 ^ 8 from rfl, h, show 8 * (x.length + 1) = 8 + 8 * x.length by omega, Nat.pow_add, Nat.mul_assoc]
theorem le_lt : ∀ (x : List UInt8), le x < 2 ^ (8 * x.length)
  | [] => by simp [le]
  | c :: x => by
    have h := le_lt x
    have hc := c.toNat_lt
    rw [le, List.length_cons, show 8 * (x.length + 1) = 8 + 8 * x.length by omega, Nat.pow_add, show (2 : Nat) ^ 8 = 256 from rfl]
    generalize 2 ^ (8 * x.length) = X at h ⊢
    omega
theorem gN_shift (l : List UInt8) (p : Nat) : ∀ k, gN l p k = gN (l.drop p) 0 k
  | 0 => rfl
  | k + 1 => by
    have e : l.getD (p + k) 0 = (l.drop p).getD (0 + k) 0 := by
      simp only [List.getD]; rw [List.getElem?_drop, Nat.zero_add]
    rw [gN, gN, gN_shift l p k, e]
theorem gN_cons (c : UInt8) (l : List UInt8) : ∀ k, gN (c :: l) 0 (k + 1) = c.toNat + 256 * gN l 0 k
  | 0 => by simp [gN, List.getD]
  | k + 1 => by
    have e : (c :: l).getD (0 + (k + 1)) 0 = l.getD (0 + k) 0 := by simp [List.getD]
    rw [gN, gN_cons c l k, e, gN, show 8 * (k + 1) = 8 * k + 8 by omega, Nat.pow_add, show (2 : Nat) ^ 8 = 256 from rfl, Nat.mul_add, ← Nat.mul_assoc (l.getD (0 + k) 0).toNat, Nat.mul_comm ((l.getD (0 + k) 0).toNat * 2 ^ (8 * k)) 256]
    omega
theorem gN_le0 : ∀ (l : List UInt8) (k : Nat), k ≤ l.length → gN l 0 k = le (l.take k)
  | l, 0, _ => by simp [gN, le]
  | [], k + 1, h => by simp at h
  | c :: l, k + 1, h => by rw [gN_cons, List.take_succ_cons, le, gN_le0 l k (by simpa using h)]
/-- The number at a place is that of its bytes. -/
theorem gN_le (l : List UInt8) (p k : Nat) (h : p + k ≤ l.length) : gN l p k = le ((l.drop p).take k) := by
  rw [gN_shift, gN_le0 _ _ (by rw [List.length_drop]; omega)]
end Go.Proofs.Ytdeplooijjfekaa
