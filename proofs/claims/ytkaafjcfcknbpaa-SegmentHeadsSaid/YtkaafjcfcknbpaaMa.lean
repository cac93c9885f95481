import Derived.Test.YtkaafjcfcknbpaaRa
namespace Go.Proofs.Ytkaafjcfcknbpaa
open Go Go.RowKit

/-! Segments, as plain functions: no program. -/
def let7 : List UInt8 := [83, 69, 71, 49]
def hd10 (n k : Nat) : List UInt8 := let7 ++ (putL n 4 ++ putL k 2)
def headL (n k : Nat) : List UInt8 := hd10 n k ++ putL (moreL 0 (hd10 n k)) 4
theorem hd10_length (n k : Nat) : (hd10 n k).length = 10 := by simp [hd10, let7, putL_length]
theorem headL_length (n k : Nat) : (headL n k).length = 14 := by simp [headL, hd10_length, putL_length]
/-- The head with which bytes begin (number, keep), or the error's number. -/
def headOf (b : List UInt8) : Except Nat (Nat × Nat) :=
  if b.length < 14 then .error 2
  else if b.take 4 ≠ let7 then .error 3
  else if moreL 0 (b.take 10) ≠ gN b 10 4 then .error 8
  else if gN b 8 2 = 0 ∨ 16 < gN b 8 2 then .error 4
  else .ok (gN b 4 4, gN b 8 2)
theorem headL_take10 (n k : Nat) (r : List UInt8) : (headL n k ++ r).take 10 = hd10 n k := by
  rw [headL, List.append_assoc, List.take_append_of_le_length (by rw [hd10_length]; omega), List.take_of_length_le (by rw [hd10_length]; omega)]
theorem headL_sum (n k : Nat) (r : List UInt8) : gN (headL n k ++ r) 10 4 = moreL 0 (hd10 n k) := by
  have h : ((headL n k ++ r).drop 10).take 4 = putL (moreL 0 (hd10 n k)) 4 := by
    rw [headL, List.append_assoc, List.drop_append_of_le_length (by rw [hd10_length]; omega), List.drop_of_length_le (by rw [hd10_length]; omega), List.nil_append, takeA]
  rw [gN_slab h]
  have := moreL_lt 0 (hd10 n k)
  omega
theorem headL_let (n k : Nat) (r : List UInt8) : (headL n k ++ r).take 4 = let7 := by
  have h := congrArg (List.take 4) (headL_take10 n k r)
  rw [List.take_take, Nat.min_eq_left (by omega)] at h
  rw [h, hd10, List.take_append_of_le_length (by simp [let7])]
  rfl
theorem headL_n (n k : Nat) (r : List UInt8) (hn : n < 4294967296) : gN (headL n k ++ r) 4 4 = n := by
  have h : ((headL n k ++ r).drop 4).take 4 = putL n 4 := by
    have h := congrArg (fun x => (List.drop 4 x).take 4) (headL_take10 n k r)
    simp only [List.drop_take, List.take_take] at h
    rw [show min 4 (10 - 4) = 4 from rfl] at h
    rw [h, hd10, List.drop_append_of_le_length (by simp [let7]), List.drop_of_length_le (by simp [let7]), List.nil_append, takeA]
  rw [gN_slab h]; omega
theorem headL_k (n k : Nat) (r : List UInt8) (hk : k < 65536) : gN (headL n k ++ r) 8 2 = k := by
  have h : ((headL n k ++ r).drop 8).take 2 = putL k 2 := by
    have h := congrArg (fun x => (List.drop 8 x).take 2) (headL_take10 n k r)
    simp only [List.drop_take, List.take_take] at h
    rw [show min 2 (10 - 8) = 2 from rfl] at h
    rw [h]
    show ((let7 ++ (putL n 4 ++ putL k 2)).drop 8).take 2 = _
    rw [show 8 = let7.length + 4 from rfl, ← List.drop_drop, List.drop_left, dropA _ _ _ _ (by omega), Nat.sub_self, List.drop_zero, List.take_of_length_le (by rw [putL_length]; omega)]
  rw [gN_slab h]; omega
theorem headOf_head (n k : Nat) (r : List UInt8) (hn : n < 4294967296) (h1 : 1 ≤ k) (h2 : k ≤ 16) : headOf (headL n k ++ r) = .ok (n, k) := by
  unfold headOf
  rw [if_neg (by rw [List.length_append, headL_length]; omega), if_neg (by simp [headL_let]), if_neg (by rw [headL_take10, headL_sum]; simp), headL_k n k r (by omega), if_neg (by omega), headL_n n k r hn]
/-- The bodies that are a batch's bytes, up to the first that is none; how far they go. -/
def bodiesF (isB : List UInt8 → Bool) (all : List (List UInt8)) : List (List UInt8) := all.takeWhile isB
def goodF : List (List UInt8) → Nat
  | [] => 14
  | b :: r => goodF r + (6 + b.length)
theorem goodF_append (x y : List (List UInt8)) : goodF (x ++ y) + 14 = goodF x + goodF y := by
  induction x with
  | nil => simp [goodF]; omega
  | cons b r ih => simp only [List.cons_append, goodF]; omega
end Go.Proofs.Ytkaafjcfcknbpaa
