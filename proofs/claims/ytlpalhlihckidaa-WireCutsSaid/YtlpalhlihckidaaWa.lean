import Derived.Test.YtlpalhlihckidaaPk
import Derived.Test.YtlpalhlihckidaaSf
import Derived.Test.YtlpalhlihckidaaSc
namespace Go.Proofs.Ytlpalhlihckidaa
open Go Go.RowKit

/-! Batches as bytes: plain functions, and what they make of one another. -/
def spanL (s : Sp) : List UInt8 :=
  putL s.trace.toNat 8 ++ (putL s.id.toNat 8 ++ (putL s.parent.toNat 8 ++ (putL s.kind.toNat 1 ++ (putL s.start.toNat 8 ++ (putL s.dur.toNat 8 ++ (fldL s.host.data.toList ++ fldL s.name.data.toList))))))
def letL : List UInt8 := [83, 80, 65, 78]
def batchL (L : List Sp) : List UInt8 := letL ++ putL L.length 2 ++ L.flatMap spanL
def mayL (L : List Sp) : Bool := decide (1 ≤ L.length) && decide (L.length ≤ 32) && L.all mayB
/-- The span at a place: or the error's number. -/
def spanAt (b : List UInt8) (p : Nat) : Except Nat Sp :=
  match getT b ((p + 41 : Nat) : Int), getT b ((p + 58 : Nat) : Int) with
  | none, _ => .error 3
  | _, none => .error 3
  | some h, some n =>
    let s : Sp := ⟨gN b p 8, gN b (p + 8) 8, gN b (p + 16) 8, gN b (p + 24) 1, bs h, bs n, IntKind.i64.wrap (gN b (p + 25) 8), IntKind.i64.wrap (gN b (p + 33) 8)⟩
    if mayB s = true then .ok s else .error 4
def spansTo (b : List UInt8) : Nat → Except Nat (List Sp)
  | 0 => .ok []
  | k + 1 => match spansTo b k with
    | .error e => .error e
    | .ok l => match spanAt b (6 + 75 * k) with
      | .error e => .error e
      | .ok s => .ok (l ++ [s])
def getW (b : List UInt8) : Except Nat (List Sp) :=
  if b.length < 6 then .error 2
  else if b.take 4 ≠ letL then .error 3
  else if gN b 4 2 = 0 ∨ 32 < gN b 4 2 then .error 3
  else if b.length < 6 + 75 * gN b 4 2 then .error 2
  else if 6 + 75 * gN b 4 2 < b.length then .error 3
  else spansTo b (gN b 4 2)
def errW : Except Nat (List Sp) → Nat | .ok _ => 0 | .error e => e
def lstW : Except Nat (List Sp) → List Sp | .ok l => l | .error _ => []

theorem byt_of_gN (l : List UInt8) (at_ : Nat) : ∀ k, ∀ i < k, byt (gN l at_ k) i = l.getD (at_ + i) 0
  | 0, i, h => by omega
  | k + 1, i, h => by
    apply UInt8.toNat_inj.1
    rw [byt_nat, gN]
    by_cases hi : i < k
    · have ih := byt_of_gN l at_ k i hi
      rw [← ih, byt_nat]
      have e : (l.getD (at_ + k) 0).toNat * 2 ^ (8 * k) = 2 ^ (8 * i) * (256 * ((l.getD (at_ + k) 0).toNat * 2 ^ (8 * (k - i - 1)))) := by
        rw [show 8 * k = 8 * i + (8 + 8 * (k - i - 1)) by omega, Nat.pow_add, Nat.pow_add, show (2 : Nat) ^ 8 = 256 from rfl]
        simp only [← Nat.mul_assoc]; rw [Nat.mul_comm (l.getD (at_ + k) 0).toNat]; simp only [Nat.mul_assoc]; rw [Nat.mul_left_comm (l.getD (at_ + k) 0).toNat]
      rw [e, Nat.add_mul_div_left _ _ (Nat.pow_pos (by omega))]
      omega
    · obtain rfl : i = k := by omega
      have hlt := gN_lt l at_ i
      rw [Nat.add_mul_div_right _ _ (Nat.pow_pos (by omega)), Nat.div_eq_of_lt hlt, Nat.zero_add]
      exact Nat.mod_eq_of_lt (UInt8.toNat_lt _)
/-- The bytes of the number that is read are those that were read. -/
theorem putL_gN (l : List UInt8) (p k : Nat) (h : p + k ≤ l.length) : putL (gN l p k) k = (l.drop p).take k := by
  apply List.ext_getElem
  · rw [putL_length, List.length_take, List.length_drop]; omega
  · intro i h1 h2
    rw [putL_length] at h1
    simp only [putL, List.getElem_map, List.getElem_range, List.getElem_take, List.getElem_drop]
    rw [byt_of_gN l p k i h1, getD_lt (by omega)]
theorem gN_of (l : List UInt8) (p n : Nat) : ∀ k, (∀ i < k, l.getD (p + i) 0 = byt n i) → gN l p k = n % 2 ^ (8 * k)
  | 0, _ => by rw [gN, Nat.mul_zero, Nat.pow_zero, Nat.mod_one]
  | k + 1, h => by
    rw [gN, gN_of l p n k (fun i hi => h i (by omega)), h k (by omega), byt_nat, show 8 * (k + 1) = 8 * k + 8 by omega, Nat.pow_add, Nat.mod_mul, Nat.mul_comm (2 ^ (8 * k)), show (2 : Nat) ^ 8 = 256 from rfl]
theorem getD_drop_take (l : List UInt8) (p k i : Nat) (h : i < k) : ((l.drop p).take k).getD i 0 = l.getD (p + i) 0 := by
  simp only [List.getD]
  rw [List.getElem?_take_of_lt h, List.getElem?_drop]
theorem gN_slab {l : List UInt8} {p n k : Nat} (h : (l.drop p).take k = putL n k) : gN l p k = n % 2 ^ (8 * k) :=
  gN_of l p n k fun i hi => by
    rw [← getD_drop_take l p k i hi, h]
    simp [List.getD, putL, hi]
theorem slab {l F : List UInt8} {p n off k : Nat} (h : (l.drop p).take n = F) (hk : off + k ≤ n) : (l.drop (p + off)).take k = (F.drop off).take k := by
  subst h
  rw [List.drop_take, List.take_take, List.drop_drop]
  congr 1; omega
theorem mayB_parts {s : Sp} (h : mayB s = true) : s.trace ≠ 0 ∧ s.id ≠ 0 ∧ s.kind ≤ 2 ∧ 0 ≤ s.start ∧ s.start < 1125899906842624 ∧ 0 ≤ s.dur ∧ s.dur ≤ 1125899906842624 ∧ s.host.size ≤ 16 ∧ s.name.size ≤ 16 := by
  simp [mayB, nmB, tmB, nameB] at h
  omega
theorem spanL_length {s : Sp} (h : mayB s = true) : (spanL s).length = 75 := by
  obtain ⟨_, _, _, _, _, _, _, h1, h2⟩ := mayB_parts h
  simp only [spanL, List.length_append, putL_length]
  rw [fldL_length (by simpa using h1), fldL_length (by simpa using h2)]
theorem dropA (n k m : Nat) (R : List UInt8) (h : k ≤ m) : (putL n k ++ R).drop m = R.drop (m - k) := by
  rw [List.drop_append, List.drop_of_length_le (by rw [putL_length]; exact h), List.nil_append, putL_length]
theorem takeA (n k : Nat) (R : List UInt8) : (putL n k ++ R).take k = putL n k := by
  rw [List.take_append, putL_length, Nat.sub_self, List.take_zero, List.append_nil, List.take_of_length_le (by rw [putL_length]; exact Nat.le_refl _)]
theorem getT_slab {l h : List UInt8} {p : Nat} (hp : p + 17 ≤ l.length) (hh : h.length ≤ 16) (e : (l.drop p).take 17 = fldL h) : getT l (p : Int) = some h := by
  unfold getT
  rw [if_pos (by omega), Int.toNat_natCast, e, fld_back hh]
theorem i64_small {n : Nat} (h : n < 9223372036854775808) : IntKind.i64.wrap (n : Int) = (n : Int) := IntWalk.i64_in _ ⟨by omega, by omega⟩
/-- A span is read from its bytes as it was. -/
theorem spanAt_of {l : List UInt8} {p : Nat} {s : Sp} (ok : s.Ok) (hm : mayB s = true) (hp : p + 75 ≤ l.length) (h : (l.drop p).take 75 = spanL s) : spanAt l p = .ok s := by
  obtain ⟨_, _, hk, hs1, hs2, hd1, hd2, h1, h2⟩ := mayB_parts hm
  have hl1 : s.host.data.toList.length ≤ 16 := by simpa using h1
  have hl2 : s.name.data.toList.length ≤ 16 := by simpa using h2
  have f0 := gN_slab (l := l) (p := p + 0) (k := 8) (n := s.trace.toNat) (by rw [slab h (by omega : 0 + 8 ≤ 75), List.drop_zero, spanL, takeA])
  have f1 := gN_slab (l := l) (p := p + 8) (k := 8) (n := s.id.toNat) (by rw [slab h (by omega : 8 + 8 ≤ 75), spanL, dropA _ _ _ _ (by omega), List.drop_zero, takeA])
  have f2 := gN_slab (l := l) (p := p + 16) (k := 8) (n := s.parent.toNat) (by rw [slab h (by omega : 16 + 8 ≤ 75), spanL, dropA _ _ _ _ (by omega), dropA _ _ _ _ (by omega), List.drop_zero, takeA])
  have f3 := gN_slab (l := l) (p := p + 24) (k := 1) (n := s.kind.toNat) (by rw [slab h (by omega : 24 + 1 ≤ 75), spanL, dropA _ _ _ _ (by omega), dropA _ _ _ _ (by omega), dropA _ _ _ _ (by omega), List.drop_zero, takeA])
  have f4 := gN_slab (l := l) (p := p + 25) (k := 8) (n := s.start.toNat) (by rw [slab h (by omega : 25 + 8 ≤ 75), spanL, dropA _ _ _ _ (by omega), dropA _ _ _ _ (by omega), dropA _ _ _ _ (by omega), dropA _ _ _ _ (by omega), List.drop_zero, takeA])
  have f5 := gN_slab (l := l) (p := p + 33) (k := 8) (n := s.dur.toNat) (by rw [slab h (by omega : 33 + 8 ≤ 75), spanL, dropA _ _ _ _ (by omega), dropA _ _ _ _ (by omega), dropA _ _ _ _ (by omega), dropA _ _ _ _ (by omega), dropA _ _ _ _ (by omega), List.drop_zero, takeA])
  have e6 : (l.drop (p + 41)).take 17 = fldL s.host.data.toList := by
    rw [slab h (by omega : 41 + 17 ≤ 75), spanL, dropA _ _ _ _ (by omega), dropA _ _ _ _ (by omega), dropA _ _ _ _ (by omega), dropA _ _ _ _ (by omega), dropA _ _ _ _ (by omega), dropA _ _ _ _ (by omega), List.drop_zero,
      List.take_append, fldL_length hl1, Nat.sub_self, List.take_zero, List.append_nil, List.take_of_length_le (by rw [fldL_length hl1]; exact Nat.le_refl _)]
  have e7 : (l.drop (p + 58)).take 17 = fldL s.name.data.toList := by
    rw [slab h (by omega : 58 + 17 ≤ 75), spanL, dropA _ _ _ _ (by omega), dropA _ _ _ _ (by omega), dropA _ _ _ _ (by omega), dropA _ _ _ _ (by omega), dropA _ _ _ _ (by omega), dropA _ _ _ _ (by omega),
      List.drop_append, fldL_length hl1, List.drop_of_length_le (by rw [fldL_length hl1]; omega), List.nil_append, show 58 - 8 - 8 - 8 - 1 - 8 - 8 - 17 = 0 from rfl, List.drop_zero, List.take_of_length_le (by rw [fldL_length hl2]; omega)]
  have t6 := getT_slab (by omega : p + 41 + 17 ≤ l.length) hl1 e6
  have t7 := getT_slab (by omega : p + 58 + 17 ≤ l.length) hl2 e7
  obtain ⟨⟨a1, a2⟩, ⟨b1, b2⟩, ⟨c1, c2⟩, ⟨d1, d2⟩, _, _, _, _⟩ := ok
  have e : (⟨gN l p 8, gN l (p + 8) 8, gN l (p + 16) 8, gN l (p + 24) 1, bs s.host.data.toList, bs s.name.data.toList, IntKind.i64.wrap (gN l (p + 25) 8), IntKind.i64.wrap (gN l (p + 33) 8)⟩ : Sp) = s := by
    rw [Nat.add_zero] at f0
    rw [f0, f1, f2, f3, f4, f5, bs_of, bs_of, i64_small (by omega), i64_small (by omega)]
    cases s
    simp only [Sp.mk.injEq, true_and]
    simp only at *
    omega
  unfold spanAt
  rw [t6, t7]
  simp only []
  rw [e, if_pos hm]
end Go.Proofs.Ytlpalhlihckidaa
