import Derived.Test.YtkaafjcfcknbpaaPk
import Derived.Test.YtkaafjcfcknbpaaSf
import Derived.Test.YtkaafjcfcknbpaaSc
namespace Go.Proofs.Ytkaafjcfcknbpaa
open Go Go.RowKit

/-! Batches as bytes: plain functions, and what they make of one another. -/
def spanL (s : Sp) : List UInt8 :=
  putL s.trace.toNat 8 ++ (putL s.id.toNat 8 ++ (putL s.parent.toNat 8 ++ (putL s.kind.toNat 1 ++ (putL s.start.toNat 8 ++ (putL s.dur.toNat 8 ++ (fldL s.host.data.toList ++ fldL s.name.data.toList))))))
def letL : List UInt8 := [83, 80, 65, 78]
def batchL (L : List Sp) : List UInt8 := letL ++ putL L.length 2 ++ L.flatMap spanL
def mayL (L : List Sp) : Bool := decide (1 ≤ L.length) && decide (L.length ≤ 32) && L.all mayB
/-- The span at a place: or the error's number. -/
def spanAt (b : List UInt8) (p : Nat) : Except Nat Sp :=
  match getT b ((p + 41 : Nat) : Int), getT b ((p + 58 : Nat) : Int) with
  | none, _ => .error 3
  | _, none => .error 3
  | some h, some n =>
    let s : Sp := ⟨gN b p 8, gN b (p + 8) 8, gN b (p + 16) 8, gN b (p + 24) 1, bs h, bs n, IntKind.i64.wrap (gN b (p + 25) 8), IntKind.i64.wrap (gN b (p + 33) 8)⟩
    if mayB s = true then .ok s else .error 4
def spansTo (b : List UInt8) : Nat → Except Nat (List Sp)
  | 0 => .ok []
  | k + 1 => match spansTo b k with
    | .error e => .error e
    | .ok l => match spanAt b (6 + 75 * k) with
      | .error e => .error e
      | .ok s => .ok (l ++ [s])
def getW (b : List UInt8) : Except Nat (List Sp) :=
  if b.length < 6 then .error 2
  else if b.take 4 ≠ letL then .error 3
  else if gN b 4 2 = 0 ∨ 32 < gN b 4 2 then .error 3
  else if b.length < 6 + 75 * gN b 4 2 then .error 2
  else if 6 + 75 * gN b 4 2 < b.length then .error 3
  else spansTo b (gN b 4 2)
def errW : Except Nat (List Sp) → Nat | .ok _ => 0 | .error e => e
def lstW : Except Nat (List Sp) → List Sp | .ok l => l | .error _ => []

theorem byt_of_gN (l : List UInt8) (at_ : Nat) : ∀ k, ∀ i < k, byt (gN l at_ k) i = l.getD (at_ + i) 0
  | 0, i, h => by omega
  | k + 1, i, h => by
    apply UInt8.toNat_inj.1
    rw [byt_nat, gN]
    by_cases hi : i < k
    · have ih := byt_of_gN l at_ k i hi
      rw [← ih, byt_nat]
      have e : (l.getD (at_ + k) 0).toNat * 2 ^ (8 * k) = 2 ^ (8 * i) * (256 * ((l.getD (at_ + k) 0).toNat * 2 ^ (8 * (k - i - 1)))) := by
        rw [show 8 * k = 8 * i + (8 + 8 * (k - i - 1)) by omega, Nat.pow_add, Nat.pow_add, show (2 : Nat) ^ 8 = 256 from rfl]
        simp only [← Nat.mul_assoc]; rw [Nat.mul_comm (l.getD (at_ + k) 0).toNat]; simp only [Nat.mul_assoc]; rw [Nat.mul_left_comm (l.getD (at_ + k) 0).toNat]
      rw [e, Nat.add_mul_div_left _ _ (Nat.pow_pos (by omega))]
      omega
    · obtain rfl : i = k := by omega
      have hlt := gN_lt l at_ i
      rw [Nat.add_mul_div_right _ _ (Nat.pow_pos (by omega)), Nat.div_eq_of_lt hlt, Nat.zero_add]
      exact Nat.mod_eq_of_lt (UInt8.toNat_lt _)
/-- The bytes of the number that is read are those that were read. -/
theorem putL_gN (l : List UInt8) (p k : Nat) (h : p + k ≤ l.length) : putL (gN l p k) k = (l.drop p).take k := by
  apply List.ext_getElem
  · rw [putL_length, List.length_take, List.length_drop]; omega
  · intro i h1 h2
    rw [putL_length] at h1
    simp only [putL, List.getElem_map, List.getElem_range, List.getElem_take, List.getElem_drop]
    rw [byt_of_gN l p k i h1, getD_lt (by omega)]
theorem gN_of (l : List UInt8) (p n : Nat) : ∀ k, (∀ i < k, l.getD (p + i) 0 = byt n i) → gN l p k = n % 2 ^ (8 * k)
  | 0, _ => by rw [gN, Nat.mul_zero, Nat.pow_zero, Nat.mod_one]
  | k + 1, h => by
    rw [gN, gN_of l p n k (fun i hi => h i (by omega)), h k (by omega), byt_nat, show 8 * (k + 1) = 8 * k + 8 by omega, Nat.pow_add, Nat.mod_mul, Nat.mul_comm (2 ^ (8 * k)), show (2 : Nat) ^ 8 = 256 from rfl]
theorem getD_drop_take (l : List UInt8) (p k i : Nat) (h : i < k) : ((l.drop p).take k).getD i 0 = l.getD (p + i) 0 := by
  simp only [List.getD]
  rw [List.getElem?_take_of_lt h, List.getElem?_drop]
theorem gN_slab {l : List UInt8} {p n k : Nat} (h : (l.drop p).take k = putL n k) : gN l p k = n % 2 ^ (8 * k) :=
  gN_of l p n k fun i hi => by
    rw [← getD_drop_take l p k i hi, h]
    simp [List.getD, putL, hi]
theorem slab {l F : List UInt8} {p n off k : Nat} (h : (l.drop p).take n = F) (hk : off + k ≤ n) : (l.drop (p + off)).take k = (F.drop off).take k := by
  subst h
  rw [List.drop_take, List.take_take, List.drop_drop]
  congr 1; omega
theorem mayB_parts {s : Sp} (h : mayB s = true) : s.trace ≠ 0 ∧ s.id ≠ 0 ∧ s.kind ≤ 2 ∧ 0 ≤ s.start ∧ s.start < 1125899906842624 ∧ 0 ≤ s.dur ∧ s.dur ≤ 1125899906842624 ∧ s.host.size ≤ 16 ∧ s.name.size ≤ 16 := by
  simp [mayB, nmB, tmB, nameB] at h
  omega
theorem spanL_length {s : Sp} (h : mayB s = true) : (spanL s).length = 75 := by
  obtain ⟨_, _, _, _, _, _, _, h1, h2⟩ := mayB_parts h
  simp only [spanL, List.length_append, putL_length]
  rw [fldL_length (by simpa using h1), fldL_length (by simpa using h2)]
theorem dropA (n k m : Nat) (R : List UInt8) (h : k ≤ m) : (putL n k ++ R).drop m = R.drop (m - k) := by
  rw [List.drop_append, List.drop_of_length_le (by rw [putL_length]; exact h), List.nil_append, putL_length]
theorem takeA (n k : Nat) (R : List UInt8) : (putL n k ++ R).take k = putL n k := by
  rw [List.take_append, putL_length, Nat.sub_self, List.take_zero, List.append_nil, List.take_of_length_le (by rw [putL_length]; exact Nat.le_refl _)]
theorem getT_slab {l h : List UInt8} {p : Nat} (hp : p + 17 ≤ l.length) (hh : h.length ≤ 16) (e : (l.drop p).take 17 = fldL h) : getT l (p : Int) = some h := by
  unfold getT
  rw [if_pos (by omega), Int.toNat_natCast, e, fld_back hh]
theorem i64_small {n : Nat} (h : n < 9223372036854775808) : IntKind.i64.wrap (n : Int) = (n : Int) := IntWalk.i64_in _ ⟨by omega, by omega⟩
/-- A span is read from its bytes as it was. -/
theorem spanAt_of {l : List UInt8} {p : Nat} {s : Sp} (ok : s.Ok) (hm : mayB s = true) (hp : p + 75 ≤ l.length) (h : (l.drop p).take 75 = spanL s) : spanAt l p = .ok s := by
  obtain ⟨_, _, hk, hs1, hs2, hd1, hd2, h1, h2⟩ := mayB_parts hm
  have hl1 : s.host.data.toList.length ≤ 16 := by simpa using h1
  have hl2 : s.name.data.toList.length ≤ 16 := by simpa using h2
  have f0 := gN_slab (l := l) (p := p + 0) (k := 8) (n := s.trace.toNat) (by rw [slab h (by omega : 0 + 8 ≤ 75), List.drop_zero, spanL, takeA])
  have f1 := gN_slab (l := l) (p := p + 8) (k := 8) (n := s.id.toNat) (by rw [slab h (by omega : 8 + 8 ≤ 75), spanL, dropA _ _ _ _ (by omega), List.drop_zero, takeA])
  have f2 := gN_slab (l := l) (p := p + 16) (k := 8) (n := s.parent.toNat) (by rw [slab h (by omega : 16 + 8 ≤ 75), spanL, dropA _ _ _ _ (by omega), dropA _ _ _ _ (by omega), List.drop_zero, takeA])
  have f3 := gN_slab (l := l) (p := p + 24) (k := 1) (n := s.kind.toNat) (by rw [slab h (by omega : 24 + 1 ≤ 75), spanL, dropA _ _ _ _ (by omega), dropA _ _ _ _ (by omega), dropA _ _ _ _ (by omega), List.drop_zero, takeA])
  have f4 := gN_slab (l := l) (p := p + 25) (k := 8) (n := s.start.toNat) (by rw [slab h (by omega : 25 + 8 ≤ 75), spanL, dropA _ _ _ _ (by omega), dropA _ _ _ _ (by omega), dropA _ _ _ _ (by omega), dropA _ _ _ _ (by omega), List.drop_zero, takeA])
  have f5 := gN_slab (l := l) (p := p + 33) (k := 8) (n := s.dur.toNat) (by rw [slab h (by omega : 33 + 8 ≤ 75), spanL, dropA _ _ _ _ (by omega), dropA _ _ _ _ (by omega), dropA _ _ _ _ (by omega), dropA _ _ _ _ (by omega), dropA _ _ _ _ (by omega), List.drop_zero, takeA])
  have e6 : (l.drop (p + 41)).take 17 = fldL s.host.data.toList := by
    rw [slab h (by omega : 41 + 17 ≤ 75), spanL, dropA _ _ _ _ (by omega), dropA _ _ _ _ (by omega), dropA _ _ _ _ (by omega), dropA _ _ _ _ (by omega), dropA _ _ _ _ (by omega), dropA _ _ _ _ (by omega), List.drop_zero,
      List.take_append, fldL_length hl1, Nat.sub_self, List.take_zero, List.append_nil, List.take_of_length_le (by rw [fldL_length hl1]; exact Nat.le_refl _)]
  have e7 : (l.drop (p + 58)).take 17 = fldL s.name.data.toList := by
    rw [slab h (by omega : 58 + 17 ≤ 75), spanL, dropA _ _ _ _ (by omega), dropA _ _ _ _ (by omega), dropA _ _ _ _ (by omega), dropA _ _ _ _ (by omega), dropA _ _ _ _ (by omega), dropA _ _ _ _ (by omega),
      List.drop_append, fldL_length hl1, List.drop_of_length_le (by rw [fldL_length hl1]; omega), List.nil_append, show 58 - 8 - 8 - 8 - 1 - 8 - 8 - 17 = 0 from rfl, List.drop_zero, List.take_of_length_le (by rw [fldL_length hl2]; omega)]
  have t6 := getT_slab (by omega : p + 41 + 17 ≤ l.length) hl1 e6
  have t7 := getT_slab (by omega : p + 58 + 17 ≤ l.length) hl2 e7
  obtain ⟨⟨a1, a2⟩, ⟨b1, b2⟩, ⟨c1, c2⟩, ⟨d1, d2⟩, _, _, _, _⟩ := ok
  have e : (⟨gN l p 8, gN l (p + 8) 8, gN l (p + 16) 8, gN l (p + 24) 1, bs s.host.data.toList, bs s.name.data.toList, IntKind.i64.wrap (gN l (p + 25) 8), IntKind.i64.wrap (gN l (p + 33) 8)⟩ : Sp) = s := by
    rw [Nat.add_zero] at f0
    rw [f0, f1, f2, f3, f4, f5, bs_of, bs_of, i64_small (by omega), i64_small (by omega)]
    cases s
    simp only [Sp.mk.injEq, true_and]
    simp only at *
    omega
  unfold spanAt
  rw [t6, t7]
  simp only []
  rw [e, if_pos hm]
end Go.Proofs.Ytkaafjcfcknbpaa

namespace Go.Proofs.Ytkaafjcfcknbpaa
open Go Go.RowKit

theorem unF_back {F h : List UInt8} (hF : F.length = 17) (e : unF F = some h) : fldL h = F ∧ h.length ≤ 16 := by
  unfold unF at e
  by_cases hc : (F.getD 0 0).toNat ≤ 16 ∧ zerosB (F.drop (1 + (F.getD 0 0).toNat)) = true
  · rw [if_pos hc] at e
    injection e with e
    subst e
    exact ⟨(fld_same hF hc.1).2 hc.2, by rw [List.length_take]; omega⟩
  · rw [if_neg hc] at e; cases e
theorem getT_back {l h : List UInt8} {p : Nat} (hp : p + 17 ≤ l.length) (e : getT l (p : Int) = some h) : fldL h = (l.drop p).take 17 ∧ h.length ≤ 16 := by
  unfold getT at e
  rw [if_pos (by omega), Int.toNat_natCast] at e
  exact unF_back (by rw [List.length_take, List.length_drop]; omega) e
theorem i64_back {g : Nat} (h : g < 18446744073709551616) (h0 : 0 ≤ IntKind.i64.wrap (g : Int)) : IntKind.i64.wrap (g : Int) = (g : Int) := by
  by_cases hg : g < 9223372036854775808
  · exact i64_small hg
  · exfalso
    have e : IntKind.i64.wrap (g : Int) = (g : Int) - 18446744073709551616 := by
      simp [IntKind.wrap, IntKind.bits, IntKind.signed]; omega
    omega
theorem gN_lt64 (l : List UInt8) (p : Nat) : gN l p 8 < 18446744073709551616 := by have := gN_lt l p 8; omega
theorem take_cat (l : List UInt8) (p i j : Nat) : (l.drop p).take (i + j) = (l.drop p).take i ++ (l.drop (p + i)).take j := by
  rw [List.take_add, List.drop_drop]
/-- What is read has just those bytes, and may be. -/
theorem spanAt_back {l : List UInt8} {p : Nat} {s : Sp} (hp : p + 75 ≤ l.length) (h : spanAt l p = .ok s) : spanL s = (l.drop p).take 75 ∧ mayB s = true ∧ s.Ok := by
  unfold spanAt at h
  cases h1 : getT l ((p + 41 : Nat) : Int) with
  | none => rw [h1] at h; simp at h
  | some x =>
    cases h2 : getT l ((p + 58 : Nat) : Int) with
    | none => rw [h1, h2] at h; simp at h
    | some y =>
      rw [h1, h2] at h
      simp only [] at h
      split at h
      case isFalse => cases h
      case isTrue hm =>
        injection h with h
        subst h
        obtain ⟨e6, l6⟩ := getT_back (by omega) h1
        obtain ⟨e7, l7⟩ := getT_back (by omega) h2
        obtain ⟨_, _, hk, hs1, hs2, hd1, hd2, _, _⟩ := mayB_parts hm
        simp only at hs1 hs2 hd1 hd2 hk
        have w1 := i64_back (gN_lt64 l (p + 25)) hs1
        have w2 := i64_back (gN_lt64 l (p + 33)) hd1
        have b0 := gN_lt64 l p; have b1 := gN_lt64 l (p + 8); have b2 := gN_lt64 l (p + 16)
        refine ⟨?_, hm, ⟨⟨?_, ?_⟩, ⟨?_, ?_⟩, ⟨?_, ?_⟩, ⟨?_, ?_⟩, ?_, ?_, ⟨?_, ?_⟩, ⟨?_, ?_⟩⟩⟩
        · simp only [spanL, w1, w2, Int.toNat_natCast, bs_toList]
          rw [putL_gN l p 8 (by omega), putL_gN l (p + 8) 8 (by omega), putL_gN l (p + 16) 8 (by omega), putL_gN l (p + 24) 1 (by omega), putL_gN l (p + 25) 8 (by omega), putL_gN l (p + 33) 8 (by omega), e6, e7]
          rw [show (75 : Nat) = 8 + (8 + (8 + (1 + (8 + (8 + (17 + 17)))))) from rfl]
          simp only [take_cat]
        all_goals simp only [bs_size]
        all_goals first | omega | (unfold maxLen; omega)
theorem spansTo_back {b : List UInt8} : ∀ (k : Nat) {L : List Sp}, 6 + 75 * k ≤ b.length → spansTo b k = .ok L → L.length = k ∧ L.flatMap spanL = (b.drop 6).take (75 * k) ∧ ∀ s ∈ L, mayB s = true ∧ s.Ok
  | 0, L, _, h => by
    injection h with h; subst h
    exact ⟨rfl, by simp, by simp⟩
  | k + 1, L, hb, h => by
    unfold spansTo at h
    cases h1 : spansTo b k with
    | error e => rw [h1] at h; cases h
    | ok l =>
      rw [h1] at h
      simp only [] at h
      cases h2 : spanAt b (6 + 75 * k) with
      | error e => rw [h2] at h; cases h
      | ok s =>
        rw [h2] at h
        injection h with h; subst h
        obtain ⟨i1, i2, i3⟩ := spansTo_back k (by omega) h1
        obtain ⟨s1, s2, s3⟩ := spanAt_back (by omega) h2
        refine ⟨by simp [i1], ?_, fun x hx => ?_⟩
        · rw [List.flatMap_append, i2, List.flatMap_cons, List.flatMap_nil, List.append_nil, s1, show 75 * (k + 1) = 75 * k + 75 by omega, take_cat b 6 (75 * k) 75]
        · rcases List.mem_append.1 hx with hx | hx
          · exact i3 x hx
          · rw [List.mem_singleton.1 hx]; exact ⟨s2, s3⟩
theorem flat_length {L : List Sp} (h : ∀ s ∈ L, mayB s = true) : (L.flatMap spanL).length = 75 * L.length := by
  induction L with
  | nil => rfl
  | cons s L ih =>
    rw [List.flatMap_cons, List.length_append, spanL_length (h s (by simp)), ih fun x hx => h x (by simp [hx]), List.length_cons]; omega
theorem mayL_iff {L : List Sp} : mayL L = true ↔ 1 ≤ L.length ∧ L.length ≤ 32 ∧ ∀ s ∈ L, mayB s = true := by
  simp [mayL, and_assoc]
theorem batchL_length {L : List Sp} (h : mayL L = true) : (batchL L).length = 6 + 75 * L.length := by
  simp only [batchL, List.length_append, putL_length, flat_length (mayL_iff.1 h).2.2]; simp [letL]
theorem getW_back {b : List UInt8} {L : List Sp} (h : getW b = .ok L) : batchL L = b ∧ mayL L = true ∧ ∀ s ∈ L, s.Ok := by
  unfold getW at h
  split at h
  · cases h
  split at h
  · cases h
  split at h
  · cases h
  split at h
  · cases h
  split at h
  · cases h
  rename_i h1 h2 h3 h4 h5
  obtain ⟨i1, i2, i3⟩ := spansTo_back _ (by omega) h
  refine ⟨?_, mayL_iff.2 ⟨by omega, by omega, fun s hs => (i3 s hs).1⟩, fun s hs => (i3 s hs).2⟩
  have h2' : b.take 4 = letL := by simpa using h2
  rw [batchL, i1, i2, putL_gN b 4 2 (by omega), ← h2']
  have e : b = (b.drop 0).take (4 + (2 + 75 * gN b 4 2)) := by rw [List.drop_zero, List.take_of_length_le (by omega)]
  have e2 : (b.drop 0).take (4 + (2 + 75 * gN b 4 2)) = b.take 4 ++ ((b.drop 4).take 2 ++ (b.drop 6).take (75 * gN b 4 2)) := by
    rw [take_cat, take_cat]; simp
  rw [List.append_assoc, ← e2, ← e]
theorem flat_slab : ∀ (L : List Sp) (_ : ∀ s ∈ L, mayB s = true) (k : Nat) (h : k < L.length), ((L.flatMap spanL).drop (75 * k)).take 75 = spanL L[k]
  | [], _, k, h => by simp at h
  | s :: L, hm, 0, _ => by
    have hs := spanL_length (hm s (by simp))
    rw [List.flatMap_cons, Nat.mul_zero, List.drop_zero, List.take_append, hs, Nat.sub_self, List.take_zero, List.append_nil, List.take_of_length_le (by omega)]; rfl
  | s :: L, hm, k + 1, h => by
    have hs := spanL_length (hm s (by simp))
    rw [List.flatMap_cons, List.drop_append, List.drop_of_length_le (by omega), List.nil_append, hs, show 75 * (k + 1) - 75 = 75 * k by omega]
    exact flat_slab L (fun x hx => hm x (by simp [hx])) k (by simpa using h)
theorem spansTo_of {b : List UInt8} {L : List Sp} (hm : ∀ s ∈ L, mayB s = true) (ok : ∀ s ∈ L, s.Ok) (hb : b.drop 6 = L.flatMap spanL) (hl : 6 ≤ b.length) : ∀ k, k ≤ L.length → spansTo b k = .ok (L.take k)
  | 0, _ => rfl
  | k + 1, hk => by
    have hlen : b.length = 6 + 75 * L.length := by have h := congrArg List.length hb; rw [List.length_drop, flat_length hm] at h; omega
    have hs := spanAt_of (l := b) (p := 6 + 75 * k) (ok L[k] (List.getElem_mem _)) (hm L[k] (List.getElem_mem _)) (by omega) (by rw [← List.drop_drop, hb]; exact flat_slab L hm k (by omega))
    rw [spansTo, spansTo_of hm ok hb hl k (by omega)]
    simp only []
    rw [hs, List.take_succ_eq_append_getElem (by omega)]
theorem head_batch (L : List Sp) : ∃ R, batchL L = 83 :: 80 :: 65 :: 78 :: (byt L.length 0) :: (byt L.length 1) :: R ∧ R = L.flatMap spanL := ⟨_, rfl, rfl⟩
theorem gN_head {b R : List UInt8} {n : Nat} (hb : b = 83 :: 80 :: 65 :: 78 :: (byt n 0) :: (byt n 1) :: R) (hn : n < 65536) : b.take 4 = letL ∧ gN b 4 2 = n ∧ b.drop 6 = R := by
  subst hb
  refine ⟨rfl, ?_, rfl⟩
  rw [gN_of _ 4 n 2 (fun i hi => by
    rcases Nat.lt_or_ge i 1 with h | h
    · obtain rfl : i = 0 := by omega
      rfl
    · obtain rfl : i = 1 := by omega
      rfl)]
  omega
/-- A batch is read from its bytes as it was. -/
theorem getW_batch {L : List Sp} (hm : mayL L = true) (ok : ∀ s ∈ L, s.Ok) : getW (batchL L) = .ok L := by
  obtain ⟨h1, h2, h3⟩ := mayL_iff.1 hm
  have hl := batchL_length hm
  obtain ⟨R, hb, hR⟩ := head_batch L
  obtain ⟨t, g, d⟩ := gN_head hb (by omega)
  rw [hR] at d
  unfold getW
  rw [g, hl, t, if_neg (by omega), if_neg (by simp), if_neg (by omega), if_neg (by omega), if_neg (by omega), spansTo_of h3 ok d (by omega) _ (Nat.le_refl _), List.take_length]
theorem getW_cut {L : List Sp} (hm : mayL L = true) {m : Nat} (h : m < (batchL L).length) : getW ((batchL L).take m) = .error 2 := by
  obtain ⟨h1, h2, h3⟩ := mayL_iff.1 hm
  have hl := batchL_length hm
  obtain ⟨R, hb, hR⟩ := head_batch L
  by_cases h6 : m < 6
  · unfold getW; rw [if_pos (by rw [List.length_take]; omega)]
  · have e : (batchL L).take m = 83 :: 80 :: 65 :: 78 :: (byt L.length 0) :: (byt L.length 1) :: R.take (m - 6) := by
      rw [hb, show m = (m - 6) + 6 by omega]; rfl
    obtain ⟨t, g, _⟩ := gN_head e (by omega)
    have hlt : ((batchL L).take m).length = m := by rw [List.length_take]; omega
    unfold getW
    rw [g, hlt, t, if_neg h6, if_neg (by simp), if_neg (by omega), if_pos (by omega)]
theorem getW_more {L : List Sp} (hm : mayL L = true) {more : List UInt8} (h : more ≠ []) : getW (batchL L ++ more) = .error 3 := by
  obtain ⟨h1, h2, h3⟩ := mayL_iff.1 hm
  have hl := batchL_length hm
  obtain ⟨R, hb, hR⟩ := head_batch L
  have e : batchL L ++ more = 83 :: 80 :: 65 :: 78 :: (byt L.length 0) :: (byt L.length 1) :: (R ++ more) := by rw [hb]; rfl
  obtain ⟨t, g, _⟩ := gN_head e (by omega)
  have hp : 0 < more.length := List.length_pos_iff.2 h
  unfold getW
  rw [g, t, List.length_append, hl, if_neg (by omega), if_neg (by simp), if_neg (by omega), if_neg (by omega), if_pos (by omega)]
theorem batch_inj {L M : List Sp} (h1 : mayL L = true) (ok1 : ∀ s ∈ L, s.Ok) (h2 : mayL M = true) (ok2 : ∀ s ∈ M, s.Ok) : batchL L = batchL M ↔ L = M := by
  refine ⟨fun h => ?_, fun h => by rw [h]⟩
  have e1 := getW_batch h1 ok1
  rw [h, getW_batch h2 ok2] at e1
  injection e1 with e1; exact e1.symm
theorem batch_drop (L : List Sp) : (batchL L).drop 6 = L.flatMap spanL := by
  obtain ⟨R, hb, hR⟩ := head_batch L
  rw [hb, hR]; rfl
theorem batch_cat (L M : List Sp) : (batchL (L ++ M)).drop 6 = (batchL L).drop 6 ++ (batchL M).drop 6 := by
  rw [batch_drop, batch_drop, batch_drop, List.flatMap_append]
end Go.Proofs.Ytkaafjcfcknbpaa

