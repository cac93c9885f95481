import Derived.WalkKit
namespace Go.Proofs.Ytkaafjcfcknbpaa

/-! The sum's mathematics, over plain numbers: no program. -/
/-- One step: a bit was laid into the lowest one. -/
def st (x : Nat) : Nat := if x % 2 = 1 then (x / 2) ^^^ 3988292384 else x / 2
def stN : Nat → Nat → Nat
  | 0, x => x
  | k + 1, x => stN k (st x)
theorem st_odd {x : Nat} (h : x % 2 = 1) : st x = (x / 2) ^^^ 3988292384 := if_pos h
theorem st_even {x : Nat} (h : ¬ x % 2 = 1) : st x = x / 2 := if_neg h
theorem st_xor (x y : Nat) : st (x ^^^ y) = st x ^^^ st y := by
  have h2 : (x ^^^ y) % 2 = 1 ↔ ¬ (x % 2 = 1 ↔ y % 2 = 1) := Nat.xor_mod_two_eq_one
  have h1 : (x ^^^ y) / 2 = x / 2 ^^^ y / 2 := Nat.xor_div_two
  by_cases hx : x % 2 = 1 <;> by_cases hy : y % 2 = 1
  · rw [st_even (by simp [h2, hx, hy]), st_odd hx, st_odd hy, h1, Nat.xor_assoc, ← Nat.xor_assoc 3988292384, Nat.xor_comm 3988292384, Nat.xor_assoc (y / 2), Nat.xor_self, Nat.xor_zero]
  · rw [st_odd (by simp [h2, hx, hy]), st_odd hx, st_even hy, h1, Nat.xor_assoc, Nat.xor_comm (y / 2), ← Nat.xor_assoc]
  · rw [st_odd (by simp [h2, hx, hy]), st_even hx, st_odd hy, h1, Nat.xor_assoc]
  · rw [st_even (by simp [h2, hx, hy]), st_even hx, st_even hy, h1]
theorem stN_xor : ∀ (k x y : Nat), stN k (x ^^^ y) = stN k x ^^^ stN k y
  | 0, _, _ => rfl
  | k + 1, x, y => by rw [stN, stN, stN, st_xor, stN_xor k]
theorem stN_add : ∀ (a b x : Nat), stN (a + b) x = stN b (stN a x)
  | 0, b, x => by rw [Nat.zero_add]; rfl
  | a + 1, b, x => by rw [show a + 1 + b = (a + b) + 1 by omega, stN, stN, stN_add a b]
theorem stN_succ (k x : Nat) : stN (k + 1) x = st (stN k x) := stN_add k 1 x
theorem xor_lt32 {x y : Nat} (hx : x < 4294967296) (hy : y < 4294967296) : x ^^^ y < 4294967296 := Nat.xor_lt_two_pow (n := 32) hx hy
theorem st_lt {x : Nat} (h : x < 4294967296) : st x < 4294967296 := by
  unfold st; split
  · exact xor_lt32 (by omega) (by omega)
  · omega
theorem stN_lt : ∀ (k : Nat) {x : Nat}, x < 4294967296 → stN k x < 4294967296
  | 0, _, h => h
  | k + 1, _, h => stN_lt k (st_lt h)
theorem st_zero {x : Nat} (h : x < 4294967296) (h0 : st x = 0) : x = 0 := by
  by_cases hx : x % 2 = 1
  · rw [st_odd hx] at h0
    have h1 : x / 2 = 3988292384 := by
      have := congrArg (· ^^^ 3988292384) h0
      simpa [Nat.xor_assoc] using this
    omega
  · rw [st_even hx] at h0; omega
theorem stN_zero : ∀ (k : Nat) {x : Nat}, x < 4294967296 → stN k x = 0 → x = 0
  | 0, _, _, h => h
  | k + 1, _, hx, h => st_zero hx (stN_zero k (st_lt hx) h)
theorem stN_of0 : ∀ k, stN k 0 = 0
  | 0 => rfl
  | k + 1 => stN_of0 k
theorem stN_mul : ∀ (k q : Nat), stN k (2 ^ k * q) = q
  | 0, q => by simp [stN]
  | k + 1, q => by
    have h : st (2 ^ (k + 1) * q) = 2 ^ k * q := by
      have e : 2 ^ (k + 1) * q = 2 * (2 ^ k * q) := by rw [Nat.pow_succ, Nat.mul_comm (2 ^ k) 2, Nat.mul_assoc]
      rw [e, st_even (by omega)]; omega
    rw [stN, h, stN_mul k]

/-- A sum's bits, gone on with: by a byte, by bytes. -/
def upd (s : Nat) (c : UInt8) : Nat := stN 8 (s ^^^ c.toNat)
def crc (s : Nat) (l : List UInt8) : Nat := l.foldl upd s
theorem crc_nil (s : Nat) : crc s [] = s := rfl
theorem crc_cons (s : Nat) (c : UInt8) (l : List UInt8) : crc s (c :: l) = crc (upd s c) l := rfl
theorem u8_lt32 (c : UInt8) : c.toNat < 4294967296 := by have := c.toNat_lt; omega
theorem upd_lt (c : UInt8) {s : Nat} (h : s < 4294967296) : upd s c < 4294967296 := stN_lt 8 (xor_lt32 h (u8_lt32 c))
theorem crc_lt : ∀ (l : List UInt8) {s : Nat}, s < 4294967296 → crc s l < 4294967296
  | [], _, h => h
  | c :: l, _, h => crc_lt l (upd_lt c h)
theorem crc_append (l m : List UInt8) (s : Nat) : crc s (l ++ m) = crc (crc s l) m := by unfold crc; rw [List.foldl_append]
theorem crc_snoc (l : List UInt8) (c : UInt8) (s : Nat) : crc s (l ++ [c]) = upd (crc s l) c := crc_append l [c] s
theorem crc_take (l : List UInt8) (i : Nat) (h : i < l.length) (s : Nat) : crc s (l.take (i + 1)) = upd (crc s (l.take i)) l[i] := by
  rw [List.take_succ_eq_append_getElem h, crc_snoc]
/-- The bytes as one number, the lowest first. -/
def le : List UInt8 → Nat
  | [] => 0
  | c :: l => c.toNat + 256 * le l
theorem add_xor {c : Nat} (m : Nat) (h : c < 256) : c + 256 * m = c ^^^ 256 * m := by
  apply Nat.eq_of_testBit_eq
  intro j
  rw [Nat.testBit_xor, Nat.add_comm, show (256 : Nat) = 2 ^ 8 from rfl, Nat.testBit_two_pow_mul_add m h, Nat.testBit_two_pow_mul]
  by_cases hj : j < 8
  · rw [if_pos hj]
    have h8 : ¬ 8 ≤ j := by omega
    simp [h8]
  · rw [if_neg hj]
    have h8 : 8 ≤ j := by omega
    have hc : c.testBit j = false := Nat.testBit_lt_two_pow (Nat.lt_of_lt_of_le h (Nat.pow_le_pow_right (n := 2) (by omega) h8))
    simp [hc, h8]
theorem crc_le : ∀ (l : List UInt8) (s : Nat), crc s l = stN (8 * l.length) (s ^^^ le l)
  | [], s => by rw [crc_nil, le, Nat.xor_zero]; rfl
  | c :: l, s => by
    rw [crc_cons, upd, crc_le l, le, add_xor _ c.toNat_lt, List.length_cons, show 8 * (l.length + 1) = 8 + 8 * l.length by omega, stN_add, ← Nat.xor_assoc, stN_xor 8 (s ^^^ c.toNat) (256 * le l), show (256 : Nat) = 2 ^ 8 from rfl, stN_mul]
theorem crc_map {α : Type} (f g : α → UInt8) : ∀ (L : List α) (s t : Nat), crc (s ^^^ t) (L.map fun i => f i ^^^ g i) = crc s (L.map f) ^^^ crc t (L.map g)
  | [], _, _ => rfl
  | i :: L, s, t => by
    simp only [List.map_cons, crc_cons]
    rw [← crc_map f g L, upd, upd, upd, ← stN_xor, UInt8.toNat_xor]
    congr 2
    rw [Nat.xor_assoc, Nat.xor_assoc, ← Nat.xor_assoc t, Nat.xor_comm t, Nat.xor_assoc]

/-- All bits turned. -/
def inv (x : Nat) : Nat := 4294967295 - x
theorem inv_lt (x : Nat) : inv x < 4294967296 := by unfold inv; omega
theorem inv_inv {x : Nat} (h : x < 4294967296) : inv (inv x) = x := by unfold inv; omega
theorem inv_xor {x : Nat} (h : x < 4294967296) : inv x = 4294967295 ^^^ x := by
  have h' : x < 2 ^ 32 := h
  apply Nat.eq_of_testBit_eq
  intro j
  have e1 : inv x = 2 ^ 32 - (x + 1) := by unfold inv; omega
  rw [e1, Nat.testBit_two_pow_sub_succ h', Nat.testBit_xor, show (4294967295 : Nat) = 2 ^ 32 - 1 from rfl, Nat.testBit_two_pow_sub_one]
  by_cases hj : j < 32
  · simp [hj]
  · have : x.testBit j = false := Nat.testBit_lt_two_pow (Nat.lt_of_lt_of_le h' (Nat.pow_le_pow_right (by omega) (by omega)))
    simp [hj, this]
/-- The sum s, gone on with. -/
def moreL (s : Nat) (l : List UInt8) : Nat := inv (crc (inv s) l)
theorem moreL_lt (s : Nat) (l : List UInt8) : moreL s l < 4294967296 := inv_lt _
theorem moreL_parts (l m : List UInt8) (s : Nat) : moreL (moreL s l) m = moreL s (l ++ m) := by
  unfold moreL; rw [inv_inv (crc_lt l (inv_lt s)), crc_append]
theorem moreL_line {α : Type} (f g h : α → UInt8) (L : List α) : moreL 0 (L.map fun i => f i ^^^ g i ^^^ h i) = moreL 0 (L.map f) ^^^ moreL 0 (L.map g) ^^^ moreL 0 (L.map h) := by
  unfold moreL
  have e0 : inv 0 = 4294967295 := rfl
  have E : ∀ l, inv (crc 4294967295 l) = 4294967295 ^^^ crc 4294967295 l := fun l => inv_xor (crc_lt l (by omega))
  rw [e0, E, E, E, E]
  have h1 := crc_map (fun i => f i ^^^ g i) h L 0 4294967295
  have h2 := crc_map f g L 4294967295 4294967295
  rw [Nat.xor_self] at h2
  rw [Nat.zero_xor] at h1
  rw [h1, h2]
  generalize crc 4294967295 (L.map f) = x
  generalize crc 4294967295 (L.map g) = y
  generalize crc 4294967295 (L.map h) = z
  apply Nat.eq_of_testBit_eq
  intro j
  simp only [Nat.testBit_xor]
  cases Nat.testBit 4294967295 j <;> cases x.testBit j <;> cases y.testBit j <;> cases z.testBit j <;> rfl

theorem u8_xor_pow {c : Nat} (m j : Nat) (hc : c < 256) (hj : j < 8) : (c ^^^ 2 ^ j) + 256 * m = (c + 256 * m) ^^^ 2 ^ j := by
  have h : c ^^^ 2 ^ j < 256 := Nat.xor_lt_two_pow (n := 8) hc (Nat.pow_lt_pow_right (by omega) hj)
  rw [add_xor m h, add_xor m hc, Nat.xor_assoc, Nat.xor_comm (2 ^ j), Nat.xor_assoc]
/-- One bit of one byte is turned. -/
theorem le_set : ∀ (l : List UInt8) (i : Nat) (h : i < l.length) (j : Nat), j < 8 → ∀ c : UInt8, c.toNat = l[i].toNat ^^^ 2 ^ j → le (l.set i c) = le l ^^^ 2 ^ (8 * i + j)
  | [], _, h, _, _, _, _ => by simp at h
  | a :: l, 0, _, j, hj, c, hc => by
    simp only [List.getElem_cons_zero] at hc
    rw [List.set_cons_zero, le, le, hc, u8_xor_pow _ _ a.toNat_lt hj, Nat.mul_zero, Nat.zero_add]
  | a :: l, i + 1, h, j, hj, c, hc => by
    simp only [List.getElem_cons_succ] at hc
    rw [List.set_cons_succ, le, le, le_set l i (by simpa using h) j hj c hc, add_xor _ a.toNat_lt, add_xor _ a.toNat_lt, Nat.xor_assoc]
    congr 1
    have e : 8 * (i + 1) + j = (8 * i + j) + 8 := by omega
    rw [e, Nat.pow_add 2 (8 * i + j) 8, Nat.mul_comm (2 ^ (8 * i + j)), show (2 : Nat) ^ 8 = 256 from rfl]
    generalize 2 ^ (8 * i + j) = X
    have := Nat.shiftLeft_xor_distrib (i := 8) (a := le l) (b := X)
    rw [Nat.shiftLeft_eq, Nat.shiftLeft_eq, Nat.shiftLeft_eq, Nat.mul_comm _ (2 ^ 8), Nat.mul_comm _ (2 ^ 8), Nat.mul_comm _ (2 ^ 8)] at this
    exact this
/-- Bytes that are turned as the bits of E say, from the first one on, have another sum, if E is not 0. -/
theorem told {l m : List UInt8} (hl : m.length = l.length) {first E : Nat} (hf : first ≤ 8 * l.length) (hE : E < 4294967296) (h : le m = le l ^^^ 2 ^ first * E) : (moreL 0 m = moreL 0 l) ↔ E = 0 := by
  have e : crc (inv 0) m = crc (inv 0) l ^^^ stN (8 * l.length - first) E := by
    rw [crc_le, crc_le, hl, h, ← Nat.xor_assoc, stN_xor]
    congr 1
    rw [show 8 * l.length = first + (8 * l.length - first) by omega, stN_add, stN_mul]
    congr 1; omega
  have lt := crc_lt l (inv_lt 0)
  have lt2 := stN_lt (8 * l.length - first) hE
  constructor
  · intro h1
    unfold moreL at h1
    rw [e] at h1
    have lt3 := xor_lt32 lt lt2
    have h2 : crc (inv 0) l ^^^ stN (8 * l.length - first) E = crc (inv 0) l := by rw [← inv_inv lt3, h1, inv_inv lt]
    have h3 : stN (8 * l.length - first) E = 0 := by
      have := congrArg (crc (inv 0) l ^^^ ·) h2
      simpa [← Nat.xor_assoc] using this
    exact stN_zero _ hE h3
  · rintro rfl
    unfold moreL
    rw [e, stN_of0, Nat.xor_zero]
end Go.Proofs.Ytkaafjcfcknbpaa

