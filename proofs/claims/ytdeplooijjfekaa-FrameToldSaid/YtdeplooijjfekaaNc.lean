import Derived.Test.YtdeplooijjfekaaNb
import Derived.Laws.BitsAllLaws
import Derived.Laws.Bits64
import Derived.IntWalk
namespace Go.Proofs.Ytdeplooijjfekaa
open Go Go.RowKit

/-- The number whose bytes are l's k ones from at_ on. -/
def gN (l : List UInt8) (at_ : Nat) : Nat → Nat
  | 0 => 0
  | k + 1 => gN l at_ k + (l.getD (at_ + k) 0).toNat * 2 ^ (8 * k)
theorem gN_lt (l : List UInt8) (at_ : Nat) : ∀ k, gN l at_ k < 2 ^ (8 * k)
  | 0 => by simp [gN]
  | k + 1 => by
    have h := gN_lt l at_ k
    have hb : (l.getD (at_ + k) 0).toNat ≤ 255 := by have := (l.getD (at_ + k) 0).toNat_lt; omega
    have : (l.getD (at_ + k) 0).toNat * 2 ^ (8 * k) ≤ 255 * 2 ^ (8 * k) := Nat.mul_le_mul_right _ hb
    rw [gN, show 8 * (k + 1) = 8 * k + 8 by omega, Nat.pow_add]
    omega
theorem or_shl (x b k : Nat) (hx : x < 2 ^ (8 * k)) : x ||| b * 2 ^ (8 * k) = x + b * 2 ^ (8 * k) := by
  rw [Nat.or_comm, ← Nat.shiftLeft_eq, ← Nat.shiftLeft_add_eq_or_of_lt hx, Nat.add_comm]
theorem byte_shl (b : UInt8) (k : Nat) (hk : k < 8) : b.toNat * 2 ^ (8 * k) < 18446744073709551616 := by
  have hb : b.toNat ≤ 255 := by have := b.toNat_lt; omega
  have h1 : b.toNat * 2 ^ (8 * k) ≤ 255 * 2 ^ (8 * k) := Nat.mul_le_mul_right _ hb
  have h2 : 2 ^ (8 * k) ≤ 2 ^ 56 := Nat.pow_le_pow_right (by omega) (by omega)
  omega
theorem gN_step (l : List UInt8) (p k : Nat) (hk : k < 8) (hp : p + k < l.length) :
    bits BinOp.or IntKind.u64 (gN l p k : Int) (IntKind.u64.wrap (IntKind.u64.wrap (l[p + k].toNat : Int) * 2 ^ (8 * k))) = (gN l p (k + 1) : Int) := by
  have hb := byte_shl l[p + k] k hk
  have hu : (l[p + k].toNat : Int) ≤ 255 := by have := l[p + k].toNat_lt; omega
  rw [IntWalk.u64_in (l[p + k].toNat : Int) ⟨by omega, by omega⟩]
  have e : ((l[p + k].toNat : Int) * 2 ^ (8 * k)) = ((l[p + k].toNat * 2 ^ (8 * k) : Nat) : Int) := by simp
  have h2 : 2 ^ (8 * k) ≤ 2 ^ 56 := Nat.pow_le_pow_right (by omega) (by omega)
  have hl := gN_lt l p k
  rw [e, IntWalk.u64_in _ ⟨by omega, by omega⟩, u64_or_nat _ _ (by omega) hb, or_shl _ _ _ hl, gN, getD_lt hp]
theorem ret_u64b {x y : Int} {a b : Bool} (h : x = y) (h2 : a = b) : Ending.returned (.tuple #[.int .u64 x, .bool a]) = .returned (.tuple #[.int .u64 y, .bool b]) := by rw [h, h2]
set_option maxHeartbeats 1000000 in
theorem get_yes (a : Option Addr) (c : Nat) (l : List UInt8) (p : Nat) (s : Int) (w : World) (hr : Rd w w.heap.size a (bV l)) (hl : l.length ≤ 1000000000000)
    (h1 : -9223372036854775808 ≤ s) (h2 : s ≤ 9223372036854775807) (hst : p + cnt s ≤ l.length) :
    Calls Try.prog 34 #[.slice a l.length c, .int .i64 p, .int .i64 s] w
      fun e w' => e = .returned (.tuple #[.int .u64 (gN l p (cnt s)), .bool true]) ∧ w = w' := by
  have HR := Lib.hid hr; clear hr
  have hk := cnt_le s
  have H1 := Lib.hid h1; have H2 := Lib.hid h2; clear h1 h2
  have HS : Hid (stB l.length p (cnt s) = true) := by show _ = _; simp [stB]; omega
  go_enter Try.func34, Try.ntmps34
  go_wp2_with fail
  refine (counted_any _ _ H1.out H2.out).mono ?_; rintro e w' ⟨rfl, rfl⟩
  go_wp2_with fail
  refine (stands_any _ _ _ _ _ _ hl (by omega) (by omega)).mono ?_; rw [HS.out]; rintro e w' ⟨rfl, rfl⟩
  go_wp2_with fail
  go_loop [8, 18] (fun n i => ∃ k : Nat, k ≤ cnt s ∧ i = .int .i64 k ∧ n = .int .u64 (gN l p k)) (fun _ i => cnt s - (intOf i).toNat)
  case atStart => exact ⟨0, Nat.zero_le _, rfl, rfl⟩
  case round =>
    obtain ⟨k, hk', rfl, rfl⟩ := hrel
    by_cases hlt : k < cnt s
    · have hpl : p + k < l.length := by omega
      obtain ⟨b, off, ha, _, hcell⟩ := HR.out.byte hpl
      subst ha
      have i1 : (0 : Int) ≤ (p : Int) + (k : Int) := by omega
      have i2 : (p : Int) + (k : Int) < (l.length : Int) := by omega
      have e1 : ((p : Int) + (k : Int)).toNat = p + k := by omega
      have HG := Lib.hid (gN_step l p k (by omega) hpl)
      go_wp2
      rw [HG.out]
      go_round
      case rel => exact ⟨k + 1, by omega, by go_num, rfl⟩
      case measure => simp [intOf]; omega
    · have : k = cnt s := by omega
      subst this
      go_wp2
      go_ret2
      exact ⟨rfl, rfl⟩

/-- What is read at a place, size bytes of it. -/
def getR (l : List UInt8) (p s : Int) : Nat × Bool := if 0 ≤ p ∧ p + cnt s ≤ l.length then (gN l p.toNat (cnt s), true) else (0, false)
theorem getR_yes {l : List UInt8} {p s : Int} (h : 0 ≤ p ∧ p + cnt s ≤ l.length) : getR l p s = (gN l p.toNat (cnt s), true) := if_pos h
theorem getR_no {l : List UInt8} {p s : Int} (h : ¬ (0 ≤ p ∧ p + cnt s ≤ l.length)) : getR l p s = (0, false) := if_neg h
theorem getR_lt (l : List UInt8) (p s : Int) : (getR l p s).1 < 18446744073709551616 := by
  unfold getR; split
  · have h := gN_lt l p.toNat (cnt s)
    have : 2 ^ (8 * cnt s) ≤ 2 ^ 64 := Nat.pow_le_pow_right (by omega) (by have := cnt_le s; omega)
    show gN _ _ _ < _
    omega
  · decide
set_option maxHeartbeats 1000000 in
theorem get_any (a : Option Addr) (c : Nat) (l : List UInt8) (p : Int) (s : Int) (w : World) (hr : Rd w w.heap.size a (bV l)) (hl : l.length ≤ 1000000000000)
    (h1 : -9223372036854775808 ≤ s) (h2 : s ≤ 9223372036854775807) (h3 : -9223372036854775808 ≤ p) (h4 : p ≤ 9223372036854775807) :
    Calls Try.prog 34 #[.slice a l.length c, .int .i64 p, .int .i64 s] w
      fun e w' => e = .returned (.tuple #[.int .u64 (getR l p s).1, .bool (getR l p s).2]) ∧ w = w' := by
  by_cases h : 0 ≤ p ∧ p + cnt s ≤ l.length
  · rw [getR_yes h]
    obtain ⟨q, rfl⟩ : ∃ q : Nat, p = q := ⟨p.toNat, by omega⟩
    rw [Int.toNat_natCast]
    exact get_yes a c l q s w hr hl h1 h2 (by omega)
  · have HN := Lib.hid (getR_no h)
    have H1 := Lib.hid h1; have H2 := Lib.hid h2; have H3 := Lib.hid h3; have H4 := Lib.hid h4; clear h1 h2 h3 h4 hr
    have HS : Hid (stB l.length p (cnt s) = false) := by show _ = _; simp [stB]; omega
    clear h
    go_enter Try.func34, Try.ntmps34
    go_wp2_with fail
    refine (counted_any _ _ H1.out H2.out).mono ?_; rintro e w' ⟨rfl, rfl⟩
    go_wp2_with fail
    refine (stands_any _ _ _ _ _ _ hl H3.out H4.out).mono ?_; rw [HS.out]; rintro e w' ⟨rfl, rfl⟩
    go_wp2
    go_ret2
    exact ⟨ret_u64b (by rw [HN.out]; rfl) (by rw [HN.out]), rfl⟩
theorem pow_nat (k : Nat) : (2 : Int) ^ (8 * k) = ((2 ^ (8 * k) : Nat) : Int) := by simp
theorem tms_step (k : Nat) : IntKind.u64.wrap ((2 : Int) ^ (8 * k) % 18446744073709551616 * 256) = (2 : Int) ^ (8 * (k + 1)) % 18446744073709551616 := by
  rw [IntKind.wrap_u64, pow_nat, pow_nat, show 8 * (k + 1) = 8 * k + 8 by omega, Nat.pow_add]; omega
theorem gN_add (l : List UInt8) (p k : Nat) (b : UInt8) (hk : k < 8) (hb : l.getD (p + k) 0 = b) :
    IntKind.u64.wrap ((gN l p k : Int) + IntKind.u64.wrap ((2 : Int) ^ (8 * k) % 18446744073709551616 * IntKind.u64.wrap (b.toNat : Int))) = (gN l p (k + 1) : Int) := by
  have h1 := byte_shl b k hk
  have hu : (b.toNat : Int) ≤ 255 := by have := b.toNat_lt; omega
  have h2 : 2 ^ (8 * k) ≤ 2 ^ 56 := Nat.pow_le_pow_right (by omega) (by omega)
  have hl := gN_lt l p (k + 1)
  have h3 : 2 ^ (8 * (k + 1)) ≤ 2 ^ 64 := Nat.pow_le_pow_right (by omega) (by omega)
  have e0 : (2 : Int) ^ (8 * k) % 18446744073709551616 = ((2 ^ (8 * k) : Nat) : Int) := by rw [pow_nat]; clear hl h3 h1; generalize 2 ^ (8 * k) = X at h2 ⊢; omega
  have e : ((2 ^ (8 * k) : Nat) : Int) * (b.toNat : Int) = ((b.toNat * 2 ^ (8 * k) : Nat) : Int) := by rw [Int.mul_comm]; simp
  rw [IntWalk.u64_in (b.toNat : Int) ⟨by omega, by omega⟩, e0, e, IntWalk.u64_in ((b.toNat * 2 ^ (8 * k) : Nat) : Int) ⟨by omega, by omega⟩, ← Int.natCast_add]
  rw [gN, hb] at hl ⊢
  exact IntWalk.u64_in _ ⟨by omega, by omega⟩
set_option maxHeartbeats 1000000 in
theorem refGet_any (x : ByteArray) (p : Int) (s : Int) (w : World) (hl : x.size ≤ 1000000000000)
    (_h1 : -9223372036854775808 ≤ s) (_h2 : s ≤ 9223372036854775807) (h3 : -9223372036854775808 ≤ p) (h4 : p ≤ 9223372036854775807) :
    Calls Try.prog 24 #[.string x, .int .i64 p, .int .i64 s] w
      fun e w' => e = .returned (.tuple #[.int .u64 (getR x.data.toList p s).1, .bool (getR x.data.toList p s).2]) ∧ Below w.heap.size w w' := by
  have hk := cnt_le s
  have hdl : x.data.toList.length = x.size := data_length x
  by_cases hp0 : p < 0
  · have HN := Lib.hid (getR_no (l := x.data.toList) (p := p) (s := s) (by omega))
    clear hdl
    go_enter Try.func24, Try.ntmps24
    go_wp2_with (go_at_call 32; refine (refCount_any _ _).mono ?_; rintro e w' ⟨rfl, rfl⟩)
    go_ret2
    exact ⟨ret_u64b (by rw [HN.out]; rfl) (by rw [HN.out]), Below.refl _ _⟩
  obtain ⟨q, rfl⟩ : ∃ q : Nat, p = q := ⟨p.toNat, by omega⟩
  by_cases hp1 : x.size < q
  · have HN := Lib.hid (getR_no (l := x.data.toList) (p := q) (s := s) (by omega))
    clear hdl
    go_enter Try.func24, Try.ntmps24
    go_wp2_with (go_at_call 32; refine (refCount_any _ _).mono ?_; rintro e w' ⟨rfl, rfl⟩)
    go_ret2
    exact ⟨ret_u64b (by rw [HN.out]; rfl) (by rw [HN.out]), Below.refl _ _⟩
  by_cases hp2 : x.size < q + cnt s
  · have HN := Lib.hid (getR_no (l := x.data.toList) (p := q) (s := s) (by omega))
    clear hdl
    have i1 : (x.size : Int) - (q : Int) < (cnt s : Int) := by omega
    go_enter Try.func24, Try.ntmps24
    go_wp2_with (go_at_call 32; refine (refCount_any _ _).mono ?_; rintro e w' ⟨rfl, rfl⟩)
    go_ret2
    exact ⟨ret_u64b (by rw [HN.out]; rfl) (by rw [HN.out]), Below.refl _ _⟩
  have HN := Lib.hid (getR_yes (l := x.data.toList) (p := q) (s := s) (by omega))
  have i1 : ¬ (x.size : Int) - (q : Int) < (cnt s : Int) := by omega
  have HD := Lib.hid hdl
  clear hdl
  go_enter Try.func24, Try.ntmps24
  go_wp2_with (go_at_call 32; refine (refCount_any _ _).mono ?_; rintro e w' ⟨rfl, rfl⟩)
  clear i1
  go_loopw [9, 10, 11] (fun n t i wr => ∃ k : Nat, k ≤ cnt s ∧ i = .int .i64 k ∧ n = .int .u64 (gN x.data.toList q k) ∧ t = .int .u64 ((2 : Int) ^ (8 * k) % 18446744073709551616) ∧ Below w.heap.size w wr) (fun _ _ i _ => cnt s - (intOf i).toNat)
  case atStart => exact ⟨0, Nat.zero_le _, rfl, rfl, rfl, Below.refl _ _⟩
  case round =>
    obtain ⟨k, hk', rfl, rfl, rfl, hb⟩ := hrel
    by_cases hlt : k < cnt s
    · have hpl : q + k < x.size := by omega
      have i1 : (0 : Int) ≤ (q : Int) + (k : Int) := by omega
      have i2 : (q : Int) + (k : Int) < (x.size : Int) := by omega
      have e1 : ((q : Int) + (k : Int)).toNat = q + k := by omega
      have HT := Lib.hid (tms_step k)
      have HG := Lib.hid (gN_add x.data.toList q k x[q + k] (by omega) (data_getD hpl))
      go_wp2
      rw [HT.out, HG.out]
      go_roundw
      case rel => exact ⟨k + 1, by omega, by go_num, rfl, rfl, hb⟩
      case measure => simp [intOf]; omega
    · have : k = cnt s := by omega
      subst this
      go_wp2
      go_ret2
      exact ⟨ret_u64b (by rw [HN.out]; rfl) (by rw [HN.out]), hb⟩
end Go.Proofs.Ytdeplooijjfekaa
