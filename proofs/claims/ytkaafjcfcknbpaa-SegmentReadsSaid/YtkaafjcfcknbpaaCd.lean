import Derived.Test.YtkaafjcfcknbpaaCc
namespace Go.Proofs.Ytkaafjcfcknbpaa
open Go Go.RowKit

/-- Bit by bit. -/
def bit1 (s x : Nat) : Nat := if s % 2 = x % 2 then s / 2 else s / 2 ^^^ 3988292384
def bitN : Nat → Nat → Nat → Nat
  | 0, s, _ => s
  | j + 1, s, x => bit1 (bitN j s x) (x / 2 ^ j)
theorem bit1_st (s x : Nat) : bit1 s x ^^^ x / 2 = st (s ^^^ x) := by
  have h1 : (s ^^^ x) / 2 = s / 2 ^^^ x / 2 := Nat.xor_div_two
  have h2 : (s ^^^ x) % 2 = 1 ↔ ¬ (s % 2 = 1 ↔ x % 2 = 1) := Nat.xor_mod_two_eq_one
  unfold bit1
  by_cases h : s % 2 = x % 2
  · rw [if_pos h, st_even (by rw [h2, h]; simp), h1]
  · rw [if_neg h, st_odd (by rw [h2]; omega), h1, Nat.xor_assoc, Nat.xor_comm 3988292384, Nat.xor_assoc]
theorem bitN_st (s x : Nat) : ∀ j, bitN j s x ^^^ x / 2 ^ j = stN j (s ^^^ x)
  | 0 => by rw [bitN, Nat.pow_zero, Nat.div_one]; rfl
  | j + 1 => by rw [bitN, stN_succ, ← bitN_st s x j, ← bit1_st, Nat.pow_succ, Nat.div_div_eq_div_mul]
theorem bitN_byte (s : Nat) (c : UInt8) : bitN 8 s c.toNat = upd s c := by
  have h := bitN_st s c.toNat 8
  have h0 : c.toNat / 2 ^ 8 = 0 := Nat.div_eq_of_lt c.toNat_lt
  rw [h0, Nat.xor_zero] at h
  exact h
theorem bit1_lt {s : Nat} (x : Nat) (h : s < 4294967296) : bit1 s x < 4294967296 := by
  unfold bit1; split
  · omega
  · exact xor_lt32 (by omega) (by omega)
theorem bitN_lt (x : Nat) {s : Nat} (h : s < 4294967296) : ∀ j, bitN j s x < 4294967296
  | 0 => h
  | j + 1 => bit1_lt _ (bitN_lt x h j)
set_option maxHeartbeats 1000000 in
theorem refMore_any (s : Nat) (t : ByteArray) (w : World) (hs : s < 4294967296) (ht : t.size ≤ 1000000000000) :
    Calls Try.prog 42 #[.int .u32 (s : Int), .string t] w fun e w' => e = .returned (.int .u32 (moreL s t.data.toList : Nat)) ∧ Below w.heap.size w w' := by
  have hi0 : (4294967295 - (s : Int)) = ((inv s : Nat) : Int) := by unfold inv; omega
  go_enter Try.func42, Try.ntmps42
  go_wp2_with fail
  go_loopw [5, 6] (fun sv i wr => ∃ k : Nat, k ≤ t.size ∧ i = .int .i64 k ∧ sv = .int .u32 (crc (inv s) (t.data.toList.take k) : Nat) ∧ Below w.heap.size w wr) (fun _ i _ => t.size - (intOf i).toNat)
  case atStart => exact ⟨0, by omega, rfl, by rw [List.take_zero, crc_nil], Below.refl _ _⟩
  case round =>
    obtain ⟨k, hk, rfl, rfl, hb⟩ := hrel
    have HB := Lib.hid hb; clear hb
    have hS := crc_lt (t.data.toList.take k) (inv_lt s)
    by_cases hlt : k < t.size
    · have i1 : (0 : Int) ≤ (k : Int) := by omega
      have i2 : (k : Int) < (t.size : Int) := by omega
      obtain ⟨C, hC⟩ : ∃ C : UInt8, t[k] = C := ⟨_, rfl⟩
      have HN := Lib.hid (crc_take t.data.toList k (by rw [data_length]; exact hlt) (inv s))
      have HC : Hid (t.data.toList[k]'(by rw [data_length]; exact hlt) = C) := hC
      rw [HC.out] at HN
      have hCw : IntKind.u32.wrap (C.toNat : Int) = (C.toNat : Int) := IntWalk.u32_in _ ⟨by omega, by have := C.toNat_lt; omega⟩
      obtain ⟨S, hSe⟩ : ∃ S, S = crc (inv s) (t.data.toList.take k) := ⟨_, rfl⟩
      rw [← hSe] at hS HN ⊢
      clear hSe HC
      have HB8 := Lib.hid (bitN_byte S C)
      go_wp2_with fail
      go_loop [5, 7, 8] (fun cv xv i => ∃ j : Nat, j ≤ 8 ∧ i = .int .i64 j ∧ cv = .int .u32 (bitN j S C.toNat : Nat) ∧ xv = .int .u32 (C.toNat / 2 ^ j : Nat)) (fun _ _ i => 8 - (intOf i).toNat)
      case atStart => exact ⟨0, by omega, rfl, rfl, by rw [Nat.pow_zero, Nat.div_one]⟩
      case round =>
        obtain ⟨j, hj, rfl, rfl, rfl⟩ := hrel
        by_cases hjl : j < 8
        · have hX : C.toNat / 2 ^ j < 4294967296 := Nat.lt_of_le_of_lt (Nat.div_le_self _ _) (by have := C.toNat_lt; omega)
          have hT := bitN_lt C.toNat hS j
          have HE : Hid (bitN (j + 1) S C.toNat = bit1 (bitN j S C.toNat) (C.toNat / 2 ^ j)) := rfl
          have HD : Hid (C.toNat / 2 ^ (j + 1) = C.toNat / 2 ^ j / 2) := by show _ = _; rw [Nat.pow_succ, Nat.div_div_eq_div_mul]
          generalize bitN j S C.toNat = T at hT HE ⊢
          generalize C.toNat / 2 ^ j = X at hX HE HD ⊢
          have e2 : ((T / 2 : Nat) : Int) = (T : Int) / 2 := by omega
          by_cases he : T % 2 = X % 2
          · have HF : Hid (bit1 T X = T / 2) := if_pos he
            have h1 : (((T : Int) % 2) != ((X : Int) % 2)) = false := by simp; omega
            go_wp2_with fail
            go_round
            case rel => exact ⟨j + 1, by omega, by go_num, by rw [HE.out, HF.out, e2], by rw [HD.out]; simp⟩
            case measure => simp [intOf]; omega
          · have HF : Hid (bit1 T X = T / 2 ^^^ 3988292384) := if_neg he
            have h1 : (((T : Int) % 2) != ((X : Int) % 2)) = true := by simp; omega
            have HX2 : bits BinOp.xor IntKind.u32 ((T : Int) / 2) 3988292384 = ((T / 2 ^^^ 3988292384 : Nat) : Int) := by rw [← e2]; exact u32_xor_nat (T / 2) 3988292384 (by omega) (by omega)
            go_wp2_with fail
            go_round
            case rel => exact ⟨j + 1, by omega, by go_num, by rw [HE.out, HF.out], by rw [HD.out]; simp⟩
            case measure => simp [intOf]; omega
        · obtain rfl : j = 8 := by omega
          rw [HB8.out, ← HN.out]
          go_wp2_with fail
          go_roundw
          case rel => exact ⟨k + 1, by omega, by go_num, rfl, HB.out⟩
          case measure => simp [intOf]; omega
    · have : k = t.size := by omega
      subst this
      rw [List.take_of_length_le (by rw [data_length]; omega)] at hS ⊢
      have hi1 : (4294967295 - (crc (inv s) t.data.toList : Int)) = ((inv (crc (inv s) t.data.toList) : Nat) : Int) := by unfold inv at hS ⊢; omega
      go_wp2_with fail
      go_ret
      exact ⟨rfl, HB.out⟩
set_option maxHeartbeats 400000 in
theorem refSum_any (t : ByteArray) (w : World) (ht : t.size ≤ 1000000000000) :
    Calls Try.prog 21 #[.string t] w fun e w' => e = .returned (.int .u32 (moreL 0 t.data.toList : Nat)) ∧ Below w.heap.size w w' := by
  go_enter Try.func21, Try.ntmps21
  go_wp2_with fail
  refine (refMore_any 0 t _ (by omega) ht).mono ?_; rintro e w1 ⟨rfl, hb1⟩
  go_wp2_with fail
  go_ret
  exact ⟨rfl, hb1⟩
end Go.Proofs.Ytkaafjcfcknbpaa

