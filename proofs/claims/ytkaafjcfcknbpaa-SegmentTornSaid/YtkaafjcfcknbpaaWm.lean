import Derived.Test.YtkaafjcfcknbpaaWg
import Derived.Lib.SlBytesConst
import Derived.Deep.WholeRow
namespace Go.Proofs.Ytkaafjcfcknbpaa
open Go Go.RowKit

/-! The program's Put: a span's bytes, field by field. -/
theorem put_is (a : Option Addr) (m c : Nat) (l : List UInt8) (n : Nat) (s : Int) (k : Nat) (hk : cnt s = k) (w : World) (hm : m = l.length) (hr : Rd w w.heap.size a (bV l)) (hl : l.length ≤ 1000000000000) (hlc : l.length ≤ c) (hn : n < 18446744073709551616)
    (h1 : -9223372036854775808 ≤ s) (h2 : s ≤ 9223372036854775807) (L : List UInt8) (hL : L = l ++ putL n k) : Calls Try.prog 18 #[.slice a m c, .int .u64 n, .int .i64 s] w (BytesOut w L) := by
  subst hm hk hL; exact put_out a c l n s w hr hl hlc hn h1 h2
theorem putText_is (a : Option Addr) (m c : Nat) (l : List UInt8) (s : ByteArray) (w : World) (hm : m = l.length) (hr : Rd w w.heap.size a (bV l)) (hl : l.length ≤ 1000000000000) (hlc : l.length ≤ c) (hs : s.size ≤ maxLen) (L : List UInt8) (hL : L = l ++ fldL s.data.toList) :
    Calls Try.prog 52 #[.slice a m c, .string s] w (BytesOut w L) := by
  subst hm hL; exact putText_out a c l s w hr hl hlc hs
set_option maxHeartbeats 4000000 in
theorem spanBytes_nat (a b c k st du : Nat) (h n : ByteArray) (w : World)
    (ha : a < 18446744073709551616) (hb : b < 18446744073709551616) (hc : c < 18446744073709551616) (hk : k < 256) (hst : st < 9223372036854775808) (hdu : du < 9223372036854775808) (hh : h.size ≤ 16) (hn : n.size ≤ 16) :
    Calls Try.prog 31 #[(⟨a, b, c, k, h, n, st, du⟩ : Sp).v] w (BytesOut w (spanL ⟨a, b, c, k, h, n, st, du⟩)) := by
  have HH := Lib.hid hh; have HN := Lib.hid hn; clear hh hn
  have w1 : IntKind.u64.wrap (k : Int) = (k : Int) := IntWalk.u64_in _ ⟨by omega, by omega⟩
  have w2 : IntKind.u64.wrap (st : Int) = (st : Int) := IntWalk.u64_in _ ⟨by omega, by omega⟩
  have w3 : IntKind.u64.wrap (du : Int) = (du : Int) := IntWalk.u64_in _ ⟨by omega, by omega⟩
  have HB0 := Lib.hid (box1 w (.cells (⟨a, b, c, k, h, n, st, du⟩ : Sp).c 54))
  have HX0 := Lib.hid (Box.new w ⟨a, b, c, k, h, n, st, du⟩ 54)
  have HF7 : Hid ((fldL h.data.toList).length = 17) := fldL_length (by have := HH.out; simpa using this)
  obtain ⟨l, e1⟩ : ∃ x : List UInt8, x = [] := ⟨_, rfl⟩
  have hl0 : l.length = 0 := by rw [e1]; rfl
  have HL0 := Lib.hid hl0
  obtain ⟨l2, e2⟩ : ∃ x, x = l ++ putL a 8 := ⟨_, rfl⟩
  obtain ⟨l3, e3⟩ : ∃ x, x = l2 ++ putL b 8 := ⟨_, rfl⟩
  obtain ⟨l4, e4⟩ : ∃ x, x = l3 ++ putL c 8 := ⟨_, rfl⟩
  obtain ⟨l5, e5⟩ : ∃ x, x = l4 ++ putL k 1 := ⟨_, rfl⟩
  obtain ⟨l6, e6⟩ : ∃ x, x = l5 ++ putL st 8 := ⟨_, rfl⟩
  obtain ⟨l7, e7⟩ : ∃ x, x = l6 ++ putL du 8 := ⟨_, rfl⟩
  obtain ⟨l8, e8⟩ : ∃ x, x = l7 ++ fldL h.data.toList := ⟨_, rfl⟩
  obtain ⟨l9, e9⟩ : ∃ x, x = l8 ++ fldL n.data.toList := ⟨_, rfl⟩
  have E : Hid (l9 = spanL ⟨a, b, c, k, h, n, st, du⟩) := by
    show _ = _; rw [e9, e8, e7, e6, e5, e4, e3, e2, e1]; simp only [spanL, Int.toNat_natCast, List.append_assoc, List.nil_append]
  have Q2 : Hid (l2.length = l.length + 8) := by show _ = _; rw [e2, List.length_append, putL_length]
  have Q3 : Hid (l3.length = l.length + 16) := by show _ = _; rw [e3, List.length_append, putL_length, Q2.out]
  have Q4 : Hid (l4.length = l.length + 24) := by show _ = _; rw [e4, List.length_append, putL_length, Q3.out]
  have Q5 : Hid (l5.length = l.length + 25) := by show _ = _; rw [e5, List.length_append, putL_length, Q4.out]
  have Q6 : Hid (l6.length = l.length + 33) := by show _ = _; rw [e6, List.length_append, putL_length, Q5.out]
  have Q7 : Hid (l7.length = l.length + 41) := by show _ = _; rw [e7, List.length_append, putL_length, Q6.out]
  have Q8 : Hid (l8.length = l.length + 58) := by show _ = _; rw [e8, List.length_append, HF7.out, Q7.out]
  have E2 := Lib.hid e2; have E3 := Lib.hid e3; have E4 := Lib.hid e4; have E5 := Lib.hid e5; have E6 := Lib.hid e6; have E7 := Lib.hid e7; have E8 := Lib.hid e8; have E9 := Lib.hid e9
  rw [← E.out]
  have E1 := Lib.hid e1
  clear e1 e2 e3 e4 e5 e6 e7 e8 e9 hl0
  unfold Sp.v
  go_enter Try.func31, Try.ntmps31
  go_wp2_with fail
  refine (put_is none 0 0 l a 8 8 rfl _ HL0.out.symm (by rw [E1.out]; exact Rd.nil _ _ _) (by rw [HL0.out]; omega) (by rw [HL0.out]; omega) ha (by omega) (by omega) l2 E2.out).mono ?_
  rintro e v1 ⟨a2, c2, rfl, hlc2, _, hr2, hb2⟩
  have hx2 := Box.below HX0.out hb2 HX0.out.1
  have HX2 := Lib.hid hx2; have HR2 := Lib.hid hr2; have HB2 := Lib.hid (bel2 HB0.out hb2)
  obtain ⟨_, d1, _, _, _, _, _, _⟩ := hx2.all
  have HL2 := Lib.hid hlc2
  clear hr2 hb2 hx2 hlc2
  go_wp2_with fail
  refine (put_is a2 _ c2 l2 b 8 8 rfl _ rfl HR2.out (by rw [Q2.out, HL0.out]; omega) HL2.out hb (by omega) (by omega) l3 E3.out).mono ?_
  rintro e v2 ⟨a3, c3, rfl, hlc3, _, hr3, hb3⟩
  have hx3 := Box.below HX2.out hb3 HX2.out.1
  have HX3 := Lib.hid hx3; have HR3 := Lib.hid hr3; have HB3 := Lib.hid (bel2 HB2.out hb3)
  clear d1
  obtain ⟨_, _, d2, _, _, _, _, _⟩ := hx3.all
  have HL3 := Lib.hid hlc3
  clear hr3 hb3 hx3 hlc3
  go_wp2_with fail
  refine (put_is a3 _ c3 l3 c 8 8 rfl _ rfl HR3.out (by rw [Q3.out, HL0.out]; omega) HL3.out hc (by omega) (by omega) l4 E4.out).mono ?_
  rintro e v3 ⟨a4, c4, rfl, hlc4, _, hr4, hb4⟩
  have hx4 := Box.below HX3.out hb4 HX3.out.1
  have HX4 := Lib.hid hx4; have HR4 := Lib.hid hr4; have HB4 := Lib.hid (bel2 HB3.out hb4)
  clear d2
  obtain ⟨_, _, _, d3, _, _, _, _⟩ := hx4.all
  have HL4 := Lib.hid hlc4
  clear hr4 hb4 hx4 hlc4
  go_wp2_with fail
  refine (put_is a4 _ c4 l4 k 1 1 rfl _ rfl HR4.out (by rw [Q4.out, HL0.out]; omega) HL4.out (by omega) (by omega) (by omega) l5 E5.out).mono ?_
  rintro e v4 ⟨a5, c5, rfl, hlc5, _, hr5, hb5⟩
  have hx5 := Box.below HX4.out hb5 HX4.out.1
  have HX5 := Lib.hid hx5; have HR5 := Lib.hid hr5; have HB5 := Lib.hid (bel2 HB4.out hb5)
  clear d3
  obtain ⟨_, _, _, _, _, _, d6, _⟩ := hx5.all
  have HL5 := Lib.hid hlc5
  clear hr5 hb5 hx5 hlc5
  go_wp2_with fail
  refine (put_is a5 _ c5 l5 st 8 8 rfl _ rfl HR5.out (by rw [Q5.out, HL0.out]; omega) HL5.out (by omega) (by omega) (by omega) l6 E6.out).mono ?_
  rintro e v5 ⟨a6, c6, rfl, hlc6, _, hr6, hb6⟩
  have hx6 := Box.below HX5.out hb6 HX5.out.1
  have HX6 := Lib.hid hx6; have HR6 := Lib.hid hr6; have HB6 := Lib.hid (bel2 HB5.out hb6)
  clear d6
  obtain ⟨_, _, _, _, _, _, _, d7⟩ := hx6.all
  have HL6 := Lib.hid hlc6
  clear hr6 hb6 hx6 hlc6
  go_wp2_with fail
  refine (put_is a6 _ c6 l6 du 8 8 rfl _ rfl HR6.out (by rw [Q6.out, HL0.out]; omega) HL6.out (by omega) (by omega) (by omega) l7 E7.out).mono ?_
  rintro e v6 ⟨a7, c7, rfl, hlc7, _, hr7, hb7⟩
  have hx7 := Box.below HX6.out hb7 HX6.out.1
  have HX7 := Lib.hid hx7; have HR7 := Lib.hid hr7; have HB7 := Lib.hid (bel2 HB6.out hb7)
  clear d7
  obtain ⟨_, _, _, _, d4, _, _, _⟩ := hx7.all
  have HL7 := Lib.hid hlc7
  clear hr7 hb7 hx7 hlc7
  go_wp2_with fail
  refine (putText_is a7 _ c7 l7 h _ rfl HR7.out (by rw [Q7.out, HL0.out]; omega) HL7.out (by have := HH.out; unfold maxLen; omega) l8 E8.out).mono ?_
  rintro e v7 ⟨a8, c8, rfl, hlc8, _, hr8, hb8⟩
  have hx8 := Box.below HX7.out hb8 HX7.out.1
  have HR8 := Lib.hid hr8; have HB8 := Lib.hid (bel2 HB7.out hb8)
  clear d4
  obtain ⟨_, _, _, _, _, d5, _, _⟩ := hx8.all
  have HL8 := Lib.hid hlc8
  clear hr8 hb8 hx8 hlc8
  go_wp2_with fail
  refine (putText_is a8 _ c8 l8 n _ rfl HR8.out (by rw [Q8.out, HL0.out]; omega) HL8.out (by have := HN.out; unfold maxLen; omega) l9 E9.out).mono ?_
  rintro e v8 ⟨a9, c9, rfl, hlc9, hcm9, hr9, hb9⟩
  have HR9 := Lib.hid hr9; have HB9 := Lib.hid (bel2 HB8.out hb9); have HL9 := Lib.hid hlc9; have HC9 := Lib.hid hcm9
  clear d5 hr9 hb9 hlc9 hcm9
  go_wp2_with fail
  go_ret
  exact ⟨a9, c9, rfl, HL9.out, HC9.out, HR9.out, HB9.out⟩
theorem spanBytes_any (s : Sp) (w : World) (ok : s.Ok) (hm : mayB s = true) :
    Calls Try.prog 31 #[s.v] w (BytesOut w (spanL s)) := by
  obtain ⟨_, _, _, hs1, hs2, hd1, hd2, h1, h2⟩ := mayB_parts hm
  obtain ⟨⟨x1, x2⟩, ⟨b1, b2⟩, ⟨c1', c2'⟩, ⟨d1, d2⟩, _, _, _, _⟩ := ok
  obtain ⟨a, b, c, k, h, n, st, du⟩ := s
  simp only at *
  obtain ⟨a, rfl⟩ := Int.eq_ofNat_of_zero_le x1
  obtain ⟨b, rfl⟩ := Int.eq_ofNat_of_zero_le b1
  obtain ⟨c, rfl⟩ := Int.eq_ofNat_of_zero_le c1'
  obtain ⟨k, rfl⟩ := Int.eq_ofNat_of_zero_le d1
  obtain ⟨st, rfl⟩ := Int.eq_ofNat_of_zero_le hs1
  obtain ⟨du, rfl⟩ := Int.eq_ofNat_of_zero_le hd1
  exact spanBytes_nat a b c k st du h n w (by omega) (by omega) (by omega) (by omega) (by omega) (by omega) h1 h2
set_option maxHeartbeats 400000 in
theorem batchSize_is (k K : Nat) (hK : 6 + 75 * k = K) (w : World) (h : k ≤ 1000000000000) :
    Calls Try.prog 30 #[.int .i64 (k : Int)] w fun e w' => e = .returned (.int .i64 (K : Int)) ∧ w = w' := by
  have h1 : IntKind.i64.wrap ((k : Int) * 75) = (k : Int) * 75 := IntWalk.i64_in _ ⟨by omega, by omega⟩
  have h2 : IntKind.i64.wrap (6 + (k : Int) * 75) = (K : Int) := by rw [← hK]; exact (IntWalk.i64_in _ ⟨by omega, by omega⟩).trans (by omega)
  have HE := Lib.hid hK
  clear hK
  go_enter Try.func30, Try.ntmps30
  go_wp2_with fail
  go_ret
  exact ⟨rfl, rfl⟩
set_option maxHeartbeats 400000 in
theorem countMay_is (k : Nat) (b : Bool) (hb : (decide (1 ≤ k) && decide (k ≤ 32)) = b) (w : World) :
    Calls Try.prog 50 #[.int .i64 (k : Int)] w fun e w' => e = .returned (.bool b) ∧ w = w' := by
  by_cases h0 : 1 ≤ k
  · have g0 : decide ((1 : Int) ≤ (k : Int)) = true := decide_eq_true (by omega)
    by_cases h1 : k ≤ 32
    · have g1 : decide ((k : Int) ≤ 32) = true := decide_eq_true (by omega)
      have HE : Hid (b = true) := by show _ = _; rw [← hb]; simp [h0, h1]
      clear hb
      go_enter Try.func50, Try.ntmps50
      go_wp2_with fail
      go_ret
      exact ⟨ret_bool HE.out.symm, rfl⟩
    · have g1 : decide ((k : Int) ≤ 32) = false := decide_eq_false (by omega)
      have HE : Hid (b = false) := by show _ = _; rw [← hb]; simp [h1]
      clear hb
      go_enter Try.func50, Try.ntmps50
      go_wp2_with fail
      go_ret
      exact ⟨ret_bool HE.out.symm, rfl⟩
  · have g0 : decide ((1 : Int) ≤ (k : Int)) = false := decide_eq_false (by omega)
    have HE : Hid (b = false) := by show _ = _; rw [← hb]; simp [h0]
    clear hb
    go_enter Try.func50, Try.ntmps50
    go_wp2_with fail
    go_ret
    exact ⟨ret_bool HE.out.symm, rfl⟩
end Go.Proofs.Ytkaafjcfcknbpaa

