import Derived.Test.YtkaafjcfcknbpaaMf
import Derived.Test.YtkaafjcfcknbpaaRn
namespace Go.Proofs.Ytkaafjcfcknbpaa
open Go Go.RowKit Go.Sort

/-! The document's Head. -/
set_option maxHeartbeats 1000000 in
theorem refHead_no (n k : Int) (w : World) (h : ¬ (1 ≤ k ∧ k ≤ 16)) : Calls Try.prog 8 #[.int .u32 n, .int .i64 k] w fun e w' => e = .returned (.tuple #[.string (bs []), .int .i64 1]) ∧ Below w.heap.size w w' := by
  by_cases h1 : k < 1
  · go_enter Try.func8, Try.ntmps8
    go_wp2_with fail
    go_ret2
    exact ⟨rfl, Below.refl _ _⟩
  · have h2 : (16 : Int) < k := by omega
    go_enter Try.func8, Try.ntmps8
    go_wp2_with fail
    go_ret2
    exact ⟨rfl, Below.refl _ _⟩
set_option maxHeartbeats 1000000 in
theorem refHead_yes (n k : Nat) (w : World) (hn : n < 4294967296) (h1 : 1 ≤ k) (h2 : k ≤ 16) : Calls Try.prog 8 #[.int .u32 (n : Int), .int .i64 (k : Int)] w fun e w' => e = .returned (.tuple #[.string (bs (headL n k)), .int .i64 0]) ∧ Below w.heap.size w w' := by
  have hk1 : ¬ ((k : Int) < 1) := by omega
  have hk2 : ¬ ((16 : Int) < (k : Int)) := by omega
  obtain ⟨A, hA⟩ : ∃ A, A = putL n 4 := ⟨_, rfl⟩
  obtain ⟨B, hB⟩ : ∃ B, B = putL k 2 := ⟨_, rfl⟩
  obtain ⟨L10, h10⟩ : ∃ L, L = hd10 n k := ⟨_, rfl⟩
  have h10l : L10.length = 10 := by rw [h10, hd10_length]
  obtain ⟨S, hS⟩ : ∃ S, moreL 0 L10 = S := ⟨_, rfl⟩
  have hSl : S < 4294967296 := by rw [← hS]; exact moreL_lt _ _
  obtain ⟨C, hC⟩ : ∃ C, C = putL S 4 := ⟨_, rfl⟩
  have HA := Lib.hid hA; have HB := Lib.hid hB; have HC := Lib.hid hC; have HS := Lib.hid hS
  have HT : Hid (ByteArray.mk #[83, 69, 71, 49] ++ bs A ++ bs B = bs L10) := by
    show _ = _
    rw [h10, hd10, ← hA, ← hB, show ByteArray.mk #[83, 69, 71, 49] = bs let7 from rfl, bs_append, bs_append, List.append_assoc]
  have HE : Hid (bs (headL n k) = bs L10 ++ bs C) := by
    show _ = _
    rw [bs_append, headL, ← h10, hS, ← hC]
  have z1 : (bs A).size = 4 := by rw [bs_size, hA, putL_length]
  have z2 : (bs B).size = 2 := by rw [bs_size, hB, putL_length]
  have z3 : (bs C).size = 4 := by rw [bs_size, hC, putL_length]
  have z4 : (bs L10).size = 10 := by rw [bs_size, h10l]
  have HL10 : Hid (L10.length ≤ 1000000000000) := by show _ ≤ _; omega
  have hw1 : IntKind.u64.wrap (n : Int) = (n : Int) := IntWalk.u64_in _ ⟨by omega, by omega⟩
  have hw2 : IntKind.u64.wrap (k : Int) = (k : Int) := IntWalk.u64_in _ ⟨by omega, by omega⟩
  have hw3 : IntKind.u64.wrap (S : Int) = (S : Int) := IntWalk.u64_in _ ⟨by omega, by omega⟩
  clear hA hB hC hS h10 h10l
  go_enter Try.func8, Try.ntmps8
  go_wp2_with fail
  refine (refPut6_is n 4 4 A _ rfl HA.out (by omega)).mono ?_; rintro e w1 ⟨rfl, hb1⟩
  have HB1 := Lib.hid hb1; clear hb1
  go_wp2_with fail
  refine (refPut6_is k 2 2 B _ rfl HB.out (by omega)).mono ?_; rintro e w2 ⟨rfl, hb2⟩
  have HB2 := Lib.hid (bel2 HB1.out hb2); clear hb2
  go_wp2_with fail
  rw [HT.out]
  refine (refSum_is _ L10 S _ rfl HS.out HL10.out).mono ?_; rintro e w3 ⟨rfl, hb3⟩
  have HB3 := Lib.hid (bel2 HB2.out hb3); clear hb3
  go_wp2_with fail
  refine (refPut6_is S 4 4 C _ rfl HC.out (by omega)).mono ?_; rintro e w4 ⟨rfl, hb4⟩
  have HB4 := Lib.hid (bel2 HB3.out hb4); clear hb4
  go_wp2_with fail
  go_ret2
  rw [← HE.out]
  exact ⟨rfl, HB4.out⟩
theorem refHead_any (n : Nat) (k : Int) (w : World) (hn : n < 4294967296) : Calls Try.prog 8 #[.int .u32 (n : Int), .int .i64 k] w fun e w' => e = .returned (.tuple #[.string (bs (headB n k)), .int .i64 (headE k : Nat)]) ∧ Below w.heap.size w w' := by
  unfold headB headE
  by_cases h : 1 ≤ k ∧ k ≤ 16
  · obtain ⟨q, rfl⟩ : ∃ q : Nat, k = q := ⟨k.toNat, by omega⟩
    rw [if_pos h, if_pos h, Int.toNat_natCast]
    exact refHead_yes n q w hn (by omega) (by omega)
  · rw [if_neg h, if_neg h]
    exact refHead_no n k w h
end Go.Proofs.Ytkaafjcfcknbpaa
