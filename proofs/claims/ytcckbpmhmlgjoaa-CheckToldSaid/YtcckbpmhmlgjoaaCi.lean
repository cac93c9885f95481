import Derived.Test.YtcckbpmhmlgjoaaCh
namespace Go.Proofs.Ytcckbpmhmlgjoaa
open Go Go.RowKit

theorem mul_xor (a x y : Nat) : 2 ^ a * (x ^^^ y) = 2 ^ a * x ^^^ 2 ^ a * y := by
  have := Nat.shiftLeft_xor_distrib (i := a) (a := x) (b := y)
  rw [Nat.shiftLeft_eq, Nat.shiftLeft_eq, Nat.shiftLeft_eq, Nat.mul_comm _ (2 ^ a), Nat.mul_comm _ (2 ^ a), Nat.mul_comm _ (2 ^ a)] at this
  exact this
theorem told_step {l m : List UInt8} {first E k I J : Nat} (h : le m = le l ^^^ 2 ^ first * E) (hI : I < m.length) (hJ : J < 8) (hT : 8 * I + J = first + k) {c : UInt8} (hc : c.toNat = m[I].toNat ^^^ 2 ^ J) :
    le (m.set I c) = le l ^^^ 2 ^ first * (E ^^^ 2 ^ k) := by
  rw [le_set m I hI J hJ c hc, h, hT, mul_xor, Nat.xor_assoc, Nat.pow_add]
theorem told_lt {E k : Nat} (h : E < 2 ^ k) : E ^^^ 2 ^ k < 2 ^ (k + 1) :=
  Nat.xor_lt_two_pow (Nat.lt_of_lt_of_le h (Nat.pow_le_pow_right (by omega) (by omega))) (Nat.pow_lt_pow_right (by omega) (by omega))
theorem told_ne {E k : Nat} (h : E < 2 ^ k) : E ^^^ 2 ^ k ≠ 0 := fun h0 => by
  have := congrArg (· ^^^ 2 ^ k) h0
  simp [Nat.xor_assoc] at this
  omega
theorem bV_set (m : List UInt8) (i : Nat) (n : UInt8) : bV (m.set i n) = (bV m).set i (.int .u8 (n.toNat : Int)) := by simp [bV, List.map_set]
theorem bit_of (B : Nat) (hB : B < 4294967296) : bits BinOp.and IntKind.u32 (B : Int) 1 = ((B % 2 : Nat) : Int) := by
  rw [← nat_mask1]; exact u32_and_nat B 1 hB (by omega)
set_option maxHeartbeats 4000000 in
theorem law_told (a : Option Addr) (c : Nat) (l : List UInt8) (p q : Nat) (w : World) (hr : Rd w w.heap.size a (bV l)) (hlc : l.length ≤ c) (hc : c ≤ maxLen) (hp : p < 65536) (hq : q < 4294967296) :
    Calls Try.prog 5 #[.slice a l.length c, .int .u16 (p : Int), .int .u32 (q : Int)] w fun e w' => e = .returned (.bool true) ∧ Below w.heap.size w w' := by
  have HR := Lib.hid hr; clear hr
  unfold maxLen at hc
  have hlm : l.length ≤ 9223372036854775807 := by omega
  by_cases hlong : 2000 < l.length
  · go_enter Try.func5, Try.ntmps5
    go_wp2_with (go_at_call 7; refine (fixed_any _).mono ?_; rintro e w' ⟨rfl, hb⟩)
    go_ret
    exact ⟨rfl, hb⟩
  by_cases hnone : l.length = 0
  · go_enter Try.func5, Try.ntmps5
    go_wp2_with (go_at_call 7; refine (fixed_any _).mono ?_; rintro e w' ⟨rfl, hb⟩)
    go_ret
    exact ⟨rfl, hb⟩
  have hl : l.length ≤ 1000000000000 := by omega
  have hl2 : l.length ≤ 2000 := by omega
  have hpos : 0 < l.length := by omega
  obtain ⟨first, hf⟩ : ∃ first, first = p % (8 * l.length) := ⟨_, rfl⟩
  have hfl : first < 8 * l.length := by rw [hf]; exact Nat.mod_lt _ (by omega)
  have hfirst : (p : Int) % (8 * (l.length : Int)) = (first : Int) := by rw [hf]; simp
  clear hf
  have hw : IntKind.i64.wrap (p : Int) = (p : Int) := IntWalk.i64_in _ ⟨by omega, by omega⟩
  have hnz : ¬ (8 * (l.length : Int) = 0) := by omega
  have hz1' : ((l.length : Int) == 0) = false := beq_eq_false_iff_ne.2 (by omega)
  have hz2' : ¬ (2000 < (l.length : Int)) := by omega
  obtain ⟨i0, hi0, hz0, hz1, hz2⟩ := info_parts info_u8
  have HZ2 := Lib.hid hz2; clear hz2
  have HR1 := Lib.hid (HR.out.below (box1 w (.cells #[] 5)))
  go_enter Try.func5, Try.ntmps5
  go_wp2_with (refine wpList_append_rd _ rfl (.tmp 21) (.tmp 22) 22 rfl w.heap.size 5 i0 _ 1 1 Try.underlying22 hi0 hz0 hz1 HZ2.out rfl (by omega) (.slice (some ⟨w.heap.size, 0, none⟩) 0 0) 0 [] rfl (World.ownsRow_made w #[] 0 (Nat.le_refl _) (by decide) rfl) _ _ l.length _ (bV l) rfl (by rw [bV_length, Nat.mul_one]) HR1.out (bV_one _) (by unfold maxLen; omega) (by omega) (by simp) ?_
               intro v7 w1 hown1 hg1 _
               have HO1 := Lib.hid hown1; have HG1 := Lib.hid hg1; clear hown1 hg1)
  clear hfirst hw hz1' hz2' hz0 hz1 HZ2 HR1 hnone hlong hp
  have HB1 : Hid (Below w.heap.size w w1) := Below.of_grown (box1 w _) HG1.out (by simp) (by intro g h; simp [Value.ownBlock] at h; omega)
  obtain ⟨cap, g, rfl⟩ : ∃ cap g, v7 = .slice (some ⟨g, 0, none⟩) l.length cap := by
    obtain ⟨a7, c7, rfl, _, _, hx⟩ := own_slice HO1.out
    obtain ⟨g, rfl, _⟩ := hx (by omega)
    exact ⟨c7, g, by rw [Nat.zero_add]⟩
  have HOL : Hid (w1.ownsRow w.heap.size 5 1 (.slice (some ⟨g, 0, none⟩) l.length cap) l.length (bV l)) := by
    have h := HO1.out
    rw [Nat.zero_add, List.nil_append] at h
    exact h
  have HC : Hid (l.length ≤ cap) := by
    obtain ⟨_, _, he, h, _⟩ := own_slice HOL.out
    injection he with _ _ h3; subst h3; exact h
  clear HO1 HG1
  have hmul : (8 : Int) * (l.length : Int) ≤ 16000 := by omega
  go_loopw [9, 30] (fun v9 i wr => ∃ (k E : Nat) (m : List UInt8), k ≤ 32 ∧ i = .int .i64 k ∧ v9 = .bool (decide (E = 0)) ∧ m.length = l.length ∧ E < 2 ^ k ∧ le m = le l ^^^ 2 ^ first * E ∧
    wr.ownsRow w.heap.size 5 1 (.slice (some ⟨g, 0, none⟩) l.length cap) l.length (bV m) ∧ Below w.heap.size w wr) (fun _ i _ => 32 - (intOf i).toNat)
  case atStart => exact ⟨0, 0, l, Nat.zero_le _, rfl, rfl, rfl, by decide, by simp, HOL.out, HB1.out⟩
  case round =>
    obtain ⟨k, E, m, hk, rfl, rfl, hm, hE, hle, hown, hb⟩ := hrel
    have HE := Lib.hid hE; have HLE := Lib.hid hle; have HO := Lib.hid hown; have HB := Lib.hid hb; have HM := Lib.hid hm
    clear hE hle hown hb hm
    by_cases hlt : k < 32
    · obtain ⟨T, hT⟩ : ∃ T, T = first + k := ⟨_, rfl⟩
      have hTi : (first : Int) + (k : Int) = (T : Int) := by omega
      have HT := Lib.hid hT; clear hT
      have hTl : T < 16100 := by rw [HT.out]; omega
      obtain ⟨B, hB⟩ : ∃ B, B = q / 2 ^ k := ⟨_, rfl⟩
      have hBl : B < 4294967296 := by rw [hB]; exact Nat.lt_of_le_of_lt (Nat.div_le_self _ _) hq
      have hBi : (q : Int) / 2 ^ k = (B : Int) := by rw [hB]; simp
      clear hB
      have hbit := bit_of B hBl
      clear hBl
      by_cases hbt : B % 2 = 1
      · rw [hbt, Int.natCast_one] at hbit
        by_cases hin : T < 8 * l.length
        · have hin' : (T : Int) < 8 * (l.length : Int) := by omega
          obtain ⟨I, hI⟩ : ∃ I, I = T / 8 := ⟨_, rfl⟩
          obtain ⟨J, hJ⟩ : ∃ J, J = T % 8 := ⟨_, rfl⟩
          have hIi : (T : Int) / 8 = (I : Int) := by omega
          have hJi : (T : Int) % 8 = (J : Int) := by omega
          have hIl : I < l.length := by omega
          have hJl : J < 8 := by omega
          have HIJ : Hid (8 * I + J = first + k) := by show _ = _; rw [← HT.out]; omega
          clear hI hJ hin
          have hIm : I < m.length := by rw [HM.out]; exact hIl
          have hcell := HO.out.cellAt I (by omega)
          rw [bV_get m I hIm] at hcell
          obtain ⟨M, hM⟩ : ∃ M, m[I] = M := ⟨_, rfl⟩
          rw [hM] at hcell
          have hP : 2 ^ J < 256 := Nat.pow_lt_pow_right (n := 8) (by omega) hJl
          obtain ⟨N, hN⟩ : ∃ N : UInt8, N.toNat = M.toNat ^^^ 2 ^ J := ⟨UInt8.ofNat (M.toNat ^^^ 2 ^ J), by rw [UInt8.toNat_ofNat']; exact Nat.mod_eq_of_lt (Nat.xor_lt_two_pow (n := 8) M.toNat_lt hP)⟩
          have hx : bits BinOp.xor IntKind.u8 (M.toNat : Int) ((2 : Int) ^ J % 256) = (N.toNat : Int) := by
            have e : (2 : Int) ^ J % 256 = ((2 ^ J : Nat) : Int) := by
              rw [show (2 : Int) ^ J = ((2 ^ J : Nat) : Int) by simp]
              generalize 2 ^ J = X at hP; omega
            rw [e, hN]; exact u8_xor_nat M.toNat (2 ^ J) M.toNat_lt hP
          have hfr := HO.out.frozenAt I
          have hst := HO.out.stored I (.int .u8 (N.toNat : Int))
          have HST := Lib.hid hst
          have HLE2 := Lib.hid (told_step HLE.out hIm hJl HIJ.out (by rw [hM]; exact hN))
          have HGB := Lib.hid (own_shape HO.out rfl).1
          clear hst hN hM
          go_wp2_with fail
          go_roundw
          case rel => exact ⟨k + 1, E ^^^ 2 ^ k, m.set I N, by omega, by go_num, by rw [decide_eq_false (told_ne HE.out)], by rw [List.length_set]; exact HM.out, told_lt HE.out, HLE2.out, by rw [bV_set]; exact HST.out.1, HB.out.setCell (p := ⟨g, I, none⟩) HGB.out _⟩
          case measure => simp [intOf]; omega
        · have hin' : ¬ ((T : Int) < 8 * (l.length : Int)) := by omega
          go_wp2_with fail
          go_roundw
          case rel => exact ⟨k + 1, E, m, by omega, by go_num, rfl, HM.out, Nat.lt_of_lt_of_le HE.out (Nat.pow_le_pow_right (by omega) (by omega)), HLE.out, HO.out, HB.out⟩
          case measure => simp [intOf]; omega
      · have hb0 : B % 2 = 0 := by omega
        rw [hb0, Int.natCast_zero] at hbit
        go_wp2_with fail
        go_roundw
        case rel => exact ⟨k + 1, E, m, by omega, by go_num, rfl, HM.out, Nat.lt_of_lt_of_le HE.out (Nat.pow_le_pow_right (by omega) (by omega)), HLE.out, HO.out, HB.out⟩
        case measure => simp [intOf]; omega
    · obtain rfl : k = 32 := by omega
      have HTD := Lib.hid (told (m := m) (l := l) HM.out (first := first) (E := E) (Nat.le_of_lt hfl) HE.out HLE.out)
      have HA := Lib.hid ((HR.out.below HB.out).more HB.out.size)
      have HD := Lib.hid (Rd.own HO.out)
      obtain ⟨Sl, hSl⟩ : ∃ S, S = moreL 0 l := ⟨_, rfl⟩
      obtain ⟨Sm, hSm⟩ : ∃ S, S = moreL 0 m := ⟨_, rfl⟩
      rw [← hSl, ← hSm] at HTD
      have HSl := Lib.hid hSl; have HSm := Lib.hid hSm; clear hSl hSm
      have HBE : Hid (((Sm : Int) == (Sl : Int)) = decide (E = 0)) := by
        show _ = _
        by_cases h0 : E = 0
        · rw [HTD.out.2 h0, decide_eq_true h0]; simp
        · rw [decide_eq_false h0]
          exact beq_eq_false_iff_ne.2 fun e => h0 (HTD.out.1 (Int.ofNat.inj e))
      go_wp2_with fail
      refine (fixed_any _).mono ?_; rintro e w2 ⟨rfl, hb2⟩
      have HA2 := Lib.hid ((HA.out.below hb2).more hb2.size); have HD2 := Lib.hid ((HD.out.below hb2).more hb2.size)
      go_wp2_with fail
      refine (sum_is _ _ cap m w2 HM.out.symm Sm HSm.out HD2.out (by rw [HM.out]; exact hl)).mono ?_; rintro e w3 ⟨rfl, hb3⟩
      have HA3 := Lib.hid ((HA2.out.below hb3).more hb3.size)
      go_wp2_with fail
      refine (sum_is a _ c l w3 rfl Sl HSl.out HA3.out hl).mono ?_; rintro e w4 ⟨rfl, hb4⟩
      go_wp2_with fail
      go_ret
      exact ⟨ret_bool (by rw [HBE.out]; simp), bel2 HB.out (bel2 (bel2 hb2 hb3) hb4)⟩
end Go.Proofs.Ytcckbpmhmlgjoaa
