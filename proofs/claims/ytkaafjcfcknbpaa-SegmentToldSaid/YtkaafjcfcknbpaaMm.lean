import Derived.Test.YtkaafjcfcknbpaaMl
namespace Go.Proofs.Ytkaafjcfcknbpaa
open Go Go.RowKit Go.Sort

set_option maxRecDepth 20000 in
set_option maxHeartbeats 4000000 in
theorem law_told7 (n p q : Nat) (w : World) (hn : n < 4294967296) (hp : p < 256) (hq : q < 4294967296) :
    Calls Try.prog 6 #[.int .u32 (n : Int), .int .u8 (p : Int), .int .u32 (q : Int)] w fun e w' => e = .returned (.bool true) ∧ Below w.heap.size w w' := by
  obtain ⟨L, hL⟩ : ∃ L, L = headL n 5 := ⟨_, rfl⟩
  have hLl : L.length = 14 := by rw [hL, headL_length]
  have HL := Lib.hid hL; have HLL := Lib.hid hLl
  clear hL hLl
  obtain ⟨first, hf⟩ : ∃ first, first = p % 112 := ⟨_, rfl⟩
  have hfl : first < 112 := by have := Nat.mod_lt p (show 0 < 112 by omega); omega
  have hfirst : (p : Int) % 112 = (first : Int) := by rw [hf]; simp
  clear hf
  have hw : IntKind.i64.wrap (p : Int) = (p : Int) := IntWalk.i64_in _ ⟨by omega, by omega⟩
  have HNL := Lib.hid hn
  go_enter Try.func6, Try.ntmps6
  go_wp2_with fail
  refine (head_own n 5 w hn (by omega) (by omega)).mono ?_; rintro e w1 ⟨v1, rfl, ho1, hb1⟩
  rw [← HL.out] at ho1
  obtain ⟨g, cap, rfl⟩ : ∃ g cap, v1 = .slice (some ⟨g, 0, none⟩) 14 cap := by
    obtain ⟨a7, c7, rfl, _, _, hx⟩ := own_slice ho1
    obtain ⟨g, rfl, _⟩ := hx (by omega)
    exact ⟨g, c7, rfl⟩
  have HO1 := Lib.hid ho1; have HB1 := Lib.hid hb1
  clear ho1 hb1
  go_wp2_with fail
  go_loopw [9, 26] (fun v9 i wr => ∃ (k E : Nat) (m : List UInt8), k ≤ 32 ∧ i = .int .i64 k ∧ v9 = .bool (decide (E = 0)) ∧ E < 2 ^ k ∧ Turned L m 0 14 first E ∧
    wr.ownsRow w.heap.size 5 1 (.slice (some ⟨g, 0, none⟩) 14 cap) 14 (bV m) ∧ Below w.heap.size w wr) (fun _ i _ => 32 - (intOf i).toNat)
  case atStart => exact ⟨0, 0, L, Nat.zero_le _, rfl, rfl, by decide, Turned.start _ _ _ _, HO1.out, HB1.out⟩
  case round =>
    obtain ⟨k, E, m, hk, rfl, rfl, hE, htu, hown, hb⟩ := hrel
    have HE := Lib.hid hE; have HTU := Lib.hid htu; have HO := Lib.hid hown; have HB := Lib.hid hb
    have HMM : Hid (m.length = 14) := by show _ = _; rw [htu.1]; exact HLL.out
    clear hE htu hown hb
    by_cases hlt : k < 32
    · obtain ⟨T, hT⟩ : ∃ T, T = first + k := ⟨_, rfl⟩
      have hTi : (first : Int) + (k : Int) = (T : Int) := by omega
      have HT := Lib.hid hT; clear hT
      have hTl : T < 3000 := by rw [HT.out]; omega
      obtain ⟨B, hB⟩ : ∃ B, B = q / 2 ^ k := ⟨_, rfl⟩
      have hBl : B < 4294967296 := by rw [hB]; exact Nat.lt_of_le_of_lt (Nat.div_le_self _ _) hq
      have hBi : (q : Int) / 2 ^ k = (B : Int) := by rw [hB]; simp
      clear hB
      have hbit := bit_of B hBl
      clear hBl
      by_cases hbt : B % 2 = 1
      · rw [hbt, Int.natCast_one] at hbit
        by_cases hin : T < 112
        · have hin' : (T : Int) < 112 := by omega
          obtain ⟨I, hI⟩ : ∃ I, I = T / 8 := ⟨_, rfl⟩
          obtain ⟨J, hJ⟩ : ∃ J, J = T % 8 := ⟨_, rfl⟩
          have hIi : (T : Int) / 8 = (I : Int) := by omega
          have hJi : (T : Int) % 8 = (J : Int) := by omega
          have hIl : I < 14 := by omega
          have hJl : J < 8 := by omega
          have HIJ : Hid (8 * (I - 0) + J = first + k) := by show _ = _; have := HT.out; omega
          clear hI hJ hin
          have hIm : I < m.length := by rw [HMM.out]; exact hIl
          have hcell := HO.out.cellAt I (by omega)
          rw [bV_get m I hIm] at hcell
          obtain ⟨Y, hY⟩ : ∃ Y, m[I] = Y := ⟨_, rfl⟩
          rw [hY] at hcell
          have hP : 2 ^ J < 256 := Nat.pow_lt_pow_right (n := 8) (by omega) hJl
          obtain ⟨Z, hZ⟩ : ∃ Z : UInt8, Z.toNat = Y.toNat ^^^ 2 ^ J := ⟨UInt8.ofNat (Y.toNat ^^^ 2 ^ J), by rw [UInt8.toNat_ofNat']; exact Nat.mod_eq_of_lt (Nat.xor_lt_two_pow (n := 8) Y.toNat_lt hP)⟩
          have hx : bits BinOp.xor IntKind.u8 (Y.toNat : Int) ((2 : Int) ^ J % 256) = (Z.toNat : Int) := by
            have e : (2 : Int) ^ J % 256 = ((2 ^ J : Nat) : Int) := by
              rw [show (2 : Int) ^ J = ((2 ^ J : Nat) : Int) by simp]
              generalize 2 ^ J = X at hP; omega
            rw [e, hZ]; exact u8_xor_nat Y.toNat (2 ^ J) Y.toNat_lt hP
          have hfr := HO.out.frozenAt I
          have hst := HO.out.stored I (.int .u8 (Z.toNat : Int))
          have HST := Lib.hid hst
          have HNX := Lib.hid (HTU.out.next (by rw [HLL.out]; omega) (Nat.zero_le _) hIl hJl HIJ.out hIm (by rw [hY]; exact hZ))
          have HGB := Lib.hid (own_shape HO.out rfl).1
          clear hst hZ hY
          go_wp2_with fail
          go_roundw
          case rel => exact ⟨k + 1, E ^^^ 2 ^ k, m.set I Z, by omega, by go_num, by rw [decide_eq_false (told_ne HE.out)], told_lt HE.out, HNX.out, by rw [bV_set]; exact HST.out.1, HB.out.setCell (p := ⟨g, I, none⟩) HGB.out _⟩
          case measure => simp [intOf]; omega
        · have hin' : ¬ ((T : Int) < 112) := by omega
          go_wp2_with fail
          go_roundw
          case rel => exact ⟨k + 1, E, m, by omega, by go_num, rfl, Nat.lt_of_lt_of_le HE.out (Nat.pow_le_pow_right (by omega) (by omega)), HTU.out, HO.out, HB.out⟩
          case measure => simp [intOf]; omega
      · have hb0 : B % 2 = 0 := by omega
        rw [hb0, Int.natCast_zero] at hbit
        go_wp2_with fail
        go_roundw
        case rel => exact ⟨k + 1, E, m, by omega, by go_num, rfl, Nat.lt_of_lt_of_le HE.out (Nat.pow_le_pow_right (by omega) (by omega)), HTU.out, HO.out, HB.out⟩
        case measure => simp [intOf]; omega
    · obtain rfl : k = 32 := by omega
      have HD := Lib.hid (Rd.own HO.out)
      have HCC : Hid (14 ≤ cap ∧ cap ≤ maxLen) := by
        obtain ⟨_, _, he, h, h2, _⟩ := own_slice HO.out
        injection he with _ _ h3; subst h3; exact ⟨h, h2⟩
      have HC14 := Lib.hid HCC.out.1; have HCM := Lib.hid HCC.out.2
      by_cases h0 : E = 0
      · subst h0
        have hmL : m = L := HTU.out.same
        subst hmL
        go_wp2_with fail
        refine (read_head n 5 _ cap wr HNL.out (by omega) (by omega) (by rw [← HL.out]; exact HD.out) HC14.out HCM.out).mono ?_; rintro e w3 ⟨⟨a3, c3, rfl⟩, hb3⟩
        have HB3 := Lib.hid (bel2 HB.out hb3)
        clear hb3
        unfold sgV
        go_wp2_with fail
        obtain ⟨w4, hw4⟩ : ∃ w4, w4 = w3.alloc (.cells #[.int .u32 (n : Int), .int .i64 ((5 : Nat) : Int), .slice a3 0 c3, .int .i64 14, .bool false] 31) := ⟨_, rfl⟩
        have HRG : Hid (w4.rangeAt w3.heap.size 0 [.int .u32 (n : Int), .int .i64 ((5 : Nat) : Int), .slice a3 0 c3, .int .i64 14, .bool false]) := by show World.rangeAt _ _ _ _; rw [hw4]; exact rangeAt_last w3 _ _ _ rfl
        have HS4 : Hid (w3.heap.size < w4.heap.size) := by show _ < _; rw [hw4]; simp
        have HB4 : Hid (Below w.heap.size w w4) := by show Below _ _ _; rw [hw4]; exact HB3.out.alloc HB3.out.size _
        replace hw4 : w4 = w3.alloc (.cells #[.int .u32 (n : Int), .int .i64 5, .slice a3 0 c3, .int .i64 14, .bool false] 31) := hw4
        rw [← hw4]
        clear hw4
        refine (fixed7_any w4).mono ?_; rintro e w5 ⟨rfl, hb5⟩
        have s0 := range_below HRG.out hb5 HS4.out 0 _ rfl
        rw [Nat.zero_add] at s0
        have HB5 := Lib.hid (bel2 HB4.out hb5)
        clear hb5
        go_wp2_with fail
        go_ret
        exact ⟨ret_bool (by simp), HB5.out⟩
      · have HG : Hid (headOf m = .error 3 ∨ headOf m = .error 8) := by
          have h := HTU.out
          rw [HL.out] at h
          exact head_told h h0 HE.out
        have hread := read_any (some ⟨g, 0, none⟩) cap m wr HD.out (by rw [HMM.out]; omega) (by rw [HMM.out]; exact HC14.out) HCM.out
        rw [HMM.out] at hread
        have HREAD := Lib.hid hread
        clear hread
        go_wp2_with fail
        refine HREAD.out.mono ?_
        rintro e w3 ⟨hb3, (⟨er, hh, rfl⟩ | ⟨N', K', v, xs, hh, rfl, _⟩)⟩
        case inr => exfalso; rcases HG.out with h | h <;> · rw [h] at hh; cases hh
        have HB3 := Lib.hid (bel2 HB.out hb3)
        clear hb3
        have her : er = 3 ∨ er = 8 := by
          rcases HG.out with h | h
          · rw [h] at hh; injection hh with hh; exact .inl hh.symm
          · rw [h] at hh; injection hh with hh; exact .inr hh.symm
        clear hh
        unfold sgV
        go_wp2_with fail
        obtain ⟨w4, hw4⟩ : ∃ w4, w4 = w3.alloc (.cells #[.int .u32 ((0 : Nat) : Int), .int .i64 ((0 : Nat) : Int), .slice none 0 0, .int .i64 0, .bool false] 31) := ⟨_, rfl⟩
        have HRG : Hid (w4.rangeAt w3.heap.size 0 [.int .u32 ((0 : Nat) : Int), .int .i64 ((0 : Nat) : Int), .slice none 0 0, .int .i64 0, .bool false]) := by show World.rangeAt _ _ _ _; rw [hw4]; exact rangeAt_last w3 _ _ _ rfl
        have HS4 : Hid (w3.heap.size < w4.heap.size) := by show _ < _; rw [hw4]; simp
        have HB4 : Hid (Below w.heap.size w w4) := by show Below _ _ _; rw [hw4]; exact HB3.out.alloc HB3.out.size _
        replace hw4 : w4 = w3.alloc (.cells #[.int .u32 0, .int .i64 0, .slice none 0 0, .int .i64 0, .bool false] 31) := hw4
        rw [← hw4]
        clear hw4
        refine (fixed7_any w4).mono ?_; rintro e w5 ⟨rfl, hb5⟩
        have s1 := range_below HRG.out hb5 HS4.out 1 _ rfl
        have s3 := range_below HRG.out hb5 HS4.out 3 _ rfl
        rw [Nat.zero_add] at s1 s3
        have HB5 := Lib.hid (bel2 HB4.out hb5)
        clear hb5
        rcases her with rfl | rfl
        · go_wp2_with fail
          go_ret
          exact ⟨rfl, HB5.out⟩
        · go_wp2_with fail
          go_ret
          exact ⟨rfl, HB5.out⟩
end Go.Proofs.Ytkaafjcfcknbpaa
