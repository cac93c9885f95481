import Derived.Test.YtdeplooijjfekaaRl
namespace Go.Proofs.Ytdeplooijjfekaa
open Go Go.RowKit

set_option maxHeartbeats 4000000 in
theorem law_ftold (a : Option Addr) (c : Nat) (l : List UInt8) (p q : Nat) (w : World) (hr : Rd w w.heap.size a (bV l)) (hlc : l.length ≤ c) (hc : c ≤ maxLen) (hp : p < 65536) (hq : q < 4294967296) :
    Calls Try.prog 6 #[.slice a l.length c, .int .u16 (p : Int), .int .u32 (q : Int)] w fun e w' => e = .returned (.bool true) ∧ Below w.heap.size w w' := by
  have HR := Lib.hid hr; clear hr
  unfold maxLen at hc
  have hlm : l.length ≤ 9223372036854775807 := by omega
  by_cases hlong : 300 < l.length
  · have z1 : ¬ ((l.length : Int) < 1) := by omega
    go_enter Try.func6, Try.ntmps6
    go_wp2_with (go_at_call 7; refine (fixed_any _).mono ?_; rintro e w' ⟨rfl, hb⟩)
    go_ret
    exact ⟨rfl, hb⟩
  by_cases hnone : l.length = 0
  · go_enter Try.func6, Try.ntmps6
    go_wp2_with (go_at_call 7; refine (fixed_any _).mono ?_; rintro e w' ⟨rfl, hb⟩)
    go_ret
    exact ⟨rfl, hb⟩
  have HM : Hid (mayF l.length = true) := mayF_iff.2 (by omega)
  obtain ⟨N, hN⟩ : ∃ N, N = l.length := ⟨_, rfl⟩
  obtain ⟨L, hL⟩ : ∃ L, L = frL l := ⟨_, rfl⟩
  have hLl : L.length = 6 + N := by rw [hL, frL_length, hN]
  obtain ⟨M, hM⟩ : ∃ M, M = L.length := ⟨_, rfl⟩
  have hM1 : M ≤ 6 + N := by omega
  have hM2 : 6 + N ≤ M := by omega
  have HL := Lib.hid hL; have HN := Lib.hid hN; have HML := Lib.hid hM
  rw [← hN] at hlong hnone hlm hlc ⊢
  clear hL hN hLl hM
  obtain ⟨first, hf⟩ : ∃ first, first = 16 + p % (8 * (N + 4)) := ⟨_, rfl⟩
  have hfl : first < 8 * (6 + N) := by have := Nat.mod_lt p (show 0 < 8 * (N + 4) by omega); omega
  have hf16 : 16 ≤ first := by omega
  have hfirst : 16 + (p : Int) % (8 * ((N : Int) + 4)) = (first : Int) := by rw [hf]; simp
  clear hf
  have hw : IntKind.i64.wrap (p : Int) = (p : Int) := IntWalk.i64_in _ ⟨by omega, by omega⟩
  have hnz : ¬ (8 * ((N : Int) + 4) = 0) := by omega
  have hz1' : ¬ ((N : Int) < 1) := by omega
  have hz2' : ¬ (300 < (N : Int)) := by omega
  obtain ⟨i0, hi0, hz0, hz1, hz2⟩ := info_parts info_u8
  have HZ2 := Lib.hid hz2; clear hz2
  have hne : ((M : Int) != 6 + (N : Int)) = false := by simp; omega
  by_cases h48 : 48 ≤ first
  · have h48i : (48 : Int) ≤ (first : Int) := by omega
    go_enter Try.func6, Try.ntmps6
    go_wp2_with fail
    refine (putR_is a N c l L 0 w HN.out (by rw [HM.out, HL.out]; rfl) HR.out).mono ?_; rintro e w1 ⟨b1, d1, rfl, hd1, hm1, hr1, hb1⟩
    have HR1 := Lib.hid hr1; have HB1 := Lib.hid hb1
    have hbs1 : w.heap.size ≤ w1.heap.size := hb1.size
    have RL := Lib.hid ((HR.out.below hb1).more hb1.size)
    rw [← HML.out] at hd1 ⊢
    clear hr1 hb1
    go_wp2_with (at_builtin; refine wpList_append_rd _ rfl _ _ 22 rfl w1.heap.size 5 i0 _ 1 1 Try.underlying22 hi0 hz0 hz1 HZ2.out rfl (by omega) (.slice (some ⟨w1.heap.size, 0, none⟩) 0 0) 0 [] rfl (World.ownsRow_made w1 #[] 0 (Nat.le_refl _) (by decide) rfl) _ _ M _ (bV L) rfl (by rw [bV_length, HML.out, Nat.mul_one]) (HR1.out.below (box1 w1 _)) (bV_one _) (by unfold maxLen; omega) (by omega) (by simp) ?_
                 intro v7 w2 hown2 hg2 _
                 rw [Nat.zero_add, List.nil_append] at hown2
                 have HO2 := Lib.hid hown2; have HB2 := Lib.hid (Below.of_grown (box1 w1 (.cells #[] 5)) hg2 (by simp) (by intro g hg; simp [Value.ownBlock] at hg; omega)); clear hown2 hg2)
    obtain ⟨cap, g, rfl⟩ : ∃ cap g, v7 = .slice (some ⟨g, 0, none⟩) M cap := by
      obtain ⟨a7, c7, rfl, _, _, hx⟩ := own_slice HO2.out
      obtain ⟨g, rfl, _⟩ := hx (by omega)
      exact ⟨c7, g, rfl⟩
    have HCC : Hid (M ≤ cap ∧ cap ≤ maxLen) := by
      obtain ⟨_, _, he, h, h2, _⟩ := own_slice HO2.out
      injection he with _ _ h3; subst h3; exact ⟨h, h2⟩
    have HW2 : Hid (Below w.heap.size w w2) := HB1.out.trans (HB2.out.mono hbs1)
    have HRL2 : Hid (Rd w2 w2.heap.size a (bV l)) := (RL.out.below HB2.out).more HB2.out.size
    clear hfirst hw hz1' hz2' hz0 hz1 HZ2 hnone hp
    go_loopw [12, 58] (fun v9 i wr => ∃ (k E : Nat) (m : List UInt8), k ≤ 32 ∧ i = .int .i64 k ∧ v9 = .bool (decide (E = 0)) ∧ E < 2 ^ k ∧ Turned L m 6 N (first - 48) E ∧
      wr.ownsRow w1.heap.size 5 1 (.slice (some ⟨g, 0, none⟩) M cap) M (bV m) ∧ Below w1.heap.size w1 wr) (fun _ i _ => 32 - (intOf i).toNat)
    case atStart => exact ⟨0, 0, L, Nat.zero_le _, rfl, rfl, by decide, Turned.start _ _ _ _, HO2.out, HB2.out⟩
    case round =>
      obtain ⟨k, E, m, hk, rfl, rfl, hE, htu, hown, hb⟩ := hrel
      have HE := Lib.hid hE; have HTU := Lib.hid htu; have HO := Lib.hid hown; have HB := Lib.hid hb
      have HMM : Hid (m.length = M) := by show _ = _; rw [HML.out]; exact htu.1
      clear hE htu hown hb
      by_cases hlt : k < 32
      · obtain ⟨T, hT⟩ : ∃ T, T = first + k := ⟨_, rfl⟩
        have hTi : (first : Int) + (k : Int) = (T : Int) := by omega
        have HT := Lib.hid hT; clear hT
        have hTl : T < 3000 := by rw [HT.out]; omega
        have hT16 : 48 ≤ T := by rw [HT.out]; omega
        obtain ⟨B, hB⟩ : ∃ B, B = q / 2 ^ k := ⟨_, rfl⟩
        have hBl : B < 4294967296 := by rw [hB]; exact Nat.lt_of_le_of_lt (Nat.div_le_self _ _) hq
        have hBi : (q : Int) / 2 ^ k = (B : Int) := by rw [hB]; simp
        clear hB
        have hbit := bit_of B hBl
        clear hBl
        by_cases hbt : B % 2 = 1
        · rw [hbt, Int.natCast_one] at hbit
          by_cases hin : T < 8 * M
          · have hin' : (T : Int) < 8 * (M : Int) := by omega
            obtain ⟨I, hI⟩ : ∃ I, I = T / 8 := ⟨_, rfl⟩
            obtain ⟨J, hJ⟩ : ∃ J, J = T % 8 := ⟨_, rfl⟩
            have hIi : (T : Int) / 8 = (I : Int) := by omega
            have hJi : (T : Int) % 8 = (J : Int) := by omega
            have hIl : I < M := by omega
            have hIo : 6 ≤ I := by omega
            have hIe : I < 6 + N := by omega
            have hJl : J < 8 := by omega
            have HIJ : Hid (8 * (I - 6) + J = ((first - 48)) + k) := by show _ = _; have := HT.out; omega
            clear hI hJ hin
            have hIm : I < m.length := by rw [HMM.out]; exact hIl
            have hcell := HO.out.cellAt I (by omega)
            rw [bV_get m I hIm] at hcell
            obtain ⟨Y, hY⟩ : ∃ Y, m[I] = Y := ⟨_, rfl⟩
            rw [hY] at hcell
            have hP : 2 ^ J < 256 := Nat.pow_lt_pow_right (n := 8) (by omega) hJl
            obtain ⟨Z, hZ⟩ : ∃ Z : UInt8, Z.toNat = Y.toNat ^^^ 2 ^ J := ⟨UInt8.ofNat (Y.toNat ^^^ 2 ^ J), by rw [UInt8.toNat_ofNat']; exact Nat.mod_eq_of_lt (Nat.xor_lt_two_pow (n := 8) Y.toNat_lt hP)⟩
            have hx : bits BinOp.xor IntKind.u8 (Y.toNat : Int) ((2 : Int) ^ J % 256) = (Z.toNat : Int) := by
              have e : (2 : Int) ^ J % 256 = ((2 ^ J : Nat) : Int) := by
                rw [show (2 : Int) ^ J = ((2 ^ J : Nat) : Int) by simp]
                generalize 2 ^ J = X at hP; omega
              rw [e, hZ]; exact u8_xor_nat Y.toNat (2 ^ J) Y.toNat_lt hP
            have hfr := HO.out.frozenAt I
            have hst := HO.out.stored I (.int .u8 (Z.toNat : Int))
            have HST := Lib.hid hst
            have HNX := Lib.hid (HTU.out.next (by rw [← HML.out]; omega) hIo hIe hJl HIJ.out hIm (by rw [hY]; exact hZ))
            have HGB := Lib.hid (own_shape HO.out rfl).1
            clear hst hZ hY
            go_wp2_with fail
            go_roundw
            case rel => exact ⟨k + 1, E ^^^ 2 ^ k, m.set I Z, by omega, by go_num, by rw [decide_eq_false (told_ne HE.out)], told_lt HE.out, HNX.out, by rw [bV_set]; exact HST.out.1, HB.out.setCell (p := ⟨g, I, none⟩) HGB.out _⟩
            case measure => simp [intOf]; omega
          · have hin' : ¬ ((T : Int) < 8 * (M : Int)) := by omega
            go_wp2_with fail
            go_roundw
            case rel => exact ⟨k + 1, E, m, by omega, by go_num, rfl, Nat.lt_of_lt_of_le HE.out (Nat.pow_le_pow_right (by omega) (by omega)), HTU.out, HO.out, HB.out⟩
            case measure => simp [intOf]; omega
        · have hb0 : B % 2 = 0 := by omega
          rw [hb0, Int.natCast_zero] at hbit
          go_wp2_with fail
          go_roundw
          case rel => exact ⟨k + 1, E, m, by omega, by go_num, rfl, Nat.lt_of_lt_of_le HE.out (Nat.pow_le_pow_right (by omega) (by omega)), HTU.out, HO.out, HB.out⟩
          case measure => simp [intOf]; omega
      · obtain rfl : k = 32 := by omega
        have HD := Lib.hid (Rd.own HO.out)
        have HWr : Hid (Below w.heap.size w wr) := HB1.out.trans (HB.out.mono hbs1)
        have HRLr : Hid (Rd wr wr.heap.size a (bV l)) := (RL.out.below HB.out).more (Nat.le_trans (Nat.le_refl _) HB.out.size)
        by_cases h0 : E = 0
        · subst h0
          have hmL : m = L := HTU.out.same
          subst hmL
          have HG : Hid (gotF m 0 = .ok l) := by
            show _ = _
            have h := gotF_at (l := m) (q := 0) (by rw [HMM.out]; omega)
            rw [List.drop_zero] at h
            rw [show (0 : Int) = ((0 : Nat) : Int) from rfl, h]
            refine firstF_of ?_ HM.out
            rw [HL.out, ← frL_length, List.take_length]
          go_wp2_with fail
          refine (gotF_any (some ⟨g, 0, none⟩) M cap m 0 wr HMM.out.symm (by rw [HMM.out]; exact HCC.out.1) HCC.out.2 (by rw [HMM.out]; omega) HD.out).mono ?_
          rintro e w5 ⟨hb5, (⟨B, v9, hg, rfl, ho⟩ | ⟨k, hg, rfl⟩)⟩
          case inr => exfalso; rw [HG.out] at hg; cases hg
          obtain rfl : l = B := by rw [HG.out] at hg; injection hg
          obtain ⟨a9, c9, rfl, _, _, _⟩ := own_slice ho
          have HB5 := Lib.hid (bel2 HWr.out hb5)
          have R15 := Lib.hid ((HRLr.out.below hb5).more hb5.size)
          have RD5 := Lib.hid (Rd.own ho)
          have HNN : Hid (l.length = N) := HN.out.symm
          clear hg ho hb5
          go_wp2_with fail
          refine (fixed_any _).mono ?_; rintro e w6 ⟨rfl, hb6⟩
          have HB6 := Lib.hid (bel2 HB5.out hb6)
          have cx := run_string_of (w := w6) (l := l) l.length c9 ((RD5.out.below hb6).more hb6.size) rfl
          have cy := run_string_of (w := w6) (l := l) N c ((R15.out.below hb6).more hb6.size) HN.out
          have heq : ((6 : Int) + (l.length : Int) == (M : Int)) = true := by have := HNN.out; simp; omega
          clear hb6
          go_wp2_with fail
          go_ret
          exact ⟨rfl, HB6.out⟩
        · have HG : Hid (gotF m 0 = .error 8) := by
            have h := HTU.out
            rw [HL.out] at h
            exact told_body HM.out (by rw [HN.out] at h; exact h) (by rw [← HN.out]; omega) h0 HE.out
          go_wp2_with fail
          refine (gotF_any (some ⟨g, 0, none⟩) M cap m 0 wr HMM.out.symm (by rw [HMM.out]; exact HCC.out.1) HCC.out.2 (by rw [HMM.out]; omega) HD.out).mono ?_
          rintro e w5 ⟨hb5, (⟨B, v9, hg, rfl, ho⟩ | ⟨k, hg, rfl⟩)⟩
          case inl => exfalso; rw [HG.out] at hg; cases hg
          obtain rfl : 8 = k := by rw [HG.out] at hg; injection hg
          have HB5 := Lib.hid (bel2 HWr.out hb5)
          clear hg hb5
          go_wp2_with fail
          refine (fixed_any _).mono ?_; rintro e w6 ⟨rfl, hb6⟩
          have HB6 := Lib.hid (bel2 HB5.out hb6)
          clear hb6
          go_wp2_with fail
          go_ret
          exact ⟨rfl, HB6.out⟩
  · have h48i : ¬ ((48 : Int) ≤ (first : Int)) := by omega
    go_enter Try.func6, Try.ntmps6
    go_wp2_with fail
    refine (putR_is a N c l L 0 w HN.out (by rw [HM.out, HL.out]; rfl) HR.out).mono ?_; rintro e w1 ⟨b1, d1, rfl, hd1, hm1, hr1, hb1⟩
    have HR1 := Lib.hid hr1; have HB1 := Lib.hid hb1
    have hbs1 : w.heap.size ≤ w1.heap.size := hb1.size
    have RL := Lib.hid ((HR.out.below hb1).more hb1.size)
    rw [← HML.out] at hd1 ⊢
    clear hr1 hb1
    go_wp2_with (at_builtin; refine wpList_append_rd _ rfl _ _ 22 rfl w1.heap.size 5 i0 _ 1 1 Try.underlying22 hi0 hz0 hz1 HZ2.out rfl (by omega) (.slice (some ⟨w1.heap.size, 0, none⟩) 0 0) 0 [] rfl (World.ownsRow_made w1 #[] 0 (Nat.le_refl _) (by decide) rfl) _ _ M _ (bV L) rfl (by rw [bV_length, HML.out, Nat.mul_one]) (HR1.out.below (box1 w1 _)) (bV_one _) (by unfold maxLen; omega) (by omega) (by simp) ?_
                 intro v7 w2 hown2 hg2 _
                 rw [Nat.zero_add, List.nil_append] at hown2
                 have HO2 := Lib.hid hown2; have HB2 := Lib.hid (Below.of_grown (box1 w1 (.cells #[] 5)) hg2 (by simp) (by intro g hg; simp [Value.ownBlock] at hg; omega)); clear hown2 hg2)
    obtain ⟨cap, g, rfl⟩ : ∃ cap g, v7 = .slice (some ⟨g, 0, none⟩) M cap := by
      obtain ⟨a7, c7, rfl, _, _, hx⟩ := own_slice HO2.out
      obtain ⟨g, rfl, _⟩ := hx (by omega)
      exact ⟨c7, g, rfl⟩
    have HCC : Hid (M ≤ cap ∧ cap ≤ maxLen) := by
      obtain ⟨_, _, he, h, h2, _⟩ := own_slice HO2.out
      injection he with _ _ h3; subst h3; exact ⟨h, h2⟩
    have HW2 : Hid (Below w.heap.size w w2) := HB1.out.trans (HB2.out.mono hbs1)
    have HRL2 : Hid (Rd w2 w2.heap.size a (bV l)) := (RL.out.below HB2.out).more HB2.out.size
    clear hfirst hw hz1' hz2' hz0 hz1 HZ2 hnone hp
    go_loopw [12, 58] (fun v9 i wr => ∃ (k E : Nat) (m : List UInt8), k ≤ 32 ∧ i = .int .i64 k ∧ v9 = .bool (decide (E = 0)) ∧ E < 2 ^ k ∧ Turned L m 2 4 (first - 16) E ∧
      wr.ownsRow w1.heap.size 5 1 (.slice (some ⟨g, 0, none⟩) M cap) M (bV m) ∧ Below w1.heap.size w1 wr) (fun _ i _ => 32 - (intOf i).toNat)
    case atStart => exact ⟨0, 0, L, Nat.zero_le _, rfl, rfl, by decide, Turned.start _ _ _ _, HO2.out, HB2.out⟩
    case round =>
      obtain ⟨k, E, m, hk, rfl, rfl, hE, htu, hown, hb⟩ := hrel
      have HE := Lib.hid hE; have HTU := Lib.hid htu; have HO := Lib.hid hown; have HB := Lib.hid hb
      have HMM : Hid (m.length = M) := by show _ = _; rw [HML.out]; exact htu.1
      clear hE htu hown hb
      by_cases hlt : k < 32
      · obtain ⟨T, hT⟩ : ∃ T, T = first + k := ⟨_, rfl⟩
        have hTi : (first : Int) + (k : Int) = (T : Int) := by omega
        have HT := Lib.hid hT; clear hT
        have hTl : T < 3000 := by rw [HT.out]; omega
        have hT16 : 16 ≤ T := by rw [HT.out]; omega
        obtain ⟨B, hB⟩ : ∃ B, B = q / 2 ^ k := ⟨_, rfl⟩
        have hBl : B < 4294967296 := by rw [hB]; exact Nat.lt_of_le_of_lt (Nat.div_le_self _ _) hq
        have hBi : (q : Int) / 2 ^ k = (B : Int) := by rw [hB]; simp
        clear hB
        have hbit := bit_of B hBl
        clear hBl
        by_cases hbt : B % 2 = 1
        · rw [hbt, Int.natCast_one] at hbit
          by_cases hin : T < 48
          · have hin' : (T : Int) < 48 := by omega
            obtain ⟨I, hI⟩ : ∃ I, I = T / 8 := ⟨_, rfl⟩
            obtain ⟨J, hJ⟩ : ∃ J, J = T % 8 := ⟨_, rfl⟩
            have hIi : (T : Int) / 8 = (I : Int) := by omega
            have hJi : (T : Int) % 8 = (J : Int) := by omega
            have hIl : I < M := by omega
            have hIo : 2 ≤ I := by omega
            have hIe : I < 2 + 4 := by omega
            have hJl : J < 8 := by omega
            have HIJ : Hid (8 * (I - 2) + J = ((first - 16)) + k) := by show _ = _; have := HT.out; omega
            clear hI hJ hin
            have hIm : I < m.length := by rw [HMM.out]; exact hIl
            have hcell := HO.out.cellAt I (by omega)
            rw [bV_get m I hIm] at hcell
            obtain ⟨Y, hY⟩ : ∃ Y, m[I] = Y := ⟨_, rfl⟩
            rw [hY] at hcell
            have hP : 2 ^ J < 256 := Nat.pow_lt_pow_right (n := 8) (by omega) hJl
            obtain ⟨Z, hZ⟩ : ∃ Z : UInt8, Z.toNat = Y.toNat ^^^ 2 ^ J := ⟨UInt8.ofNat (Y.toNat ^^^ 2 ^ J), by rw [UInt8.toNat_ofNat']; exact Nat.mod_eq_of_lt (Nat.xor_lt_two_pow (n := 8) Y.toNat_lt hP)⟩
            have hx : bits BinOp.xor IntKind.u8 (Y.toNat : Int) ((2 : Int) ^ J % 256) = (Z.toNat : Int) := by
              have e : (2 : Int) ^ J % 256 = ((2 ^ J : Nat) : Int) := by
                rw [show (2 : Int) ^ J = ((2 ^ J : Nat) : Int) by simp]
                generalize 2 ^ J = X at hP; omega
              rw [e, hZ]; exact u8_xor_nat Y.toNat (2 ^ J) Y.toNat_lt hP
            have hfr := HO.out.frozenAt I
            have hst := HO.out.stored I (.int .u8 (Z.toNat : Int))
            have HST := Lib.hid hst
            have HNX := Lib.hid (HTU.out.next (by rw [← HML.out]; omega) hIo hIe hJl HIJ.out hIm (by rw [hY]; exact hZ))
            have HGB := Lib.hid (own_shape HO.out rfl).1
            clear hst hZ hY
            go_wp2_with fail
            go_roundw
            case rel => exact ⟨k + 1, E ^^^ 2 ^ k, m.set I Z, by omega, by go_num, by rw [decide_eq_false (told_ne HE.out)], told_lt HE.out, HNX.out, by rw [bV_set]; exact HST.out.1, HB.out.setCell (p := ⟨g, I, none⟩) HGB.out _⟩
            case measure => simp [intOf]; omega
          · have hin' : ¬ ((T : Int) < 48) := by omega
            go_wp2_with fail
            go_roundw
            case rel => exact ⟨k + 1, E, m, by omega, by go_num, rfl, Nat.lt_of_lt_of_le HE.out (Nat.pow_le_pow_right (by omega) (by omega)), HTU.out, HO.out, HB.out⟩
            case measure => simp [intOf]; omega
        · have hb0 : B % 2 = 0 := by omega
          rw [hb0, Int.natCast_zero] at hbit
          go_wp2_with fail
          go_roundw
          case rel => exact ⟨k + 1, E, m, by omega, by go_num, rfl, Nat.lt_of_lt_of_le HE.out (Nat.pow_le_pow_right (by omega) (by omega)), HTU.out, HO.out, HB.out⟩
          case measure => simp [intOf]; omega
      · obtain rfl : k = 32 := by omega
        have HD := Lib.hid (Rd.own HO.out)
        have HWr : Hid (Below w.heap.size w wr) := HB1.out.trans (HB.out.mono hbs1)
        have HRLr : Hid (Rd wr wr.heap.size a (bV l)) := (RL.out.below HB.out).more (Nat.le_trans (Nat.le_refl _) HB.out.size)
        by_cases h0 : E = 0
        · subst h0
          have hmL : m = L := HTU.out.same
          subst hmL
          have HG : Hid (gotF m 0 = .ok l) := by
            show _ = _
            have h := gotF_at (l := m) (q := 0) (by rw [HMM.out]; omega)
            rw [List.drop_zero] at h
            rw [show (0 : Int) = ((0 : Nat) : Int) from rfl, h]
            refine firstF_of ?_ HM.out
            rw [HL.out, ← frL_length, List.take_length]
          go_wp2_with fail
          refine (gotF_any (some ⟨g, 0, none⟩) M cap m 0 wr HMM.out.symm (by rw [HMM.out]; exact HCC.out.1) HCC.out.2 (by rw [HMM.out]; omega) HD.out).mono ?_
          rintro e w5 ⟨hb5, (⟨B, v9, hg, rfl, ho⟩ | ⟨k, hg, rfl⟩)⟩
          case inr => exfalso; rw [HG.out] at hg; cases hg
          obtain rfl : l = B := by rw [HG.out] at hg; injection hg
          obtain ⟨a9, c9, rfl, _, _, _⟩ := own_slice ho
          have HB5 := Lib.hid (bel2 HWr.out hb5)
          have R15 := Lib.hid ((HRLr.out.below hb5).more hb5.size)
          have RD5 := Lib.hid (Rd.own ho)
          have HNN : Hid (l.length = N) := HN.out.symm
          clear hg ho hb5
          go_wp2_with fail
          refine (fixed_any _).mono ?_; rintro e w6 ⟨rfl, hb6⟩
          have HB6 := Lib.hid (bel2 HB5.out hb6)
          have cx := run_string_of (w := w6) (l := l) l.length c9 ((RD5.out.below hb6).more hb6.size) rfl
          have cy := run_string_of (w := w6) (l := l) N c ((R15.out.below hb6).more hb6.size) HN.out
          have heq : ((6 : Int) + (l.length : Int) == (M : Int)) = true := by have := HNN.out; simp; omega
          clear hb6
          go_wp2_with fail
          go_ret
          exact ⟨rfl, HB6.out⟩
        · have HG : Hid (gotF m 0 = .error 8) := by
            have h := HTU.out
            rw [HL.out] at h
            exact told_sum HM.out h h0
          go_wp2_with fail
          refine (gotF_any (some ⟨g, 0, none⟩) M cap m 0 wr HMM.out.symm (by rw [HMM.out]; exact HCC.out.1) HCC.out.2 (by rw [HMM.out]; omega) HD.out).mono ?_
          rintro e w5 ⟨hb5, (⟨B, v9, hg, rfl, ho⟩ | ⟨k, hg, rfl⟩)⟩
          case inl => exfalso; rw [HG.out] at hg; cases hg
          obtain rfl : 8 = k := by rw [HG.out] at hg; injection hg
          have HB5 := Lib.hid (bel2 HWr.out hb5)
          clear hg hb5
          go_wp2_with fail
          refine (fixed_any _).mono ?_; rintro e w6 ⟨rfl, hb6⟩
          have HB6 := Lib.hid (bel2 HB5.out hb6)
          clear hb6
          go_wp2_with fail
          go_ret
          exact ⟨rfl, HB6.out⟩
end Go.Proofs.Ytdeplooijjfekaa
