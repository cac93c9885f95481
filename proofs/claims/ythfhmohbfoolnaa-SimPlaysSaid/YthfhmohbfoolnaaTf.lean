import Derived.Test.YthfhmohbfoolnaaTe
namespace Go.Proofs.Ythfhmohbfoolnaa
open Go Go.RowKit Go.Sort

/-! The library's sort at []uint32: parting by the pivot. -/
set_option maxRecDepth 20000 in
set_option maxHeartbeats 32000000 in
theorem partU (blk off cap a b pv : Nat) (d : Array Int) (w : World) (hs : Srt w w blk off d) (hb : b ≤ d.size) (hsz : d.size ≤ 1000000000) (hp1 : a < pv) (hp2 : pv < b) :
    Calls Try.prog 74 #[.slice (some ⟨blk, off, none⟩) d.size cap, .int .i64 a, .int .i64 b, .int .i64 pv] w fun e w' => e = .returned (.tuple #[.int .i64 ((partition ltInt d a b pv).1 : Nat), .bool (partition ltInt d a b pv).2.1]) ∧ Srt w w' blk off (partition ltInt d a b pv).2.2 := by
  have HS := Lib.hid hs; clear hs
  obtain ⟨D, hD⟩ : ∃ D, D = d.size := ⟨_, rfl⟩
  rw [← hD] at hb hsz ⊢
  have HD := Lib.hid hD; clear hD
  obtain ⟨B, hBm, hB⟩ : ∃ B : Nat, B = b - 1 ∧ (b : Int) - 1 = (B : Int) := ⟨_, rfl, by omega⟩
  obtain ⟨I, hIm, hI⟩ : ∃ I : Nat, I = a + 1 ∧ (a : Int) + 1 = (I : Int) := ⟨_, rfl, by omega⟩
  have HBm := Lib.hid hBm; have HIm := Lib.hid hIm
  have b1 : B < D := by omega
  have b2 : a < B := by omega
  have b3 : a < I := by omega
  have b4 : I ≤ B + 1 := by omega
  clear hBm hIm
  have i1 : (0 : Int) ≤ (a : Int) := by omega
  have i2 : (a : Int) < (D : Int) := by omega
  have i3 : (0 : Int) ≤ (pv : Int) := by omega
  have i4 : (pv : Int) < (D : Int) := by omega
  obtain ⟨X, hX⟩ : ∃ X, X = d[a]! := ⟨_, rfl⟩
  have HX := Lib.hid hX; clear hX
  obtain ⟨Y, hY⟩ : ∃ Y, Y = d[pv]! := ⟨_, rfl⟩
  have HY := Lib.hid hY; clear hY
  obtain ⟨cX, fX⟩ := HS.out.holds a (by rw [← HD.out]; omega)
  rw [← HX.out] at cX
  obtain ⟨cY, fY⟩ := HS.out.holds pv (by rw [← HD.out]; omega)
  rw [← HY.out] at cY
  go_enter Try.func74, Try.ntmps74
  go_wp2_with fail
  go_region
  all_goals
    have HS1 : Hid (Srt w ((w.setCell ⟨blk, off + a, none⟩ (.int .u32 Y)).setCell ⟨blk, off + pv, none⟩ (.int .u32 X)).drew blk off (swp d a pv)) := HS.out.swap_any (by rw [← HD.out]; omega) (by rw [← HD.out]; omega) HY.out HX.out
    obtain ⟨dk, hdk⟩ : ∃ dk, dk = swp d a pv := ⟨_, rfl⟩
    have HSK : Hid (dk.size = D) := by show _ = _; rw [hdk, size_swp]; exact HD.out.symm
    rw [← hdk] at HS1
    have HDK := Lib.hid hdk
    clear cX cY fX fY hdk
    obtain ⟨A, hA⟩ : ∃ A, A = dk[a]! := ⟨_, rfl⟩
    have HA := Lib.hid hA; clear hA
    go_upto_block 0 with fail
    go_cut [10] from 30 to 152 (fun s wc => ∃ k2 : Nat, s = .int .i64 k2 ∧ I ≤ k2 ∧ k2 ≤ B + 1 ∧ k2 = scanUp (fun x => ltInt x dk[a]!) dk B I ∧ Srt w wc blk off dk)
    case first =>
      go_wp2_with fail
      go_loopw [10] (fun v wr => ∃ k : Nat, v = .int .i64 k ∧ I ≤ k ∧ k ≤ B + 1 ∧ scanUp (fun x => ltInt x dk[a]!) dk B k = scanUp (fun x => ltInt x dk[a]!) dk B I ∧ Srt w wr blk off dk) (fun v _ => B + 1 - (intOf v).toNat)
      case atStart => exact ⟨I, rfl, Nat.le_refl _, by omega, rfl, HS1.out⟩
      case round =>
        obtain ⟨k, rfl, hk1, hk2, hsc, hSk⟩ := hrel
        have HSC := Lib.hid hsc; have HSi := Lib.hid hSk; clear hsc hSk
        by_cases hlt : k ≤ B
        · have d1 : decide (k ≤ B) = true := decide_eq_true hlt
          have j1 : (0 : Int) ≤ (k : Int) := by omega
          have j2 : (k : Int) < (D : Int) := by omega
          obtain ⟨V, hV⟩ : ∃ V, V = dk[k]! := ⟨_, rfl⟩
          have HV := Lib.hid hV; clear hV
          cases hl : ltInt V A
          · have HL := Lib.hid hl
            have HPT : Hid (((fun x => ltInt x dk[a]!)) dk[k]! = false) := by show _ = _; rw [HA.out, HV.out] at hl; simp [hl]
            go_wp2_with fail
            obtain ⟨cA, fA⟩ := HSi.out.holds a (by rw [HSK.out]; omega)
            rw [← HA.out] at cA
            obtain ⟨cV, fV⟩ := HSi.out.holds k (by rw [HSK.out]; omega)
            rw [← HV.out] at cV
            have qcA := fun d os => cell_regrown cA d os
            have qcV := fun d os => cell_regrown cV d os
            refine wp_region_quiet_below (by kernel_rfl) (by kernel_rfl) ?_
            iterate 14 (first | go_big_quiet_step (first
              | (go_at_call 72; exact Calls.regrown_of (less_any _ _ _))) | fail)
            refine wpQuiet_nil ?_
            intro HSeW hw'
            obtain ⟨⟨d3, os⟩, hw''⟩ := hw'
            have hb3 := below_regrown wr d3 os
            rw [← hw''] at hb3
            clear hw'' qcA qcV cA cV fA fV hl
            have HSe := Lib.hid (HSi.out.below hb3); clear hb3
            go_wp2_with fail
            go_meet
            case rel => exact ⟨k, rfl, by omega, by omega, by rw [← HSC.out, scanUp_end (fun x => ltInt x dk[a]!) dk B k (.inr HPT.out)], HSe.out⟩
          · have HL := Lib.hid hl
            have HPT : Hid (((fun x => ltInt x dk[a]!)) dk[k]! = true) := by show _ = _; rw [HA.out, HV.out] at hl; simp [hl]
            go_wp2_with fail
            obtain ⟨cA, fA⟩ := HSi.out.holds a (by rw [HSK.out]; omega)
            rw [← HA.out] at cA
            obtain ⟨cV, fV⟩ := HSi.out.holds k (by rw [HSK.out]; omega)
            rw [← HV.out] at cV
            have qcA := fun d os => cell_regrown cA d os
            have qcV := fun d os => cell_regrown cV d os
            refine wp_region_quiet_below (by kernel_rfl) (by kernel_rfl) ?_
            iterate 14 (first | go_big_quiet_step (first
              | (go_at_call 72; exact Calls.regrown_of (less_any _ _ _))) | fail)
            refine wpQuiet_nil ?_
            intro HSeW hw'
            obtain ⟨⟨d3, os⟩, hw''⟩ := hw'
            have hb3 := below_regrown wr d3 os
            rw [← hw''] at hb3
            clear hw'' qcA qcV cA cV fA fV hl
            have HSe := Lib.hid (HSi.out.below hb3); clear hb3
            go_wp2_with fail
            go_roundw
            case rel => exact ⟨k + 1, by go_num, by omega, by omega, by rw [← HSC.out, scanUp_go (fun x => ltInt x dk[a]!) dk B k hlt HPT.out], HSe.out⟩
            case measure => (simp [intOf]) <;> omega
        · have d1 : decide (k ≤ B) = false := decide_eq_false hlt
          go_wp2_with fail
          refine wp_region_quiet_below (by kernel_rfl) (by kernel_rfl) ?_
          iterate 14 (first | go_big_quiet_step (first
            | (go_at_call 72; exact Calls.regrown_of (less_any _ _ _))) | fail)
          refine wpQuiet_nil ?_
          intro HSeW hw'
          obtain ⟨⟨d3, os⟩, hw''⟩ := hw'
          have hb3 := below_regrown wr d3 os
          rw [← hw''] at hb3
          clear hw''   
          have HSe := Lib.hid (HSi.out.below hb3); clear hb3
          go_wp2_with fail
          go_meet
          case rel => exact ⟨k, rfl, by omega, by omega, by rw [← HSC.out, scanUp_end (fun x => ltInt x dk[a]!) dk B k (.inl hlt)], HSe.out⟩
    case rest =>
      obtain ⟨ii, rfl, hii1, hii2, hii3, hii4⟩ := hcut
      have HSii := Lib.hid hii4; have Hii3 := Lib.hid hii3; clear hii4 hii3
      go_upto_block 2 with fail
      go_cut [11] from 30 to 152 (fun s wc => ∃ k2 : Nat, s = .int .i64 k2 ∧ ii ≤ k2 + 1 ∧ k2 ≤ B ∧ k2 = scanDown (fun x => !ltInt x dk[a]!) dk ii B ∧ Srt w wc blk off dk)
      case first =>
        go_wp2_with fail
        go_loopw [11] (fun v wr => ∃ k : Nat, v = .int .i64 k ∧ ii ≤ k + 1 ∧ k ≤ B ∧ scanDown (fun x => !ltInt x dk[a]!) dk ii k = scanDown (fun x => !ltInt x dk[a]!) dk ii B ∧ Srt w wr blk off dk) (fun v _ => (intOf v).toNat)
        case atStart => exact ⟨B, rfl, by omega, Nat.le_refl _, rfl, HSii.out⟩
        case round =>
          obtain ⟨k, rfl, hk1, hk2, hsc, hSk⟩ := hrel
          have HSC := Lib.hid hsc; have HSi := Lib.hid hSk; clear hsc hSk
          by_cases hlt : ii ≤ k
          · have d1 : decide (ii ≤ k) = true := decide_eq_true hlt
            have j1 : (0 : Int) ≤ (k : Int) := by omega
            have j2 : (k : Int) < (D : Int) := by omega
            obtain ⟨V, hV⟩ : ∃ V, V = dk[k]! := ⟨_, rfl⟩
            have HV := Lib.hid hV; clear hV
            cases hl : ltInt V A
            · have HL := Lib.hid hl
              have HPT : Hid (((fun x => !ltInt x dk[a]!)) dk[k]! = true) := by show _ = _; rw [HA.out, HV.out] at hl; simp [hl]
              go_wp2_with fail
              obtain ⟨cA, fA⟩ := HSi.out.holds a (by rw [HSK.out]; omega)
              rw [← HA.out] at cA
              obtain ⟨cV, fV⟩ := HSi.out.holds k (by rw [HSK.out]; omega)
              rw [← HV.out] at cV
              have qcA := fun d os => cell_regrown cA d os
              have qcV := fun d os => cell_regrown cV d os
              refine wp_region_quiet_below (by kernel_rfl) (by kernel_rfl) ?_
              iterate 15 (first | go_big_quiet_step (first
                | (go_at_call 72; exact Calls.regrown_of (less_any _ _ _))) | fail)
              refine wpQuiet_nil ?_
              intro HSeW hw'
              obtain ⟨⟨d3, os⟩, hw''⟩ := hw'
              have hb3 := below_regrown wr d3 os
              rw [← hw''] at hb3
              clear hw'' qcA qcV cA cV fA fV hl
              have HSe := Lib.hid (HSi.out.below hb3); clear hb3
              go_wp2_with fail
              go_roundw
              case rel => exact ⟨k - 1, by congr 1; omega, by omega, by omega, by rw [← HSC.out, scanDown_go (fun x => !ltInt x dk[a]!) dk ii k hlt (by omega) HPT.out], HSe.out⟩
              case measure => (simp [intOf]) <;> omega
            · have HL := Lib.hid hl
              have HPT : Hid (((fun x => !ltInt x dk[a]!)) dk[k]! = false) := by show _ = _; rw [HA.out, HV.out] at hl; simp [hl]
              go_wp2_with fail
              obtain ⟨cA, fA⟩ := HSi.out.holds a (by rw [HSK.out]; omega)
              rw [← HA.out] at cA
              obtain ⟨cV, fV⟩ := HSi.out.holds k (by rw [HSK.out]; omega)
              rw [← HV.out] at cV
              have qcA := fun d os => cell_regrown cA d os
              have qcV := fun d os => cell_regrown cV d os
              refine wp_region_quiet_below (by kernel_rfl) (by kernel_rfl) ?_
              iterate 15 (first | go_big_quiet_step (first
                | (go_at_call 72; exact Calls.regrown_of (less_any _ _ _))) | fail)
              refine wpQuiet_nil ?_
              intro HSeW hw'
              obtain ⟨⟨d3, os⟩, hw''⟩ := hw'
              have hb3 := below_regrown wr d3 os
              rw [← hw''] at hb3
              clear hw'' qcA qcV cA cV fA fV hl
              have HSe := Lib.hid (HSi.out.below hb3); clear hb3
              go_wp2_with fail
              go_meet
              case rel => exact ⟨k, rfl, by omega, by omega, by rw [← HSC.out, scanDown_end (fun x => !ltInt x dk[a]!) dk ii k (.inr HPT.out)], HSe.out⟩
          · have d1 : decide (ii ≤ k) = false := decide_eq_false hlt
            go_wp2_with fail
            refine wp_region_quiet_below (by kernel_rfl) (by kernel_rfl) ?_
            iterate 15 (first | go_big_quiet_step (first
              | (go_at_call 72; exact Calls.regrown_of (less_any _ _ _))) | fail)
            refine wpQuiet_nil ?_
            intro HSeW hw'
            obtain ⟨⟨d3, os⟩, hw''⟩ := hw'
            have hb3 := below_regrown wr d3 os
            rw [← hw''] at hb3
            clear hw''   
            have HSe := Lib.hid (HSi.out.below hb3); clear hb3
            go_wp2_with fail
            go_meet
            case rel => exact ⟨k, rfl, by omega, by omega, by rw [← HSC.out, scanDown_end (fun x => !ltInt x dk[a]!) dk ii k (.inl hlt)], HSe.out⟩
      case rest =>
        obtain ⟨jj, rfl, hjj1, hjj2, hjj3, hjj4⟩ := hcut
        have HSjj := Lib.hid hjj4; have Hjj3 := Lib.hid hjj3; clear hjj4 hjj3
        by_cases hgt : jj < ii
        · have HE : Hid (partition ltInt d a b pv = (jj, true, swp dk jj a)) := part_first_break ltInt d a b pv HIm.out HBm.out HDK.out Hii3.out Hjj3.out hgt
          have hja0 : a ≤ jj := by omega
          by_cases hja : jj = a
          · subst hja
            have HA2 := HA
            go_wp2_with fail
            obtain ⟨cA, fA⟩ := HSjj.out.holds jj (by rw [HSK.out]; omega)
            rw [← HA.out] at cA
            go_region
            all_goals
              have HSf : Hid (Srt w _ blk off (swp dk jj jj)) := HSjj.out.swap_any (i := jj) (j := jj) (by rw [HSK.out]; omega) (by rw [HSK.out]; omega) HA.out HA.out
              clear cA fA
              go_wp2_with fail
              go_ret2
              rw [HE.out]
              exact ⟨rfl, HSf.out⟩
          · have hne : ¬ jj = a := hja
            obtain ⟨Z, hZ⟩ : ∃ Z, Z = dk[jj]! := ⟨_, rfl⟩
            have HZ := Lib.hid hZ; clear hZ
            go_wp2_with fail
            obtain ⟨cA, fA⟩ := HSjj.out.holds a (by rw [HSK.out]; omega)
            rw [← HA.out] at cA
            obtain ⟨cZ, fZ⟩ := HSjj.out.holds jj (by rw [HSK.out]; omega)
            rw [← HZ.out] at cZ
            go_region
            all_goals
              have HSf : Hid (Srt w _ blk off (swp dk jj a)) := HSjj.out.swap_any (i := jj) (j := a) (by rw [HSK.out]; omega) (by rw [HSK.out]; omega) HA.out HZ.out
              clear cA fA cZ fZ
              go_wp2_with fail
              go_ret2
              rw [HE.out]
              exact ⟨rfl, HSf.out⟩
        · have HSL : Hid (ii < jj) := part_scans_lt ltInt a I B dk (by omega) Hii3.out Hjj3.out (by omega)
          have hlt2 : ii < jj := HSL.out
          obtain ⟨RS, hRS⟩ : ∃ RS, RS = partLoop ltInt a (ii + 1) (jj - 1) (swp dk ii jj) := ⟨_, rfl⟩
          have HPART : Hid (partition ltInt d a b pv = (RS.1, false, swp RS.2 RS.1 a)) := by show _ = _; rw [hRS]; exact part_first_go ltInt d a b pv HIm.out HBm.out HDK.out Hii3.out Hjj3.out hgt
          have HRS := Lib.hid hRS; clear hRS
          have j1 : (0 : Int) ≤ (ii : Int) := by omega
          have j2 : (ii : Int) < (D : Int) := by omega
          have j3 : (0 : Int) ≤ (jj : Int) := by omega
          have j4 : (jj : Int) < (D : Int) := by omega
          obtain ⟨X2, hX2⟩ : ∃ X2, X2 = dk[ii]! := ⟨_, rfl⟩
          have HX2 := Lib.hid hX2; clear hX2
          obtain ⟨Y2, hY2⟩ : ∃ Y2, Y2 = dk[jj]! := ⟨_, rfl⟩
          have HY2 := Lib.hid hY2; clear hY2
          go_wp2_with fail
          obtain ⟨cX, fX⟩ := HSjj.out.holds ii (by rw [HSK.out]; omega)
          rw [← HX2.out] at cX
          obtain ⟨cY, fY⟩ := HSjj.out.holds jj (by rw [HSK.out]; omega)
          rw [← HY2.out] at cY
          go_region
          all_goals
            have HS5 : Hid (Srt w _ blk off (swp dk ii jj)) := HSjj.out.swap_any (i := ii) (j := jj) (by rw [HSK.out]; omega) (by rw [HSK.out]; omega) HY2.out HX2.out
            have HZ5 : Hid ((swp dk ii jj).size = D) := by show _ = _; rw [size_swp]; exact HSK.out
            clear cX cY fX fY
            go_wp2_with fail
            go_loopw [10, 11] (fun vi vj wr => ∃ (i j : Nat) (dl : Array Int), vi = .int .i64 i ∧ vj = .int .i64 j ∧ a + 1 ≤ i ∧ i ≤ j + 1 ∧ j < D ∧ dl.size = D ∧ Srt w wr blk off dl ∧ partLoop ltInt a i j dl = RS) (fun vi vj _ => (intOf vj).toNat + 1 - (intOf vi).toNat)
            case atStart => exact ⟨ii + 1, jj - 1, _, by go_num, by congr 1; omega, by omega, by omega, by omega, HZ5.out, HS5.out, HRS.out.symm⟩
            case round =>
              clear HA HSK HSjj HSii Hii3 Hjj3 HX2 HY2 HDK HS1 HS5 HZ5
              obtain ⟨i, j, dl, rfl, rfl, hi1, hij, hjD, hsk, hSk, hO⟩ := hrel
              have HSq := Lib.hid hSk; have HO := Lib.hid hO; have HSK := Lib.hid hsk; clear hSk hO hsk
              obtain ⟨A, hA⟩ : ∃ A, A = dl[a]! := ⟨_, rfl⟩
              have HA := Lib.hid hA; clear hA
              go_upto_block 6 with fail
              go_cut [10] from 99 to 152 (fun s wc => ∃ k2 : Nat, s = .int .i64 k2 ∧ i ≤ k2 ∧ k2 ≤ j + 1 ∧ k2 = scanUp (fun x => ltInt x dl[a]!) dl j i ∧ Srt w wc blk off dl)
              case first =>
                go_wp2_with fail
                go_loopw [10] (fun v wr => ∃ k : Nat, v = .int .i64 k ∧ i ≤ k ∧ k ≤ j + 1 ∧ scanUp (fun x => ltInt x dl[a]!) dl j k = scanUp (fun x => ltInt x dl[a]!) dl j i ∧ Srt w wr blk off dl) (fun v _ => j + 1 - (intOf v).toNat)
                case atStart => exact ⟨i, rfl, Nat.le_refl _, by omega, rfl, HSq.out⟩
                case round =>
                  obtain ⟨k, rfl, hk1, hk2, hsc, hSk⟩ := hrel
                  have HSC := Lib.hid hsc; have HSi := Lib.hid hSk; clear hsc hSk
                  by_cases hlt : k ≤ j
                  · have d1 : decide (k ≤ j) = true := decide_eq_true hlt
                    have j1 : (0 : Int) ≤ (k : Int) := by omega
                    have j2 : (k : Int) < (D : Int) := by omega
                    obtain ⟨V, hV⟩ : ∃ V, V = dl[k]! := ⟨_, rfl⟩
                    have HV := Lib.hid hV; clear hV
                    cases hl : ltInt V A
                    · have HL := Lib.hid hl
                      have HPT : Hid (((fun x => ltInt x dl[a]!)) dl[k]! = false) := by show _ = _; rw [HA.out, HV.out] at hl; simp [hl]
                      go_wp2_with fail
                      obtain ⟨cA, fA⟩ := HSi.out.holds a (by rw [HSK.out]; omega)
                      rw [← HA.out] at cA
                      obtain ⟨cV, fV⟩ := HSi.out.holds k (by rw [HSK.out]; omega)
                      rw [← HV.out] at cV
                      have qcA := fun d os => cell_regrown cA d os
                      have qcV := fun d os => cell_regrown cV d os
                      refine wp_region_quiet_below (by kernel_rfl) (by kernel_rfl) ?_
                      iterate 14 (first | go_big_quiet_step (first
                        | (go_at_call 72; exact Calls.regrown_of (less_any _ _ _))) | fail)
                      refine wpQuiet_nil ?_
                      intro HSeW hw'
                      obtain ⟨⟨d3, os⟩, hw''⟩ := hw'
                      have hb3 := below_regrown wr d3 os
                      rw [← hw''] at hb3
                      clear hw'' qcA qcV cA cV fA fV hl
                      have HSe := Lib.hid (HSi.out.below hb3); clear hb3
                      go_wp2_with fail
                      go_meet
                      case rel => exact ⟨k, rfl, by omega, by omega, by rw [← HSC.out, scanUp_end (fun x => ltInt x dl[a]!) dl j k (.inr HPT.out)], HSe.out⟩
                    · have HL := Lib.hid hl
                      have HPT : Hid (((fun x => ltInt x dl[a]!)) dl[k]! = true) := by show _ = _; rw [HA.out, HV.out] at hl; simp [hl]
                      go_wp2_with fail
                      obtain ⟨cA, fA⟩ := HSi.out.holds a (by rw [HSK.out]; omega)
                      rw [← HA.out] at cA
                      obtain ⟨cV, fV⟩ := HSi.out.holds k (by rw [HSK.out]; omega)
                      rw [← HV.out] at cV
                      have qcA := fun d os => cell_regrown cA d os
                      have qcV := fun d os => cell_regrown cV d os
                      refine wp_region_quiet_below (by kernel_rfl) (by kernel_rfl) ?_
                      iterate 14 (first | go_big_quiet_step (first
                        | (go_at_call 72; exact Calls.regrown_of (less_any _ _ _))) | fail)
                      refine wpQuiet_nil ?_
                      intro HSeW hw'
                      obtain ⟨⟨d3, os⟩, hw''⟩ := hw'
                      have hb3 := below_regrown wr d3 os
                      rw [← hw''] at hb3
                      clear hw'' qcA qcV cA cV fA fV hl
                      have HSe := Lib.hid (HSi.out.below hb3); clear hb3
                      go_wp2_with fail
                      go_roundw
                      case rel => exact ⟨k + 1, by go_num, by omega, by omega, by rw [← HSC.out, scanUp_go (fun x => ltInt x dl[a]!) dl j k hlt HPT.out], HSe.out⟩
                      case measure => (simp [intOf]) <;> omega
                  · have d1 : decide (k ≤ j) = false := decide_eq_false hlt
                    go_wp2_with fail
                    refine wp_region_quiet_below (by kernel_rfl) (by kernel_rfl) ?_
                    iterate 14 (first | go_big_quiet_step (first
                      | (go_at_call 72; exact Calls.regrown_of (less_any _ _ _))) | fail)
                    refine wpQuiet_nil ?_
                    intro HSeW hw'
                    obtain ⟨⟨d3, os⟩, hw''⟩ := hw'
                    have hb3 := below_regrown wr d3 os
                    rw [← hw''] at hb3
                    clear hw''   
                    have HSe := Lib.hid (HSi.out.below hb3); clear hb3
                    go_wp2_with fail
                    go_meet
                    case rel => exact ⟨k, rfl, by omega, by omega, by rw [← HSC.out, scanUp_end (fun x => ltInt x dl[a]!) dl j k (.inl hlt)], HSe.out⟩
              case rest =>
                obtain ⟨i5, rfl, hi51, hi52, hi53, hi54⟩ := hcut
                have HSi5 := Lib.hid hi54; have Hi53 := Lib.hid hi53; clear hi54 hi53
                go_upto_block 8 with fail
                go_cut [11] from 99 to 152 (fun s wc => ∃ k2 : Nat, s = .int .i64 k2 ∧ i5 ≤ k2 + 1 ∧ k2 ≤ j ∧ k2 = scanDown (fun x => !ltInt x dl[a]!) dl i5 j ∧ Srt w wc blk off dl)
                case first =>
                  go_wp2_with fail
                  go_loopw [11] (fun v wr => ∃ k : Nat, v = .int .i64 k ∧ i5 ≤ k + 1 ∧ k ≤ j ∧ scanDown (fun x => !ltInt x dl[a]!) dl i5 k = scanDown (fun x => !ltInt x dl[a]!) dl i5 j ∧ Srt w wr blk off dl) (fun v _ => (intOf v).toNat)
                  case atStart => exact ⟨j, rfl, by omega, Nat.le_refl _, rfl, HSi5.out⟩
                  case round =>
                    obtain ⟨k, rfl, hk1, hk2, hsc, hSk⟩ := hrel
                    have HSC := Lib.hid hsc; have HSi := Lib.hid hSk; clear hsc hSk
                    by_cases hlt : i5 ≤ k
                    · have d1 : decide (i5 ≤ k) = true := decide_eq_true hlt
                      have j1 : (0 : Int) ≤ (k : Int) := by omega
                      have j2 : (k : Int) < (D : Int) := by omega
                      obtain ⟨V, hV⟩ : ∃ V, V = dl[k]! := ⟨_, rfl⟩
                      have HV := Lib.hid hV; clear hV
                      cases hl : ltInt V A
                      · have HL := Lib.hid hl
                        have HPT : Hid (((fun x => !ltInt x dl[a]!)) dl[k]! = true) := by show _ = _; rw [HA.out, HV.out] at hl; simp [hl]
                        go_wp2_with fail
                        obtain ⟨cA, fA⟩ := HSi.out.holds a (by rw [HSK.out]; omega)
                        rw [← HA.out] at cA
                        obtain ⟨cV, fV⟩ := HSi.out.holds k (by rw [HSK.out]; omega)
                        rw [← HV.out] at cV
                        have qcA := fun d os => cell_regrown cA d os
                        have qcV := fun d os => cell_regrown cV d os
                        refine wp_region_quiet_below (by kernel_rfl) (by kernel_rfl) ?_
                        iterate 15 (first | go_big_quiet_step (first
                          | (go_at_call 72; exact Calls.regrown_of (less_any _ _ _))) | fail)
                        refine wpQuiet_nil ?_
                        intro HSeW hw'
                        obtain ⟨⟨d3, os⟩, hw''⟩ := hw'
                        have hb3 := below_regrown wr d3 os
                        rw [← hw''] at hb3
                        clear hw'' qcA qcV cA cV fA fV hl
                        have HSe := Lib.hid (HSi.out.below hb3); clear hb3
                        go_wp2_with fail
                        go_roundw
                        case rel => exact ⟨k - 1, by congr 1; omega, by omega, by omega, by rw [← HSC.out, scanDown_go (fun x => !ltInt x dl[a]!) dl i5 k hlt (by omega) HPT.out], HSe.out⟩
                        case measure => (simp [intOf]) <;> omega
                      · have HL := Lib.hid hl
                        have HPT : Hid (((fun x => !ltInt x dl[a]!)) dl[k]! = false) := by show _ = _; rw [HA.out, HV.out] at hl; simp [hl]
                        go_wp2_with fail
                        obtain ⟨cA, fA⟩ := HSi.out.holds a (by rw [HSK.out]; omega)
                        rw [← HA.out] at cA
                        obtain ⟨cV, fV⟩ := HSi.out.holds k (by rw [HSK.out]; omega)
                        rw [← HV.out] at cV
                        have qcA := fun d os => cell_regrown cA d os
                        have qcV := fun d os => cell_regrown cV d os
                        refine wp_region_quiet_below (by kernel_rfl) (by kernel_rfl) ?_
                        iterate 15 (first | go_big_quiet_step (first
                          | (go_at_call 72; exact Calls.regrown_of (less_any _ _ _))) | fail)
                        refine wpQuiet_nil ?_
                        intro HSeW hw'
                        obtain ⟨⟨d3, os⟩, hw''⟩ := hw'
                        have hb3 := below_regrown wr d3 os
                        rw [← hw''] at hb3
                        clear hw'' qcA qcV cA cV fA fV hl
                        have HSe := Lib.hid (HSi.out.below hb3); clear hb3
                        go_wp2_with fail
                        go_meet
                        case rel => exact ⟨k, rfl, by omega, by omega, by rw [← HSC.out, scanDown_end (fun x => !ltInt x dl[a]!) dl i5 k (.inr HPT.out)], HSe.out⟩
                    · have d1 : decide (i5 ≤ k) = false := decide_eq_false hlt
                      go_wp2_with fail
                      refine wp_region_quiet_below (by kernel_rfl) (by kernel_rfl) ?_
                      iterate 15 (first | go_big_quiet_step (first
                        | (go_at_call 72; exact Calls.regrown_of (less_any _ _ _))) | fail)
                      refine wpQuiet_nil ?_
                      intro HSeW hw'
                      obtain ⟨⟨d3, os⟩, hw''⟩ := hw'
                      have hb3 := below_regrown wr d3 os
                      rw [← hw''] at hb3
                      clear hw''   
                      have HSe := Lib.hid (HSi.out.below hb3); clear hb3
                      go_wp2_with fail
                      go_meet
                      case rel => exact ⟨k, rfl, by omega, by omega, by rw [← HSC.out, scanDown_end (fun x => !ltInt x dl[a]!) dl i5 k (.inl hlt)], HSe.out⟩
                case rest =>
                  obtain ⟨j5, rfl, hj51, hj52, hj53, hj54⟩ := hcut
                  have HSj5 := Lib.hid hj54; have Hj53 := Lib.hid hj53; clear hj54 hj53
                  by_cases hgt2 : j5 < i5
                  · have HB5 : Hid (RS = (j5, dl)) := by show _ = _; rw [← HO.out, part_break ltInt a i j dl Hi53.out Hj53.out hgt2]
                    have HE : Hid (partition ltInt d a b pv = (j5, false, swp dl j5 a)) := by show _ = _; rw [HPART.out, HB5.out]
                    have hja0 : a ≤ j5 := by omega
                    by_cases hja : j5 = a
                    · subst hja
                      have HA2 := HA
                      go_wp2_with fail
                      obtain ⟨cA, fA⟩ := HSj5.out.holds j5 (by rw [HSK.out]; omega)
                      rw [← HA.out] at cA
                      go_region
                      all_goals
                        have HSf : Hid (Srt w _ blk off (swp dl j5 j5)) := HSj5.out.swap_any (i := j5) (j := j5) (by rw [HSK.out]; omega) (by rw [HSK.out]; omega) HA.out HA.out
                        clear cA fA
                        go_wp2_with fail
                        go_ret2
                        rw [HE.out]
                        exact ⟨rfl, HSf.out⟩
                    · have hne : ¬ j5 = a := hja
                      obtain ⟨Z, hZ⟩ : ∃ Z, Z = dl[j5]! := ⟨_, rfl⟩
                      have HZ := Lib.hid hZ; clear hZ
                      go_wp2_with fail
                      obtain ⟨cA, fA⟩ := HSj5.out.holds a (by rw [HSK.out]; omega)
                      rw [← HA.out] at cA
                      obtain ⟨cZ, fZ⟩ := HSj5.out.holds j5 (by rw [HSK.out]; omega)
                      rw [← HZ.out] at cZ
                      go_region
                      all_goals
                        have HSf : Hid (Srt w _ blk off (swp dl j5 a)) := HSj5.out.swap_any (i := j5) (j := a) (by rw [HSK.out]; omega) (by rw [HSK.out]; omega) HA.out HZ.out
                        clear cA fA cZ fZ
                        go_wp2_with fail
                        go_ret2
                        rw [HE.out]
                        exact ⟨rfl, HSf.out⟩
                  · have HSL2 : Hid (i5 < j5) := part_scans_lt ltInt a i j dl (by omega) Hi53.out Hj53.out (by omega)
                    have hlt3 : i5 < j5 := HSL2.out
                    have HE : Hid (partLoop ltInt a (i5 + 1) (j5 - 1) (swp dl i5 j5) = RS) := by show _ = _; rw [← HO.out, part_go ltInt a i j dl Hi53.out Hj53.out hgt2]
                    have m1 : (0 : Int) ≤ (i5 : Int) := by omega
                    have m2 : (i5 : Int) < (D : Int) := by omega
                    have m3 : (0 : Int) ≤ (j5 : Int) := by omega
                    have m4 : (j5 : Int) < (D : Int) := by omega
                    obtain ⟨X3, hX3⟩ : ∃ X3, X3 = dl[i5]! := ⟨_, rfl⟩
                    have HX3 := Lib.hid hX3; clear hX3
                    obtain ⟨Y3, hY3⟩ : ∃ Y3, Y3 = dl[j5]! := ⟨_, rfl⟩
                    have HY3 := Lib.hid hY3; clear hY3
                    go_wp2_with fail
                    obtain ⟨cX, fX⟩ := HSj5.out.holds i5 (by rw [HSK.out]; omega)
                    rw [← HX3.out] at cX
                    obtain ⟨cY, fY⟩ := HSj5.out.holds j5 (by rw [HSK.out]; omega)
                    rw [← HY3.out] at cY
                    go_region
                    all_goals
                      go_wp2_with fail
                      go_roundw
                      case rel => exact ⟨i5 + 1, j5 - 1, _, by go_num, by congr 1; omega, by omega, by omega, by omega, by rw [size_swp]; exact HSK.out, HSj5.out.swap_any (by rw [HSK.out]; omega) (by rw [HSK.out]; omega) HY3.out HX3.out, HE.out⟩
                      case measure => (simp [intOf]) <;> omega
end Go.Proofs.Ythfhmohbfoolnaa
