import Derived.Test.YthfhmohbfoolnaaTd
import Derived.Sort.WalkC4
import Derived.Deep.CutBlock
import Derived.Deep.CutRange
namespace Go.Proofs.Ythfhmohbfoolnaa
open Go Go.RowKit Go.Sort

/-! The library's sort at []uint32: parting by what equals the pivot. -/
/-- The first exchange, of two places that may be one. -/
theorem Srt.swap_any {w0 w : World} {blk off : Nat} {d : Array Int} (h : Srt w0 w blk off d) {i j : Nat} (hi : i < d.size) (hj : j < d.size) {x y : Int} (hx : x = d[j]!) (hy : y = d[i]!) :
    Srt w0 ((w.setCell ⟨blk, off + i, none⟩ (.int .u32 x)).setCell ⟨blk, off + j, none⟩ (.int .u32 y)).drew blk off (swp d i j) := (h.swap hi hj hx hy).drew
set_option maxRecDepth 20000 in
set_option maxHeartbeats 16000000 in
theorem peqU (blk off cap a b pv : Nat) (d : Array Int) (w : World) (hs : Srt w w blk off d) (hb : b ≤ d.size) (hsz : d.size ≤ 1000000000) (hp1 : a < pv) (hp2 : pv < b) :
    Calls Try.prog 73 #[.slice (some ⟨blk, off, none⟩) d.size cap, .int .i64 a, .int .i64 b, .int .i64 pv] w fun e w' => e = .returned (.int .i64 ((partitionEqual ltInt d a b pv).1 : Nat)) ∧ Srt w w' blk off (partitionEqual ltInt d a b pv).2 := by
  have HS := Lib.hid hs; clear hs
  obtain ⟨D, hD⟩ : ∃ D, D = d.size := ⟨_, rfl⟩
  rw [← hD] at hb hsz ⊢
  have HD := Lib.hid hD; clear hD
  have HDEF : Hid (partitionEqual ltInt d a b pv = partEqLoop ltInt a (a + 1) (b - 1) (swp d a pv)) := rfl
  obtain ⟨B, hBm, hB⟩ : ∃ B : Nat, B = b - 1 ∧ (b : Int) - 1 = (B : Int) := ⟨_, rfl, by omega⟩
  rw [← hBm] at HDEF
  have b1 : B < D := by omega
  have b2 : a < B := by omega
  clear hBm
  have i1 : (0 : Int) ≤ (a : Int) := by omega
  have i2 : (a : Int) < (D : Int) := by omega
  have i3 : (0 : Int) ≤ (pv : Int) := by omega
  have i4 : (pv : Int) < (D : Int) := by omega
  obtain ⟨X, hX⟩ : ∃ X, X = d[a]! := ⟨_, rfl⟩
  have HX := Lib.hid hX; clear hX
  obtain ⟨Y, hY⟩ : ∃ Y, Y = d[pv]! := ⟨_, rfl⟩
  have HY := Lib.hid hY; clear hY
  obtain ⟨cX, fX⟩ := HS.out.holds a (by rw [← HD.out]; omega)
  rw [← HX.out] at cX
  obtain ⟨cY, fY⟩ := HS.out.holds pv (by rw [← HD.out]; omega)
  rw [← HY.out] at cY
  go_enter Try.func73, Try.ntmps73
  go_wp2_with fail
  go_region
  all_goals
    have HS1 : Hid (Srt w ((w.setCell ⟨blk, off + a, none⟩ (.int .u32 Y)).setCell ⟨blk, off + pv, none⟩ (.int .u32 X)).drew blk off (swp d a pv)) := HS.out.swap_any (by rw [← HD.out]; omega) (by rw [← HD.out]; omega) HY.out HX.out
    have HZ1 : Hid ((swp d a pv).size = D) := by show _ = _; rw [size_swp]; exact HD.out.symm
    clear cX cY fX fY
    go_wp2_with fail
    go_loopw [9, 10] (fun vi vj wr => ∃ (i j : Nat) (dk : Array Int), vi = .int .i64 i ∧ vj = .int .i64 j ∧ a + 1 ≤ i ∧ i ≤ j + 1 ∧ j < D ∧ dk.size = D ∧ Srt w wr blk off dk ∧ partEqLoop ltInt a i j dk = partitionEqual ltInt d a b pv) (fun vi vj _ => (intOf vj).toNat + 1 - (intOf vi).toNat)
    case atStart => exact ⟨a + 1, B, _, by go_num, rfl, Nat.le_refl _, by omega, b1, HZ1.out, HS1.out, HDEF.out.symm⟩
    case round =>
      obtain ⟨i, j, dk, rfl, rfl, hi1, hij, hjD, hsk, hSk, hO⟩ := hrel
      have HSq := Lib.hid hSk; have HO := Lib.hid hO; have HSK := Lib.hid hsk; clear hSk hO hsk
      obtain ⟨A, hA⟩ : ∃ A, A = dk[a]! := ⟨_, rfl⟩
      have HA := Lib.hid hA; clear hA
      go_upto_block 2 with fail
      go_cut [9] from 29 to 82 (fun s wc => ∃ k2 : Nat, s = .int .i64 k2 ∧ i ≤ k2 ∧ k2 ≤ j + 1 ∧ k2 = scanUp (fun x => !ltInt dk[a]! x) dk j i ∧ Srt w wc blk off dk)
      case first =>
        go_wp2_with fail
        go_loopw [9] (fun v wr => ∃ k : Nat, v = .int .i64 k ∧ i ≤ k ∧ k ≤ j + 1 ∧ scanUp (fun x => !ltInt dk[a]! x) dk j k = scanUp (fun x => !ltInt dk[a]! x) dk j i ∧ Srt w wr blk off dk) (fun v _ => j + 1 - (intOf v).toNat)
        case atStart => exact ⟨i, rfl, Nat.le_refl _, by omega, rfl, HSq.out⟩
        case round =>
          obtain ⟨k, rfl, hk1, hk2, hsc, hSk⟩ := hrel
          have HSC := Lib.hid hsc; have HSi := Lib.hid hSk; clear hsc hSk
          by_cases hlt : k ≤ j
          · have d1 : decide (k ≤ j) = true := decide_eq_true hlt
            have j1 : (0 : Int) ≤ (k : Int) := by omega
            have j2 : (k : Int) < (D : Int) := by omega
            obtain ⟨V, hV⟩ : ∃ V, V = dk[k]! := ⟨_, rfl⟩
            have HV := Lib.hid hV; clear hV
            cases hl : ltInt A V
            · have HL := Lib.hid hl
              have HPT : Hid (((fun x => !ltInt dk[a]! x)) dk[k]! = true) := by show _ = _; rw [HA.out, HV.out] at hl; simp [hl]
              go_wp2_with fail
              obtain ⟨cA, fA⟩ := HSi.out.holds a (by rw [HSK.out]; omega)
              rw [← HA.out] at cA
              obtain ⟨cV, fV⟩ := HSi.out.holds k (by rw [HSK.out]; omega)
              rw [← HV.out] at cV
              have qcA := fun d os => cell_regrown cA d os
              have qcV := fun d os => cell_regrown cV d os
              refine wp_region_quiet_below (by kernel_rfl) (by kernel_rfl) ?_
              iterate 15 (first | go_big_quiet_step (first
                | (go_at_call 72; exact Calls.regrown_of (less_any _ _ _))) | fail)
              refine wpQuiet_nil ?_
              intro HSeW hw'
              obtain ⟨⟨d3, os⟩, hw''⟩ := hw'
              have hb3 := below_regrown wr d3 os
              rw [← hw''] at hb3
              clear hw'' qcA qcV cA cV fA fV hl
              have HSe := Lib.hid (HSi.out.below hb3); clear hb3
              go_wp2_with fail
              go_roundw
              case rel => exact ⟨k + 1, by go_num, by omega, by omega, by rw [← HSC.out, scanUp_go (fun x => !ltInt dk[a]! x) dk j k hlt HPT.out], HSe.out⟩
              case measure => (simp [intOf]) <;> omega
            · have HL := Lib.hid hl
              have HPT : Hid (((fun x => !ltInt dk[a]! x)) dk[k]! = false) := by show _ = _; rw [HA.out, HV.out] at hl; simp [hl]
              go_wp2_with fail
              obtain ⟨cA, fA⟩ := HSi.out.holds a (by rw [HSK.out]; omega)
              rw [← HA.out] at cA
              obtain ⟨cV, fV⟩ := HSi.out.holds k (by rw [HSK.out]; omega)
              rw [← HV.out] at cV
              have qcA := fun d os => cell_regrown cA d os
              have qcV := fun d os => cell_regrown cV d os
              refine wp_region_quiet_below (by kernel_rfl) (by kernel_rfl) ?_
              iterate 15 (first | go_big_quiet_step (first
                | (go_at_call 72; exact Calls.regrown_of (less_any _ _ _))) | fail)
              refine wpQuiet_nil ?_
              intro HSeW hw'
              obtain ⟨⟨d3, os⟩, hw''⟩ := hw'
              have hb3 := below_regrown wr d3 os
              rw [← hw''] at hb3
              clear hw'' qcA qcV cA cV fA fV hl
              have HSe := Lib.hid (HSi.out.below hb3); clear hb3
              go_wp2_with fail
              go_meet
              case rel => exact ⟨k, rfl, by omega, by omega, by rw [← HSC.out, scanUp_end (fun x => !ltInt dk[a]! x) dk j k (.inr HPT.out)], HSe.out⟩
          · have d1 : decide (k ≤ j) = false := decide_eq_false hlt
            go_wp2_with fail
            refine wp_region_quiet_below (by kernel_rfl) (by kernel_rfl) ?_
            iterate 15 (first | go_big_quiet_step (first
              | (go_at_call 72; exact Calls.regrown_of (less_any _ _ _))) | fail)
            refine wpQuiet_nil ?_
            intro HSeW hw'
            obtain ⟨⟨d3, os⟩, hw''⟩ := hw'
            have hb3 := below_regrown wr d3 os
            rw [← hw''] at hb3
            clear hw''   
            have HSe := Lib.hid (HSi.out.below hb3); clear hb3
            go_wp2_with fail
            go_meet
            case rel => exact ⟨k, rfl, by omega, by omega, by rw [← HSC.out, scanUp_end (fun x => !ltInt dk[a]! x) dk j k (.inl hlt)], HSe.out⟩
      case rest =>
        obtain ⟨ii, rfl, hii1, hii2, hii3, hii4⟩ := hcut
        have HSii := Lib.hid hii4; have Hii3 := Lib.hid hii3; clear hii4 hii3
        go_upto_block 4 with fail
        go_cut [10] from 29 to 82 (fun s wc => ∃ k2 : Nat, s = .int .i64 k2 ∧ ii ≤ k2 + 1 ∧ k2 ≤ j ∧ k2 = scanDown (fun x => ltInt dk[a]! x) dk ii j ∧ Srt w wc blk off dk)
        case first =>
          go_wp2_with fail
          go_loopw [10] (fun v wr => ∃ k : Nat, v = .int .i64 k ∧ ii ≤ k + 1 ∧ k ≤ j ∧ scanDown (fun x => ltInt dk[a]! x) dk ii k = scanDown (fun x => ltInt dk[a]! x) dk ii j ∧ Srt w wr blk off dk) (fun v _ => (intOf v).toNat)
          case atStart => exact ⟨j, rfl, by omega, Nat.le_refl _, rfl, HSii.out⟩
          case round =>
            obtain ⟨k, rfl, hk1, hk2, hsc, hSk⟩ := hrel
            have HSC := Lib.hid hsc; have HSi := Lib.hid hSk; clear hsc hSk
            by_cases hlt : ii ≤ k
            · have d1 : decide (ii ≤ k) = true := decide_eq_true hlt
              have j1 : (0 : Int) ≤ (k : Int) := by omega
              have j2 : (k : Int) < (D : Int) := by omega
              obtain ⟨V, hV⟩ : ∃ V, V = dk[k]! := ⟨_, rfl⟩
              have HV := Lib.hid hV; clear hV
              cases hl : ltInt A V
              · have HL := Lib.hid hl
                have HPT : Hid (((fun x => ltInt dk[a]! x)) dk[k]! = false) := by show _ = _; rw [HA.out, HV.out] at hl; simp [hl]
                go_wp2_with fail
                obtain ⟨cA, fA⟩ := HSi.out.holds a (by rw [HSK.out]; omega)
                rw [← HA.out] at cA
                obtain ⟨cV, fV⟩ := HSi.out.holds k (by rw [HSK.out]; omega)
                rw [← HV.out] at cV
                have qcA := fun d os => cell_regrown cA d os
                have qcV := fun d os => cell_regrown cV d os
                refine wp_region_quiet_below (by kernel_rfl) (by kernel_rfl) ?_
                iterate 14 (first | go_big_quiet_step (first
                  | (go_at_call 72; exact Calls.regrown_of (less_any _ _ _))) | fail)
                refine wpQuiet_nil ?_
                intro HSeW hw'
                obtain ⟨⟨d3, os⟩, hw''⟩ := hw'
                have hb3 := below_regrown wr d3 os
                rw [← hw''] at hb3
                clear hw'' qcA qcV cA cV fA fV hl
                have HSe := Lib.hid (HSi.out.below hb3); clear hb3
                go_wp2_with fail
                go_meet
                case rel => exact ⟨k, rfl, by omega, by omega, by rw [← HSC.out, scanDown_end (fun x => ltInt dk[a]! x) dk ii k (.inr HPT.out)], HSe.out⟩
              · have HL := Lib.hid hl
                have HPT : Hid (((fun x => ltInt dk[a]! x)) dk[k]! = true) := by show _ = _; rw [HA.out, HV.out] at hl; simp [hl]
                go_wp2_with fail
                obtain ⟨cA, fA⟩ := HSi.out.holds a (by rw [HSK.out]; omega)
                rw [← HA.out] at cA
                obtain ⟨cV, fV⟩ := HSi.out.holds k (by rw [HSK.out]; omega)
                rw [← HV.out] at cV
                have qcA := fun d os => cell_regrown cA d os
                have qcV := fun d os => cell_regrown cV d os
                refine wp_region_quiet_below (by kernel_rfl) (by kernel_rfl) ?_
                iterate 14 (first | go_big_quiet_step (first
                  | (go_at_call 72; exact Calls.regrown_of (less_any _ _ _))) | fail)
                refine wpQuiet_nil ?_
                intro HSeW hw'
                obtain ⟨⟨d3, os⟩, hw''⟩ := hw'
                have hb3 := below_regrown wr d3 os
                rw [← hw''] at hb3
                clear hw'' qcA qcV cA cV fA fV hl
                have HSe := Lib.hid (HSi.out.below hb3); clear hb3
                go_wp2_with fail
                go_roundw
                case rel => exact ⟨k - 1, by congr 1; omega, by omega, by omega, by rw [← HSC.out, scanDown_go (fun x => ltInt dk[a]! x) dk ii k hlt (by omega) HPT.out], HSe.out⟩
                case measure => (simp [intOf]) <;> omega
            · have d1 : decide (ii ≤ k) = false := decide_eq_false hlt
              go_wp2_with fail
              refine wp_region_quiet_below (by kernel_rfl) (by kernel_rfl) ?_
              iterate 14 (first | go_big_quiet_step (first
                | (go_at_call 72; exact Calls.regrown_of (less_any _ _ _))) | fail)
              refine wpQuiet_nil ?_
              intro HSeW hw'
              obtain ⟨⟨d3, os⟩, hw''⟩ := hw'
              have hb3 := below_regrown wr d3 os
              rw [← hw''] at hb3
              clear hw''   
              have HSe := Lib.hid (HSi.out.below hb3); clear hb3
              go_wp2_with fail
              go_meet
              case rel => exact ⟨k, rfl, by omega, by omega, by rw [← HSC.out, scanDown_end (fun x => ltInt dk[a]! x) dk ii k (.inl hlt)], HSe.out⟩
        case rest =>
          obtain ⟨jj, rfl, hjj1, hjj2, hjj3, hjj4⟩ := hcut
          have HSjj := Lib.hid hjj4; have Hjj3 := Lib.hid hjj3; clear hjj4 hjj3
          by_cases hgt : jj < ii
          · have HE : Hid (partitionEqual ltInt d a b pv = (ii, dk)) := by show _ = _; rw [← HO.out, partEq_break ltInt a i j dk Hii3.out Hjj3.out hgt]
            go_wp2_with fail
            go_ret
            exact ⟨by rw [HE.out]; rfl, by rw [HE.out]; exact HSjj.out⟩
          · have HSL : Hid (ii < jj) := scans_lt ltInt a i j dk (by omega) Hii3.out Hjj3.out (by omega)
            have hlt2 : ii < jj := HSL.out
            have HE : Hid (partEqLoop ltInt a (ii + 1) (jj - 1) (swp dk ii jj) = partitionEqual ltInt d a b pv) := by show _ = _; rw [← HO.out, partEq_go ltInt a i j dk Hii3.out Hjj3.out hgt]
            have j1 : (0 : Int) ≤ (ii : Int) := by omega
            have j2 : (ii : Int) < (D : Int) := by omega
            have j3 : (0 : Int) ≤ (jj : Int) := by omega
            have j4 : (jj : Int) < (D : Int) := by omega
            obtain ⟨X2, hX2⟩ : ∃ X2, X2 = dk[ii]! := ⟨_, rfl⟩
            have HX2 := Lib.hid hX2; clear hX2
            obtain ⟨Y2, hY2⟩ : ∃ Y2, Y2 = dk[jj]! := ⟨_, rfl⟩
            have HY2 := Lib.hid hY2; clear hY2
            go_wp2_with fail
            obtain ⟨cX, fX⟩ := HSjj.out.holds ii (by rw [HSK.out]; omega)
            rw [← HX2.out] at cX
            obtain ⟨cY, fY⟩ := HSjj.out.holds jj (by rw [HSK.out]; omega)
            rw [← HY2.out] at cY
            go_region
            all_goals
              go_wp2_with fail
              go_roundw
              case rel => exact ⟨ii + 1, jj - 1, _, by go_num, by congr 1; omega, by omega, by omega, by omega, by rw [size_swp]; exact HSK.out, HSjj.out.swap_any (by rw [HSK.out]; omega) (by rw [HSK.out]; omega) HY2.out HX2.out, HE.out⟩
              case measure => (simp [intOf]) <;> omega
end Go.Proofs.Ythfhmohbfoolnaa
