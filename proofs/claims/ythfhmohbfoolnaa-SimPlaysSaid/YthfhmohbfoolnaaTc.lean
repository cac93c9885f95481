import Derived.Test.YthfhmohbfoolnaaTb
import Derived.Sort.WalkB2
namespace Go.Proofs.Ythfhmohbfoolnaa
open Go Go.RowKit Go.Sort

/-! The library's sort at []uint32: sifting down. -/
set_option maxRecDepth 20000 in
set_option maxHeartbeats 8000000 in
theorem siftU (blk off cap lo hi F : Nat) (d : Array Int) (w : World) (hs : Srt w w blk off d) (hb : F + hi ≤ d.size) (hsz : d.size ≤ 1000000000) (hlo : lo ≤ 1000000000) :
    Calls Try.prog 77 #[.slice (some ⟨blk, off, none⟩) d.size cap, .int .i64 lo, .int .i64 hi, .int .i64 F] w fun e w' => e = .returned (.tuple #[]) ∧ Srt w w' blk off (siftDown ltInt hi F lo d) := by
  have HS := Lib.hid hs; clear hs
  obtain ⟨D, hD⟩ : ∃ D, D = d.size := ⟨_, rfl⟩
  rw [← hD] at hb hsz ⊢
  have HD := Lib.hid hD; clear hD
  go_enter Try.func77, Try.ntmps77
  go_wp2_with fail
  go_loopw [8] (fun vr wr => ∃ (r : Nat) (dk : Array Int), vr = .int .i64 r ∧ r ≤ 1000000000 ∧ dk.size = D ∧ Srt w wr blk off dk ∧ siftDown ltInt hi F r dk = siftDown ltInt hi F lo d) (fun vr _ => hi - (intOf vr).toNat)
  case atStart => exact ⟨lo, d, rfl, hlo, HD.out.symm, HS.out, rfl⟩
  case round =>
    obtain ⟨r, dk, rfl, hr, hsk, hSk, hO⟩ := hrel
    have HSq := Lib.hid hSk; have HO := Lib.hid hO; have HSK := Lib.hid hsk; clear hSk hO hsk
    obtain ⟨C, hCm, hC⟩ : ∃ C : Nat, C = 2 * r + 1 ∧ 2 * (r : Int) + 1 = (C : Int) := ⟨_, rfl, by omega⟩
    by_cases hlt : hi ≤ C
    · have HE : Hid (dk = siftDown ltInt hi F lo d) := by show _ = _; rw [← HO.out, sd_end ltInt dk (by omega)]
      have b0 : C ≤ 2000000001 := by omega
      clear hCm
      go_wp2_with fail
      go_end0
      exact ⟨rfl, by rw [← HE.out]; exact HSq.out⟩
    · obtain ⟨R, hRm, hR⟩ : ∃ R : Nat, R = F + r ∧ (F : Int) + (r : Int) = (R : Int) := ⟨_, rfl, by omega⟩
      obtain ⟨L, hLm, hL⟩ : ∃ L : Nat, L = F + C ∧ (F : Int) + (C : Int) = (L : Int) := ⟨_, rfl, by omega⟩
      obtain ⟨C2, hC2m, hC2⟩ : ∃ C2 : Nat, C2 = C + 1 ∧ (C : Int) + 1 = (C2 : Int) := ⟨_, rfl, by omega⟩
      obtain ⟨L2, hL2m, hL2⟩ : ∃ L2 : Nat, L2 = F + C2 ∧ (F : Int) + (C2 : Int) = (L2 : Int) := ⟨_, rfl, by omega⟩
      have hL3 : (L : Int) + 1 = (L2 : Int) := by omega
      have HM : Hid (C = 2 * r + 1 ∧ R = F + r ∧ L = F + C ∧ C2 = C + 1 ∧ L2 = F + C2 ∧ L = F + (2 * r + 1) ∧ L2 = F + (2 * r + 2) ∧ C2 = 2 * r + 2) := ⟨hCm, hRm, hLm, hC2m, hL2m, by omega, by omega, by omega⟩
      have b1 : R < D := by omega
      have b2 : L < D := by omega
      have b3 : C < C2 := by omega
      have b4 : C2 < hi → L2 < D := by omega
      have b5 : r < C := by omega
      have b6 : C2 ≤ 1000000001 := by omega
      clear hCm hRm hLm hC2m hL2m
      have i1 : (0 : Int) ≤ (R : Int) := by omega
      have i2 : (R : Int) < (D : Int) := by omega
      have i3 : (0 : Int) ≤ (L : Int) := by omega
      have i4 : (L : Int) < (D : Int) := by omega
      have d0 : ¬ hi ≤ C := hlt
      obtain ⟨X, hX⟩ : ∃ X, X = dk[R]! := ⟨_, rfl⟩
      have HX := Lib.hid hX; clear hX
      obtain ⟨Y, hY⟩ : ∃ Y, Y = dk[L]! := ⟨_, rfl⟩
      have HY := Lib.hid hY; clear hY
      by_cases hc2 : C2 < hi
      · have b7 : L2 < D := b4 hc2
        have i5 : (0 : Int) ≤ (L2 : Int) := by omega
        have i6 : (L2 : Int) < (D : Int) := by omega
        have d2 : decide (C2 < hi) = true := decide_eq_true hc2
        obtain ⟨Z, hZ⟩ : ∃ Z, Z = dk[L2]! := ⟨_, rfl⟩
        have HZ := Lib.hid hZ; clear hZ
        cases hyz : ltInt Y Z
        · have HYZ := Lib.hid hyz
          have HN : Hid (2 * r + 2 < hi → ltInt dk[F + (2 * r + 1)]! dk[F + (2 * r + 2)]! = false) := fun _ => by have h := HYZ.out; rw [HY.out, HZ.out, HM.out.2.2.2.2.2.1, HM.out.2.2.2.2.2.2.1] at h; exact h
          go_wp2_with fail
          obtain ⟨cY, fY⟩ := HSq.out.holds L (by rw [HSK.out]; omega)
          rw [← HY.out] at cY
          obtain ⟨cZ, fZ⟩ := HSq.out.holds L2 (by rw [HSK.out]; omega)
          rw [← HZ.out] at cZ
          have qcY := fun d os => cell_regrown cY d os
          have qcZ := fun d os => cell_regrown cZ d os
          refine wp_region_quiet_below (by kernel_rfl) (by kernel_rfl) ?_
          iterate 20 (first | go_big_quiet_step (first
            | (go_at_call 72; exact Calls.regrown_of (less_any _ _ _))) | fail)
          refine wpQuiet_nil ?_
          intro HSpW hw'
          obtain ⟨⟨d3, os⟩, hw''⟩ := hw'
          have hb3 := below_regrown wr d3 os
          rw [← hw''] at hb3
          clear hw'' qcY qcZ cY cZ fY fZ
          have HSp := Lib.hid (HSq.out.below hb3); clear hb3
          clear hyz
          cases hl : ltInt X Y
          · have HL := Lib.hid hl
            have HE : Hid (dk = siftDown ltInt hi F lo d) := by show _ = _; rw [← HO.out, sd_left_stop ltInt dk (by have := HM.out.1; omega) HN.out (by have h := HL.out; rw [HX.out, HY.out, HM.out.2.1, HM.out.2.2.2.2.2.1] at h; exact h)]
            go_wp2_with fail
            obtain ⟨cX, fX⟩ := HSp.out.holds R (by rw [HSK.out]; omega)
            rw [← HX.out] at cX
            obtain ⟨cV, fV⟩ := HSp.out.holds L (by rw [HSK.out]; omega)
            rw [← HY.out] at cV
            have qcX := fun d os => cell_regrown cX d os
            have qcV := fun d os => cell_regrown cV d os
            refine wp_region_quiet_below (by kernel_rfl) (by kernel_rfl) ?_
            iterate 14 (first | go_big_quiet_step (first
              | (go_at_call 72; exact Calls.regrown_of (less_any _ _ _))) | fail)
            refine wpQuiet_nil ?_
            intro HSrW hw'
            obtain ⟨⟨d3, os⟩, hw''⟩ := hw'
            have hb3 := below_regrown HSpW d3 os
            rw [← hw''] at hb3
            clear hw'' qcX qcV cX cV fX fV
            have HSr := Lib.hid (HSp.out.below hb3); clear hb3
            go_wp2_with fail
            refine bodyPost_ret (results_none rfl _ _ _) rfl ?_
            exact ⟨rfl, by rw [← HE.out]; exact HSr.out⟩
          · have HL := Lib.hid hl
            go_wp2_with fail
            obtain ⟨cX, fX⟩ := HSp.out.holds R (by rw [HSK.out]; omega)
            rw [← HX.out] at cX
            obtain ⟨cV, fV⟩ := HSp.out.holds L (by rw [HSK.out]; omega)
            rw [← HY.out] at cV
            have qcX := fun d os => cell_regrown cX d os
            have qcV := fun d os => cell_regrown cV d os
            refine wp_region_quiet_below (by kernel_rfl) (by kernel_rfl) ?_
            iterate 14 (first | go_big_quiet_step (first
              | (go_at_call 72; exact Calls.regrown_of (less_any _ _ _))) | fail)
            refine wpQuiet_nil ?_
            intro HSrW hw'
            obtain ⟨⟨d3, os⟩, hw''⟩ := hw'
            have hb3 := below_regrown HSpW d3 os
            rw [← hw''] at hb3
            clear hw'' qcX qcV cX cV fX fV
            have HSr := Lib.hid (HSp.out.below hb3); clear hb3
            obtain ⟨cX, fX⟩ := HSr.out.holds R (by rw [HSK.out]; omega)
            rw [← HX.out] at cX
            obtain ⟨cV, fV⟩ := HSr.out.holds L (by rw [HSK.out]; omega)
            rw [← HY.out] at cV
            go_wp2_with fail
            go_region
            all_goals
              go_wp2_with fail
              go_roundw
              case rel =>
                refine ⟨C, swp dk R L, by go_num, by omega, by rw [size_swp]; exact HSK.out, (HSr.out.swap (i := R) (j := L) (by rw [HSK.out]; omega) (by rw [HSK.out]; omega) HY.out HX.out).drew, ?_⟩
                rw [← HO.out, sd_left_go ltInt dk (by have := HM.out.1; omega) HN.out (by have h := HL.out; rw [HX.out, HY.out, HM.out.2.1, HM.out.2.2.2.2.2.1] at h; exact h), HM.out.1, HM.out.2.1, HM.out.2.2.1, HM.out.1]
              case measure => (simp [intOf]) <;> omega
        · have HYZ := Lib.hid hyz
          go_wp2_with fail
          obtain ⟨cY, fY⟩ := HSq.out.holds L (by rw [HSK.out]; omega)
          rw [← HY.out] at cY
          obtain ⟨cZ, fZ⟩ := HSq.out.holds L2 (by rw [HSK.out]; omega)
          rw [← HZ.out] at cZ
          have qcY := fun d os => cell_regrown cY d os
          have qcZ := fun d os => cell_regrown cZ d os
          refine wp_region_quiet_below (by kernel_rfl) (by kernel_rfl) ?_
          iterate 20 (first | go_big_quiet_step (first
            | (go_at_call 72; exact Calls.regrown_of (less_any _ _ _))) | fail)
          refine wpQuiet_nil ?_
          intro HSpW hw'
          obtain ⟨⟨d3, os⟩, hw''⟩ := hw'
          have hb3 := below_regrown wr d3 os
          rw [← hw''] at hb3
          clear hw'' qcY qcZ cY cZ fY fZ
          have HSp := Lib.hid (HSq.out.below hb3); clear hb3
          clear hyz
          cases hl : ltInt X Z
          · have HL := Lib.hid hl
            have HE : Hid (dk = siftDown ltInt hi F lo d) := by show _ = _; rw [← HO.out, sd_right_stop ltInt dk (by have := HM.out.2.2.2.2.2.2.2; omega) (by have h := HYZ.out; rw [HY.out, HZ.out, HM.out.2.2.2.2.2.1, HM.out.2.2.2.2.2.2.1] at h; exact h) (by have h := HL.out; rw [HX.out, HZ.out, HM.out.2.1, HM.out.2.2.2.2.2.2.1] at h; exact h)]
            go_wp2_with fail
            obtain ⟨cX, fX⟩ := HSp.out.holds R (by rw [HSK.out]; omega)
            rw [← HX.out] at cX
            obtain ⟨cV, fV⟩ := HSp.out.holds L2 (by rw [HSK.out]; omega)
            rw [← HZ.out] at cV
            have qcX := fun d os => cell_regrown cX d os
            have qcV := fun d os => cell_regrown cV d os
            refine wp_region_quiet_below (by kernel_rfl) (by kernel_rfl) ?_
            iterate 14 (first | go_big_quiet_step (first
              | (go_at_call 72; exact Calls.regrown_of (less_any _ _ _))) | fail)
            refine wpQuiet_nil ?_
            intro HSrW hw'
            obtain ⟨⟨d3, os⟩, hw''⟩ := hw'
            have hb3 := below_regrown HSpW d3 os
            rw [← hw''] at hb3
            clear hw'' qcX qcV cX cV fX fV
            have HSr := Lib.hid (HSp.out.below hb3); clear hb3
            go_wp2_with fail
            refine bodyPost_ret (results_none rfl _ _ _) rfl ?_
            exact ⟨rfl, by rw [← HE.out]; exact HSr.out⟩
          · have HL := Lib.hid hl
            go_wp2_with fail
            obtain ⟨cX, fX⟩ := HSp.out.holds R (by rw [HSK.out]; omega)
            rw [← HX.out] at cX
            obtain ⟨cV, fV⟩ := HSp.out.holds L2 (by rw [HSK.out]; omega)
            rw [← HZ.out] at cV
            have qcX := fun d os => cell_regrown cX d os
            have qcV := fun d os => cell_regrown cV d os
            refine wp_region_quiet_below (by kernel_rfl) (by kernel_rfl) ?_
            iterate 14 (first | go_big_quiet_step (first
              | (go_at_call 72; exact Calls.regrown_of (less_any _ _ _))) | fail)
            refine wpQuiet_nil ?_
            intro HSrW hw'
            obtain ⟨⟨d3, os⟩, hw''⟩ := hw'
            have hb3 := below_regrown HSpW d3 os
            rw [← hw''] at hb3
            clear hw'' qcX qcV cX cV fX fV
            have HSr := Lib.hid (HSp.out.below hb3); clear hb3
            obtain ⟨cX, fX⟩ := HSr.out.holds R (by rw [HSK.out]; omega)
            rw [← HX.out] at cX
            obtain ⟨cV, fV⟩ := HSr.out.holds L2 (by rw [HSK.out]; omega)
            rw [← HZ.out] at cV
            go_wp2_with fail
            go_region
            all_goals
              go_wp2_with fail
              go_roundw
              case rel =>
                refine ⟨C2, swp dk R L2, by go_num, by omega, by rw [size_swp]; exact HSK.out, (HSr.out.swap (i := R) (j := L2) (by rw [HSK.out]; omega) (by rw [HSK.out]; omega) HZ.out HX.out).drew, ?_⟩
                rw [← HO.out, sd_right_go ltInt dk (by have := HM.out.2.2.2.2.2.2.2; omega) (by have h := HYZ.out; rw [HY.out, HZ.out, HM.out.2.2.2.2.2.1, HM.out.2.2.2.2.2.2.1] at h; exact h) (by have h := HL.out; rw [HX.out, HZ.out, HM.out.2.1, HM.out.2.2.2.2.2.2.1] at h; exact h), HM.out.2.2.2.2.2.2.2, HM.out.2.1, HM.out.2.2.2.2.2.2.1]
              case measure => (simp [intOf]) <;> omega
      · have d2 : decide (C2 < hi) = false := decide_eq_false hc2
        have HN : Hid (2 * r + 2 < hi → ltInt dk[F + (2 * r + 1)]! dk[F + (2 * r + 2)]! = false) := fun h => absurd h (by have := HM.out.2.2.2.2.2.2.2; omega)
        go_wp2_with fail
        refine wp_region_quiet_below (by kernel_rfl) (by kernel_rfl) ?_
        iterate 20 (first | go_big_quiet_step (first
          | (go_at_call 72; exact Calls.regrown_of (less_any _ _ _))) | fail)
        refine wpQuiet_nil ?_
        intro HSpW hw'
        obtain ⟨⟨d3, os⟩, hw''⟩ := hw'
        have hb3 := below_regrown wr d3 os
        rw [← hw''] at hb3
        clear hw''   
        have HSp := Lib.hid (HSq.out.below hb3); clear hb3
        cases hl : ltInt X Y
        · have HL := Lib.hid hl
          have HE : Hid (dk = siftDown ltInt hi F lo d) := by show _ = _; rw [← HO.out, sd_left_stop ltInt dk (by have := HM.out.1; omega) HN.out (by have h := HL.out; rw [HX.out, HY.out, HM.out.2.1, HM.out.2.2.2.2.2.1] at h; exact h)]
          go_wp2_with fail
          obtain ⟨cX, fX⟩ := HSp.out.holds R (by rw [HSK.out]; omega)
          rw [← HX.out] at cX
          obtain ⟨cV, fV⟩ := HSp.out.holds L (by rw [HSK.out]; omega)
          rw [← HY.out] at cV
          have qcX := fun d os => cell_regrown cX d os
          have qcV := fun d os => cell_regrown cV d os
          refine wp_region_quiet_below (by kernel_rfl) (by kernel_rfl) ?_
          iterate 14 (first | go_big_quiet_step (first
            | (go_at_call 72; exact Calls.regrown_of (less_any _ _ _))) | fail)
          refine wpQuiet_nil ?_
          intro HSrW hw'
          obtain ⟨⟨d3, os⟩, hw''⟩ := hw'
          have hb3 := below_regrown HSpW d3 os
          rw [← hw''] at hb3
          clear hw'' qcX qcV cX cV fX fV
          have HSr := Lib.hid (HSp.out.below hb3); clear hb3
          go_wp2_with fail
          refine bodyPost_ret (results_none rfl _ _ _) rfl ?_
          exact ⟨rfl, by rw [← HE.out]; exact HSr.out⟩
        · have HL := Lib.hid hl
          go_wp2_with fail
          obtain ⟨cX, fX⟩ := HSp.out.holds R (by rw [HSK.out]; omega)
          rw [← HX.out] at cX
          obtain ⟨cV, fV⟩ := HSp.out.holds L (by rw [HSK.out]; omega)
          rw [← HY.out] at cV
          have qcX := fun d os => cell_regrown cX d os
          have qcV := fun d os => cell_regrown cV d os
          refine wp_region_quiet_below (by kernel_rfl) (by kernel_rfl) ?_
          iterate 14 (first | go_big_quiet_step (first
            | (go_at_call 72; exact Calls.regrown_of (less_any _ _ _))) | fail)
          refine wpQuiet_nil ?_
          intro HSrW hw'
          obtain ⟨⟨d3, os⟩, hw''⟩ := hw'
          have hb3 := below_regrown HSpW d3 os
          rw [← hw''] at hb3
          clear hw'' qcX qcV cX cV fX fV
          have HSr := Lib.hid (HSp.out.below hb3); clear hb3
          obtain ⟨cX, fX⟩ := HSr.out.holds R (by rw [HSK.out]; omega)
          rw [← HX.out] at cX
          obtain ⟨cV, fV⟩ := HSr.out.holds L (by rw [HSK.out]; omega)
          rw [← HY.out] at cV
          go_wp2_with fail
          go_region
          all_goals
            go_wp2_with fail
            go_roundw
            case rel =>
              refine ⟨C, swp dk R L, by go_num, by omega, by rw [size_swp]; exact HSK.out, (HSr.out.swap (i := R) (j := L) (by rw [HSK.out]; omega) (by rw [HSK.out]; omega) HY.out HX.out).drew, ?_⟩
              rw [← HO.out, sd_left_go ltInt dk (by have := HM.out.1; omega) HN.out (by have h := HL.out; rw [HX.out, HY.out, HM.out.2.1, HM.out.2.2.2.2.2.1] at h; exact h), HM.out.1, HM.out.2.1, HM.out.2.2.1, HM.out.1]
            case measure => (simp [intOf]) <;> omega
end Go.Proofs.Ythfhmohbfoolnaa
