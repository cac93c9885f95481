import Derived.Test.YthfhmohbfoolnaaTa
namespace Go.Proofs.Ythfhmohbfoolnaa
open Go Go.RowKit Go.Sort

/-! The library's sort at []uint32: by insertion. -/
set_option maxRecDepth 20000 in
set_option maxHeartbeats 8000000 in
theorem insU (blk off cap a b : Nat) (d : Array Int) (w : World) (hs : Srt w w blk off d) (hab : a ≤ b) (hb : b ≤ d.size) (hsz : d.size ≤ 1000000000) :
    Calls Try.prog 66 #[.slice (some ⟨blk, off, none⟩) d.size cap, .int .i64 a, .int .i64 b] w fun e w' => e = .returned (.tuple #[]) ∧ Srt w w' blk off (insertionSort ltInt d a b) := by
  have HS := Lib.hid hs; clear hs
  obtain ⟨D, hD⟩ : ∃ D, D = d.size := ⟨_, rfl⟩
  rw [← hD] at hb hsz ⊢
  have HD := Lib.hid hD; clear hD
  go_enter Try.func66, Try.ntmps66
  go_wp2_with fail
  go_loopw [6] (fun vi wr => ∃ (i : Nat) (dk : Array Int), vi = .int .i64 i ∧ a < i ∧ i ≤ b + 1 ∧ dk.size = D ∧ Srt w wr blk off dk ∧ insOuter ltInt a b i dk = insertionSort ltInt d a b) (fun vi _ => b + 1 - (intOf vi).toNat)
  case atStart => exact ⟨a + 1, d, by go_num, by omega, by omega, HD.out.symm, HS.out, rfl⟩
  case round =>
    obtain ⟨i, dk, rfl, hai, hib, hsk, hSk, hO⟩ := hrel
    have HSk := Lib.hid hSk; have HO := Lib.hid hO; have HSK := Lib.hid hsk; clear hSk hO hsk
    by_cases hlt : i < b
    · go_wp2_with fail
      go_loopw [7] (fun vj wr2 => ∃ (j : Nat) (dj : Array Int), vj = .int .i64 j ∧ a ≤ j ∧ j ≤ i ∧ dj.size = D ∧ Srt w wr2 blk off dj ∧ insInner ltInt a j dj = insInner ltInt a i dk) (fun vj _ => (intOf vj).toNat)
      case atStart => exact ⟨i, dk, rfl, by omega, Nat.le_refl _, HSK.out, HSk.out, rfl⟩
      case round =>
        obtain ⟨j, dj, rfl, haj, hji, hsj, hSj, hI⟩ := hrel
        have HSj := Lib.hid hSj; have HI := Lib.hid hI; have HSJ := Lib.hid hsj; clear hSj hI hsj
        have OUT : Hid ((j ≤ a ∨ ltInt dj[j]! dj[j - 1]! = false) → insOuter ltInt a b (i + 1) dj = insertionSort ltInt d a b) := fun h => by
          rw [← HO.out, insOuter_go _ _ _ _ _ hlt, ← HI.out, insInner_stop _ _ _ _ h]
        by_cases hja : a < j
        · obtain ⟨k, rfl⟩ : ∃ k, j = k + 1 := ⟨j - 1, by omega⟩
          have d1 : decide ((a : Int) < (k : Int) + 1) = true := decide_eq_true (by omega)
          obtain ⟨X, hX⟩ : ∃ X, X = dj[k + 1]! := ⟨_, rfl⟩
          obtain ⟨Y, hY⟩ : ∃ Y, Y = dj[k]! := ⟨_, rfl⟩
          have HX := Lib.hid hX; have HY := Lib.hid hY
          obtain ⟨cX, fX⟩ := HSj.out.holds (k + 1) (by rw [HSJ.out]; omega)
          obtain ⟨cY, fY⟩ := HSj.out.holds k (by rw [HSJ.out]; omega)
          rw [← hX] at cX
          rw [← hY] at cY
          clear hX hY
          have i1 : (0 : Int) ≤ (k : Int) := by omega
          have i2 : (k : Int) < (D : Int) := by omega
          have i3 : (0 : Int) ≤ (k : Int) + 1 := by omega
          have i4 : (k : Int) + 1 < (D : Int) := by omega
          cases hl : ltInt X Y
          · have HL := Lib.hid hl
            go_wp2_with fail
            have kX := fun d os => cell_regrown cX d os
            have kY := fun d os => cell_regrown cY d os
            refine wp_region_quiet_below (by kernel_rfl) (by kernel_rfl) ?_
            iterate 15 (first | go_big_quiet_step (first
              | (go_at_call 72; exact Calls.regrown_of (less_any _ _ _))) | fail)
            refine wpQuiet_nil ?_
            intro W3 hw'
            obtain ⟨⟨d3, os⟩, hw''⟩ := hw'
            have hb3 := below_regrown wr d3 os
            rw [← hw''] at hb3
            clear hw'' kX kY cX cY fX fY
            have HS3 := Lib.hid (HSj.out.below hb3); clear hb3
            go_wp2_with fail
            go_roundw
            case rel => exact ⟨i + 1, dj, by go_num, by omega, by omega, HSJ.out, HS3.out, OUT.out (.inr (by rw [Nat.add_sub_cancel, ← HX.out, ← HY.out]; exact HL.out))⟩
            case measure => (simp [intOf]) <;> omega
          · have HL := Lib.hid hl
            go_wp2_with fail
            have kX := fun d os => cell_regrown cX d os
            have kY := fun d os => cell_regrown cY d os
            refine wp_region_quiet_below (by kernel_rfl) (by kernel_rfl) ?_
            iterate 15 (first | go_big_quiet_step (first
              | (go_at_call 72; exact Calls.regrown_of (less_any _ _ _))) | fail)
            refine wpQuiet_nil ?_
            intro W3 hw'
            obtain ⟨⟨d3, os⟩, hw''⟩ := hw'
            have hb3 := below_regrown wr d3 os
            rw [← hw''] at hb3
            clear hw'' kX kY cX cY fX fY
            have HS3 := Lib.hid (HSj.out.below hb3); clear hb3
            obtain ⟨cX, fX⟩ := HS3.out.holds (k + 1) (by rw [HSJ.out]; omega)
            obtain ⟨cY, fY⟩ := HS3.out.holds k (by rw [HSJ.out]; omega)
            rw [← HX.out] at cX
            rw [← HY.out] at cY
            go_wp2_with fail
            go_region
            all_goals
              go_wp2_with fail
              go_roundw
              case rel =>
                refine ⟨k, swp dj (k + 1) k, by go_num, by omega, by omega, by rw [size_swp]; exact HSJ.out, (HS3.out.swap (i := k + 1) (j := k) (by rw [HSJ.out]; omega) (by rw [HSJ.out]; omega) HY.out HX.out).drew, ?_⟩
                rw [← HI.out, insInner_go ltInt a (k + 1) dj hja (by rw [Nat.add_sub_cancel, ← HX.out, ← HY.out]; exact HL.out), Nat.add_sub_cancel]
              case measure => (simp [intOf]) <;> omega
        · have d1 : decide (a < j) = false := decide_eq_false hja
          go_wp2_with fail
          refine wp_region_quiet_below (by kernel_rfl) (by kernel_rfl) ?_
          iterate 15 (first | go_big_quiet_step (fail) | fail)
          refine wpQuiet_nil ?_
          intro W3 hw'
          obtain ⟨⟨d3, os⟩, hw''⟩ := hw'
          have hb3 := below_regrown wr d3 os
          rw [← hw''] at hb3
          clear hw''
          have HS3 := Lib.hid (HSj.out.below hb3); clear hb3
          go_wp2_with fail
          go_roundw
          case rel => exact ⟨i + 1, dj, by go_num, by omega, by omega, HSJ.out, HS3.out, OUT.out (.inl (by omega))⟩
          case measure => simp [intOf]; omega
    · have HE : Hid (dk = insertionSort ltInt d a b) := by show _ = _; rw [← HO.out, insOuter_stop _ _ _ _ _ hlt]
      go_wp2_with fail
      go_end0
      exact ⟨rfl, by rw [← HE.out]; exact HSk.out⟩
end Go.Proofs.Ythfhmohbfoolnaa
