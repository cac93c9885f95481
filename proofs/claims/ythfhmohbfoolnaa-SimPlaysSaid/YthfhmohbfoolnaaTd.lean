import Derived.Test.YthfhmohbfoolnaaTc
import Derived.Sort.WalkB3
namespace Go.Proofs.Ythfhmohbfoolnaa
open Go Go.RowKit Go.Sort

/-! The library's sort at []uint32: by a heap; turned round. -/
theorem size_sift (hi F root : Nat) (d : Array Int) : (siftDown ltInt hi F root d).size = d.size := size_siftDown ltInt hi F _ root d (Nat.le_refl _)
theorem siftU_at (blk off cap D lo hi F : Nat) (d : Array Int) (w0 w : World) (hs : Srt w0 w blk off d) (hD : d.size = D) (hb : F + hi ≤ D) (hsz : D ≤ 1000000000) (hlo : lo ≤ 1000000000) :
    Calls Try.prog 77 #[.slice (some ⟨blk, off, none⟩) D cap, .int .i64 lo, .int .i64 hi, .int .i64 F] w fun e w' => e = .returned (.tuple #[]) ∧ Srt w0 w' blk off (siftDown ltInt hi F lo d) := by
  subst hD
  exact (siftU blk off cap lo hi F d w hs.start hb hsz hlo).mono fun e w' ⟨h1, h2⟩ => ⟨h1, hs.trans h2⟩
set_option maxRecDepth 20000 in
set_option maxHeartbeats 8000000 in
theorem heapU (blk off cap a b : Nat) (d : Array Int) (w : World) (hs : Srt w w blk off d) (hab : a < b) (hb : b ≤ d.size) (hsz : d.size ≤ 1000000000) :
    Calls Try.prog 67 #[.slice (some ⟨blk, off, none⟩) d.size cap, .int .i64 a, .int .i64 b] w fun e w' => e = .returned (.tuple #[]) ∧ Srt w w' blk off (heapSort ltInt d a b) := by
  have HS := Lib.hid hs; clear hs
  obtain ⟨D, hD⟩ : ∃ D, D = d.size := ⟨_, rfl⟩
  rw [← hD] at hb hsz ⊢
  have HD := Lib.hid hD; clear hD
  obtain ⟨H, hHm, hH⟩ : ∃ H : Nat, H = b - a ∧ (b : Int) - (a : Int) = (H : Int) := ⟨_, rfl, by omega⟩
  obtain ⟨q, hqm, hq⟩ : ∃ q : Nat, q = (H - 1) / 2 ∧ ((H : Int) - 1).tdiv 2 = (q : Int) := ⟨_, rfl, by rw [Int.tdiv_eq_ediv_of_nonneg (by omega)]; omega⟩
  have HDEF : Hid (heapSort ltInt d a b = heapPop ltInt a H (heapBuild ltInt H a (q + 1) d)) := by show _ = _; unfold heapSort; rw [hqm, hHm]
  have b1 : a + H ≤ D := by omega
  have b2 : 1 ≤ H := by omega
  have b3 : q < H := by omega
  clear hHm hqm
  go_enter Try.func67, Try.ntmps67
  go_wp2_with fail
  go_loopw [9] (fun v wr => ∃ (k : Nat) (dk : Array Int), v = .int .i64 ((k : Int) - 1) ∧ k ≤ q + 1 ∧ dk.size = D ∧ Srt w wr blk off dk ∧ heapBuild ltInt H a k dk = heapBuild ltInt H a (q + 1) d) (fun v _ => (intOf v + 1).toNat)
  case atStart => exact ⟨q + 1, d, by congr 1; omega, Nat.le_refl _, HD.out.symm, HS.out, rfl⟩
  case round =>
    obtain ⟨k, dk, hv, hk, hsk, hSk, hO⟩ := hrel
    have HSq := Lib.hid hSk; have HO := Lib.hid hO; have HSK := Lib.hid hsk; clear hSk hO hsk
    cases k with
    | succ k =>
      obtain rfl : u9 = .int .i64 (k : Int) := by rw [hv]; congr 1; omega
      clear hv
      go_wp2_with fail
      refine (siftU_at blk off cap D k H a dk w wr HSq.out HSK.out b1 hsz (by omega)).mono ?_
      rintro e w5 ⟨rfl, h5⟩
      have H5 := Lib.hid h5; clear h5
      go_wp2_with fail
      go_roundw
      case rel => exact ⟨k, _, by rfl, by omega, by rw [size_sift]; exact HSK.out, H5.out, HO.out⟩
      case measure => (simp [intOf]) <;> omega
    | zero =>
      obtain rfl : u9 = .int .i64 (-1) := by rw [hv]; rfl
      have HB : Hid (dk = heapBuild ltInt H a (q + 1) d) := HO.out
      clear hv
      go_wp2_with fail
      go_loopw [10] (fun v wr => ∃ (k : Nat) (dj : Array Int), v = .int .i64 ((k : Int) - 1) ∧ k ≤ H ∧ dj.size = D ∧ Srt w wr blk off dj ∧ heapPop ltInt a k dj = heapSort ltInt d a b) (fun v _ => (intOf v + 1).toNat)
      case atStart => exact ⟨H, dk, rfl, Nat.le_refl _, HSK.out, HSq.out, by rw [HDEF.out, ← HB.out]⟩
      case round =>
        obtain ⟨k, dj, hv, hk, hsk, hSk, hO⟩ := hrel
        have HSj := Lib.hid hSk; have HOj := Lib.hid hO; have HSJ := Lib.hid hsk; clear hSk hO hsk
        cases k with
        | succ k =>
          obtain rfl : u10 = .int .i64 (k : Int) := by rw [hv]; congr 1; omega
          clear hv
          obtain ⟨L, hLm, hL⟩ : ∃ L : Nat, L = a + k ∧ (a : Int) + (k : Int) = (L : Int) := ⟨_, rfl, by omega⟩
          have HLM := Lib.hid hLm
          have i1 : (0 : Int) ≤ (L : Int) := by omega
          have i2 : (L : Int) < (D : Int) := by omega
          have i3 : (0 : Int) ≤ (a : Int) := by omega
          have i4 : (a : Int) < (D : Int) := by omega
          have b5 : L < D := by omega
          have b6 : a < D := by omega
          clear hLm
          obtain ⟨X, hX⟩ : ∃ X, X = dj[a]! := ⟨_, rfl⟩
          have HX := Lib.hid hX; clear hX
          obtain ⟨Y, hY⟩ : ∃ Y, Y = dj[L]! := ⟨_, rfl⟩
          have HY := Lib.hid hY; clear hY
          obtain ⟨cX, fX⟩ := HSj.out.holds a (by rw [HSJ.out]; omega)
          rw [← HX.out] at cX
          obtain ⟨cY, fY⟩ := HSj.out.holds L (by rw [HSJ.out]; omega)
          rw [← HY.out] at cY
          by_cases hk0 : k = 0
          · subst hk0
            obtain rfl : L = a := by omega
            have hXY : Y = X := by rw [HX.out, HY.out]
            subst hXY
            go_wp2_with fail
            go_region
            all_goals
              have HV : Hid (Srt w ((wr.setCell ⟨blk, off + L, none⟩ (.int .u32 Y)).setCell ⟨blk, off + L, none⟩ (.int .u32 Y)).drew blk off (swp dj L L)) := (HSj.out.swap (i := L) (j := L) (by rw [HSJ.out]; omega) (by rw [HSJ.out]; omega) HY.out HX.out).drew
              clear cX cY fX fY
              go_wp2_with fail
              refine (siftU_at blk off cap D 0 0 L (swp dj L L) w _ HV.out (by rw [size_swp]; exact HSJ.out) (by omega) hsz (by omega)).mono ?_
              rintro e w5 ⟨rfl, h5⟩
              have H5 := Lib.hid h5; clear h5
              go_wp2_with fail
              go_roundw
              case rel => exact ⟨0, _, by rfl, by omega, by rw [size_sift, size_swp]; exact HSJ.out, H5.out, by rw [← HOj.out, HLM.out]; rfl⟩
              case measure => (simp [intOf]) <;> omega
          · have hne : a ≠ L := by omega
            go_wp2_with fail
            go_region
            all_goals
              have HV : Hid (Srt w ((wr.setCell ⟨blk, off + a, none⟩ (.int .u32 Y)).setCell ⟨blk, off + L, none⟩ (.int .u32 X)).drew blk off (swp dj a L)) := (HSj.out.swap (i := a) (j := L) (by rw [HSJ.out]; omega) (by rw [HSJ.out]; omega) HY.out HX.out).drew
              clear cX cY fX fY
              go_wp2_with fail
              refine (siftU_at blk off cap D 0 k a (swp dj a L) w _ HV.out (by rw [size_swp]; exact HSJ.out) (by omega) hsz (by omega)).mono ?_
              rintro e w5 ⟨rfl, h5⟩
              have H5 := Lib.hid h5; clear h5
              go_wp2_with fail
              go_roundw
              case rel => exact ⟨k, _, by rfl, by omega, by rw [size_sift, size_swp]; exact HSJ.out, H5.out, by rw [← HOj.out, HLM.out]; rfl⟩
              case measure => (simp [intOf]) <;> omega
        | zero =>
          obtain rfl : u10 = .int .i64 (-1) := by rw [hv]; rfl
          have HE : Hid (dj = heapSort ltInt d a b) := HOj.out
          clear hv
          go_wp2_with fail
          go_end0
          exact ⟨rfl, by rw [← HE.out]; exact HSj.out⟩
set_option maxRecDepth 20000 in
set_option maxHeartbeats 8000000 in
theorem revU (blk off cap a b : Nat) (d : Array Int) (w : World) (hs : Srt w w blk off d) (hab : a < b) (hb : b ≤ d.size) (hsz : d.size ≤ 1000000000) :
    Calls Try.prog 70 #[.slice (some ⟨blk, off, none⟩) d.size cap, .int .i64 a, .int .i64 b] w fun e w' => e = .returned (.tuple #[]) ∧ Srt w w' blk off (reverseRange d a b) := by
  have HS := Lib.hid hs; clear hs
  obtain ⟨D, hD⟩ : ∃ D, D = d.size := ⟨_, rfl⟩
  rw [← hD] at hb hsz ⊢
  have HD := Lib.hid hD; clear hD
  obtain ⟨B, hBm, hB⟩ : ∃ B : Nat, B = b - 1 ∧ (b : Int) - 1 = (B : Int) := ⟨_, rfl, by omega⟩
  have HDEF : Hid (reverseRange d a b = reverseLoop a B d) := by show _ = _; rw [hBm]; rfl
  have b1 : B < D := by omega
  clear hBm
  go_enter Try.func70, Try.ntmps70
  go_wp2_with fail
  go_loopw [6, 7] (fun vi vj wr => ∃ (i j : Nat) (dk : Array Int), vi = .int .i64 i ∧ vj = .int .i64 j ∧ j < D ∧ dk.size = D ∧ Srt w wr blk off dk ∧ reverseLoop i j dk = reverseRange d a b) (fun _ vj _ => (intOf vj).toNat)
  case atStart => exact ⟨a, B, d, rfl, rfl, b1, HD.out.symm, HS.out, HDEF.out.symm⟩
  case round =>
    obtain ⟨i, j, dk, rfl, rfl, hj, hsk, hSk, hO⟩ := hrel
    have HSq := Lib.hid hSk; have HO := Lib.hid hO; have HSK := Lib.hid hsk; clear hSk hO hsk
    by_cases hlt : i < j
    · have i1 : (0 : Int) ≤ (i : Int) := by omega
      have i2 : (i : Int) < (D : Int) := by omega
      have i3 : (0 : Int) ≤ (j : Int) := by omega
      have i4 : (j : Int) < (D : Int) := by omega
      have e5 : (j : Int) - 1 = ((j - 1 : Nat) : Int) := by omega
      obtain ⟨X, hX⟩ : ∃ X, X = dk[i]! := ⟨_, rfl⟩
      have HX := Lib.hid hX; clear hX
      obtain ⟨Y, hY⟩ : ∃ Y, Y = dk[j]! := ⟨_, rfl⟩
      have HY := Lib.hid hY; clear hY
      obtain ⟨cX, fX⟩ := HSq.out.holds i (by rw [HSK.out]; omega)
      rw [← HX.out] at cX
      obtain ⟨cY, fY⟩ := HSq.out.holds j (by rw [HSK.out]; omega)
      rw [← HY.out] at cY
      go_wp2_with fail
      go_region
      all_goals
        go_wp2_with fail
        go_roundw
        case rel =>
          refine ⟨i + 1, j - 1, swp dk i j, by go_num, rfl, by omega, by rw [size_swp]; exact HSK.out, (HSq.out.swap (i := i) (j := j) (by rw [HSK.out]; omega) (by rw [HSK.out]; omega) HY.out HX.out).drew, ?_⟩
          rw [← HO.out]; conv => rhs; rw [reverseLoop, if_pos hlt]
        case measure => (simp [intOf]) <;> omega
    · have HE : Hid (dk = reverseRange d a b) := by show _ = _; rw [← HO.out, reverseLoop, if_neg hlt]
      go_wp2_with fail
      go_end0
      exact ⟨rfl, by rw [← HE.out]; exact HSq.out⟩
end Go.Proofs.Ythfhmohbfoolnaa
