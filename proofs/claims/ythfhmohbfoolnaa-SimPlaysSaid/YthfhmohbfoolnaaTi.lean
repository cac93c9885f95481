import Derived.Test.YthfhmohbfoolnaaTh
namespace Go.Proofs.Ythfhmohbfoolnaa
open Go Go.RowKit Go.Sort

/-! The library's sort at []uint32: the pivot is chosen, whole. -/
def hintN : Hint → Int | .unknown => 0 | .increasing => 1 | .decreasing => 2
theorem choose_P (d : Array Int) {a b : Nat} (h : 12 < b - a) : a < (choosePivot ltInt d a b).1 ∧ (choosePivot ltInt d a b).1 + 1 < b := by
  have key : ∀ (x y z c : Nat), (a < x ∧ x + 1 < b) → (a < y ∧ y + 1 < b) → (a < z ∧ z + 1 < b) → a < (median ltInt d x y z c).1 ∧ (median ltInt d x y z c).1 + 1 < b := fun x y z c h1 h2 h3 => median_P (fun x => a < x ∧ x + 1 < b) d c h1 h2 h3
  unfold choosePivot
  simp only
  rw [if_pos (by omega)]
  split
  · exact key _ _ _ _ (key _ _ _ _ (by omega) (by omega) (by omega)) (key _ _ _ _ (by omega) (by omega) (by omega)) (key _ _ _ _ (by omega) (by omega) (by omega))
  · exact key _ _ _ _ (by omega) (by omega) (by omega)
set_option maxRecDepth 20000 in
set_option maxHeartbeats 16000000 in
theorem chooseU (blk off cap a b D : Nat) (d : Array Int) (w : World) (hD : d.size = D) (hs : Srt w w blk off d) (h12 : 12 < b - a) (hb : b ≤ D) (hsz : D ≤ 1000000000) :
    Calls Try.prog 69 #[.slice (some ⟨blk, off, none⟩) D cap, .int .i64 a, .int .i64 b] w fun e w' => e = .returned (.tuple #[.int .i64 ((choosePivot ltInt d a b).1 : Nat), .int .i64 (hintN (choosePivot ltInt d a b).2)]) ∧ Srt w w' blk off d := by
  have HS := Lib.hid hs; clear hs
  have HSK : Hid (d.size = D) := hD
  clear hD
  obtain ⟨L, hLm, hL⟩ : ∃ L : Nat, L = b - a ∧ (b : Int) - (a : Int) = (L : Int) := ⟨_, rfl, by omega⟩
  obtain ⟨q, hqm, hq⟩ : ∃ q : Nat, q = L / 4 ∧ (L : Int).tdiv 4 = (q : Int) := ⟨_, rfl, by rw [Int.tdiv_eq_ediv_of_nonneg (by omega)]; omega⟩
  obtain ⟨I, hIm, hI⟩ : ∃ I : Nat, I = a + q * 1 ∧ (a : Int) + (q : Int) = (I : Int) := ⟨_, rfl, by omega⟩
  obtain ⟨J, hJm, hJ⟩ : ∃ J : Nat, J = a + q * 2 ∧ (a : Int) + (q : Int) * 2 = (J : Int) := ⟨_, rfl, by omega⟩
  obtain ⟨K, hKm, hK⟩ : ∃ K : Nat, K = a + q * 3 ∧ (a : Int) + (q : Int) * 3 = (K : Int) := ⟨_, rfl, by omega⟩
  have b0 : 12 < L := by omega
  have b1 : a < I ∧ I + 1 < b := by omega
  have b2 : a < J ∧ J + 1 < b := by omega
  have b3 : a < K ∧ K + 1 < b := by omega
  have c1 : a + 1 < I ∧ I + 2 < b := by omega
  have c2 : a + 1 < J ∧ J + 2 < b := by omega
  have c3 : a + 1 < K ∧ K + 2 < b := by omega
  have b4 : 0 < I := by omega
  have b5 : 0 < J := by omega
  have b6 : 0 < K := by omega
  have b7 : I + 1 < D := by omega
  have b8 : J + 1 < D := by omega
  have b9 : K + 1 < D := by omega
  have b10 : L ≤ 1000000000 := by omega
  have b11 : q ≤ 1000000000 := by omega
  obtain ⟨w1, hw1⟩ : ∃ w1, w1 = w.alloc (.cells #[.int .i64 0] 3) := ⟨_, rfl⟩
  have HS1 : Hid (Srt w w1 blk off d) := by show Srt _ _ _ _ _; rw [hw1]; exact HS.out.below (box1 w _)
  have HC1 : Hid (Cnt w w1 w.heap.size 0) := by show Cnt _ _ _ _; rw [hw1]; exact ⟨Nat.le_refl _, (MapKept.heap_alloc w _).1⟩
  have HW1 := Lib.hid hw1
  by_cases h50 : 50 ≤ L
  · have HDEF : Hid (choosePivot ltInt d a b = (fun (r : Nat × Nat) => (r.1, if r.2 = 0 then Hint.increasing else if r.2 = 12 then Hint.decreasing else Hint.unknown)) (median ltInt d (medianAdjacent ltInt d I 0).1 (medianAdjacent ltInt d J (medianAdjacent ltInt d I 0).2).1 (medianAdjacent ltInt d K (medianAdjacent ltInt d J (medianAdjacent ltInt d I 0).2).2).1 (medianAdjacent ltInt d K (medianAdjacent ltInt d J (medianAdjacent ltInt d I 0).2).2).2)) := by
      show _ = _
      unfold choosePivot
      simp only
      rw [if_pos (by omega), if_pos (by omega), hIm, hJm, hKm, hqm, hLm]
    have key : ∀ (x y z c : Nat), (a < x ∧ x + 1 < b) → (a < y ∧ y + 1 < b) → (a < z ∧ z + 1 < b) → a < (median ltInt d x y z c).1 ∧ (median ltInt d x y z c).1 + 1 < b := fun x y z c h1 h2 h3 => median_P (fun x => a < x ∧ x + 1 < b) d c h1 h2 h3
    clear hLm hqm hIm hJm hKm
    obtain ⟨r1, hr1⟩ : ∃ r1, r1 = medianAdjacent ltInt d I 0 := ⟨_, rfl⟩
    obtain ⟨r2, hr2⟩ : ∃ r2, r2 = medianAdjacent ltInt d J r1.2 := ⟨_, rfl⟩
    obtain ⟨r3, hr3⟩ : ∃ r3, r3 = medianAdjacent ltInt d K r2.2 := ⟨_, rfl⟩
    obtain ⟨r4, hr4⟩ : ∃ r4, r4 = median ltInt d r1.1 r2.1 r3.1 r3.2 := ⟨_, rfl⟩
    rw [← hr1, ← hr2, ← hr3, ← hr4] at HDEF
    have p1 : a < r1.1 ∧ r1.1 + 1 < b := by rw [hr1]; exact key _ _ _ _ (by omega) (by omega) (by omega)
    have p2 : a < r2.1 ∧ r2.1 + 1 < b := by rw [hr2]; exact key _ _ _ _ (by omega) (by omega) (by omega)
    have p3 : a < r3.1 ∧ r3.1 + 1 < b := by rw [hr3]; exact key _ _ _ _ (by omega) (by omega) (by omega)
    have s1 : r1.2 ≤ 3 := by rw [hr1]; exact median_swaps d _ _ _ 0
    have s2 : r2.2 ≤ 6 := by have := median_swaps d (J - 1) J (J + 1) r1.2; rw [hr2]; exact Nat.le_trans this (by omega)
    have s3 : r3.2 ≤ 9 := by have := median_swaps d (K - 1) K (K + 1) r2.2; rw [hr3]; exact Nat.le_trans this (by omega)
    have HR1 := Lib.hid hr1; have HR2 := Lib.hid hr2; have HR3 := Lib.hid hr3; have HR4 := Lib.hid hr4
    clear hr1 hr2 hr3 hr4 key
    obtain ⟨x1, c1⟩ := r1
    obtain ⟨x2, c2⟩ := r2
    obtain ⟨x3, c3⟩ := r3
    obtain ⟨x4, c4⟩ := r4
    simp only at *
    have HCP : Hid (choosePivot ltInt d a b = (x4, if c4 = 0 then Hint.increasing else if c4 = 12 then Hint.decreasing else Hint.unknown)) := HDEF.out
    clear HDEF
    go_enter Try.func69, Try.ntmps69
    go_wp2_with fail
    rw [← HW1.out]
    clear hw1
    refine (medAdjU w w1 blk off cap D w.heap.size 0 I d HSK.out HS1.out HC1.out b4 b7 hsz (by omega)).mono ?_
    rintro e w2 ⟨rfl, hs1, hc1⟩
    rw [← HR1.out] at hc1 ⊢
    have HS2 := Lib.hid hs1; have HC2 := Lib.hid hc1; clear hs1 hc1
    go_wp2_with fail
    refine (medAdjU w w2 blk off cap D w.heap.size c1 J d HSK.out HS2.out HC2.out b5 b8 hsz (by omega)).mono ?_
    rintro e w3 ⟨rfl, hs1, hc1⟩
    rw [← HR2.out] at hc1 ⊢
    have HS3 := Lib.hid hs1; have HC3 := Lib.hid hc1; clear hs1 hc1
    go_wp2_with fail
    refine (medAdjU w w3 blk off cap D w.heap.size c2 K d HSK.out HS3.out HC3.out b6 b9 hsz (by omega)).mono ?_
    rintro e w4 ⟨rfl, hs1, hc1⟩
    rw [← HR3.out] at hc1 ⊢
    have HS4 := Lib.hid hs1; have HC4 := Lib.hid hc1; clear hs1 hc1
    go_wp2_with fail
    refine (medianU w w4 blk off cap D w.heap.size c3 x1 x2 x3 d HSK.out HS4.out HC4.out (by omega) (by omega) (by omega) hsz (by omega)).mono ?_
    rintro e w5 ⟨rfl, hs1, hc1⟩
    rw [← HR4.out] at hc1 ⊢
    have HS5 := Lib.hid hs1; have HC5 := Lib.hid hc1; clear hs1 hc1
    have c9 := cells_cell HC5.out.2 (i := 0) rfl
    by_cases hz : c4 = 0
    · subst hz
      have HE : Hid (choosePivot ltInt d a b = (x4, .increasing)) := by show _ = _; rw [HCP.out]; rfl
      go_wp2_with fail
      go_ret2
      rw [HE.out]
      exact ⟨rfl, HS5.out⟩
    · have hz0 : ((c4 : Int) == 0) = false := beq_eq_false_iff_ne.2 (by omega)
      by_cases h12 : c4 = 12
      · subst h12
        have HE : Hid (choosePivot ltInt d a b = (x4, .decreasing)) := by show _ = _; rw [HCP.out]; rfl
        go_wp2_with fail
        go_ret2
        rw [HE.out]
        exact ⟨rfl, HS5.out⟩
      · have hz1 : ((c4 : Int) == 12) = false := beq_eq_false_iff_ne.2 (by omega)
        have HE : Hid (choosePivot ltInt d a b = (x4, .unknown)) := by show _ = _; rw [HCP.out, if_neg hz, if_neg h12]
        go_wp2_with fail
        go_ret2
        rw [HE.out]
        exact ⟨rfl, HS5.out⟩
  · have HDEF : Hid (choosePivot ltInt d a b = (fun (r : Nat × Nat) => (r.1, if r.2 = 0 then Hint.increasing else if r.2 = 12 then Hint.decreasing else Hint.unknown)) (median ltInt d I J K 0)) := by
      show _ = _
      unfold choosePivot
      simp only
      rw [if_pos (by omega), if_neg (by omega), hIm, hJm, hKm, hqm, hLm]
    clear hLm hqm hIm hJm hKm
    obtain ⟨r4, hr4⟩ : ∃ r4, r4 = median ltInt d I J K 0 := ⟨_, rfl⟩
    rw [← hr4] at HDEF
    have HR4 := Lib.hid hr4; clear hr4
    obtain ⟨x4, c4⟩ := r4
    simp only at *
    have HCP : Hid (choosePivot ltInt d a b = (x4, if c4 = 0 then Hint.increasing else if c4 = 12 then Hint.decreasing else Hint.unknown)) := HDEF.out
    clear HDEF
    go_enter Try.func69, Try.ntmps69
    go_wp2_with fail
    rw [← HW1.out]
    clear hw1
    refine (medianU w w1 blk off cap D w.heap.size 0 I J K d HSK.out HS1.out HC1.out (by omega) (by omega) (by omega) hsz (by omega)).mono ?_
    rintro e w5 ⟨rfl, hs1, hc1⟩
    rw [← HR4.out] at hc1 ⊢
    have HS5 := Lib.hid hs1; have HC5 := Lib.hid hc1; clear hs1 hc1
    have c9 := cells_cell HC5.out.2 (i := 0) rfl
    by_cases hz : c4 = 0
    · subst hz
      have HE : Hid (choosePivot ltInt d a b = (x4, .increasing)) := by show _ = _; rw [HCP.out]; rfl
      go_wp2_with fail
      go_ret2
      rw [HE.out]
      exact ⟨rfl, HS5.out⟩
    · have hz0 : ((c4 : Int) == 0) = false := beq_eq_false_iff_ne.2 (by omega)
      by_cases h12 : c4 = 12
      · subst h12
        have HE : Hid (choosePivot ltInt d a b = (x4, .decreasing)) := by show _ = _; rw [HCP.out]; rfl
        go_wp2_with fail
        go_ret2
        rw [HE.out]
        exact ⟨rfl, HS5.out⟩
      · have hz1 : ((c4 : Int) == 12) = false := beq_eq_false_iff_ne.2 (by omega)
        have HE : Hid (choosePivot ltInt d a b = (x4, .unknown)) := by show _ = _; rw [HCP.out, if_neg hz, if_neg h12]
        go_wp2_with fail
        go_ret2
        rw [HE.out]
        exact ⟨rfl, HS5.out⟩
end Go.Proofs.Ythfhmohbfoolnaa
