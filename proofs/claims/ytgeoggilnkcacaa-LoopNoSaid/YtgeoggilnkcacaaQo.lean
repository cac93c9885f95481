import Derived.Test.YtgeoggilnkcacaaQg
import Derived.Test.YtgeoggilnkcacaaGn
namespace Go.Proofs.Ytgeoggilnkcacaa
open Go Go.RowKit Go.Sort
set_option linter.unusedVariables false

/-! The landed code's small functions (stage 15). -/
theorem rows_info15 : (Try.prog.info? 53).map (·.size) = some 2 := by kernel_rfl
set_option maxHeartbeats 2000000 in
theorem isHost_any (x n : Int) (w : World) :
    Calls Try.prog 21 #[.int .i64 x, .int .i64 n] w fun e w' => e = .returned (.bool (decide (0 ≤ x ∧ x < n))) ∧ w = w' := by
  by_cases h0 : 0 ≤ x
  · by_cases h1 : x < n
    · have HE : Hid (decide (0 ≤ x ∧ x < n) = true) := decide_eq_true ⟨h0, h1⟩
      rw [HE.out]
      go_enter Try.func21, Try.ntmps21
      go_wp2
      go_ret
      exact ⟨rfl, rfl⟩
    · have HE : Hid (decide (0 ≤ x ∧ x < n) = false) := decide_eq_false (fun h => h1 h.2)
      rw [HE.out]
      go_enter Try.func21, Try.ntmps21
      go_wp2
      go_ret
      exact ⟨rfl, rfl⟩
  · have HE : Hid (decide (0 ≤ x ∧ x < n) = false) := decide_eq_false (fun h => h0 h.1)
    rw [HE.out]
    go_enter Try.func21, Try.ntmps21
    go_wp2
    go_ret
    exact ⟨rfl, rfl⟩
theorem isHost_yes {x n : Int} (w : World) (h : 0 ≤ x) (h2 : x < n) : Calls Try.prog 21 #[.int .i64 x, .int .i64 n] w fun e w' => e = .returned (.bool true) ∧ w = w' := by
  have h0 := isHost_any x n w
  rw [decide_eq_true (show 0 ≤ x ∧ x < n from ⟨h, h2⟩)] at h0
  exact h0
theorem isHost_no {x n : Int} (w : World) (h : ¬ (0 ≤ x ∧ x < n)) : Calls Try.prog 21 #[.int .i64 x, .int .i64 n] w fun e w' => e = .returned (.bool false) ∧ w = w' := by
  have h0 := isHost_any x n w
  rw [decide_eq_false h] at h0
  exact h0
/-- A row of which so many have been filled. -/
def fillL (m : Nat) (x : Int) (k : Nat) : List Int := List.replicate k x ++ List.replicate (m - k) 0
theorem fill_step (m k : Nat) (x : Int) (hk : k < m) : (fillL m x k).set k x = fillL m x (k + 1) := by
  unfold fillL
  rw [List.set_append_right _ _ (by simp)]
  obtain ⟨d, rfl⟩ : ∃ d, m = k + 1 + d := ⟨m - (k + 1), by omega⟩
  rw [List.length_replicate, Nat.sub_self, show k + 1 + d - k = d + 1 by omega, show k + 1 + d - (k + 1) = d by omega, List.replicate_succ, List.set_cons_zero, rep_snoc, List.append_assoc]
  rfl
theorem fill_done (m : Nat) (x : Int) : fillL m x m = List.replicate m x := by simp [fillL]
theorem fill_none (m : Nat) (x : Int) : fillL m x 0 = List.replicate m 0 := by simp [fillL]
theorem intV_set15 (l : List Int) (j : Nat) (x : Int) : (intV l).set j (.int .i64 x) = intV (l.set j x) := by simp [intV, List.map_set]
set_option maxHeartbeats 2000000 in
theorem rowOf_i64 (m : Nat) (x : Int) (w : World) (hm : m ≤ 100000) :
    Calls Try.prog 22 #[.int .i64 (m : Int), .int .i64 x] w fun e w' => ∃ a c, e = .returned (.slice a m c) ∧ w'.ownsRow w.heap.size 2 1 (.slice a m c) m (intV (List.replicate m x)) ∧ Below w.heap.size w w' := by
  obtain ⟨i0, hi0, hz0, hz1, hz2⟩ := info_parts info_i6415
  have HZ2 := Lib.hid hz2; clear hz2
  have HST := Lib.hid (fun k hk => fill_step m k x hk)
  go_enter Try.func22, Try.ntmps22
  go_wp2_with (at_make
               refine wpList_make_full _ rfl (.tmp 7) (.tmp 7) 48 rfl w.heap.size 2 i0 _ 1 Try.underlying48 hi0 hz0 hz1 .i64 .i64 _ _ m rfl rfl rfl rfl (by rw [HZ2.out]; omega) (by unfold maxLen; omega) (Nat.le_refl _) ?_
               intro w1 hown1 hg1
               have HB1 := Lib.hid ((RowKit.Below.refl w.heap.size w).grown hg1 (Nat.le_refl _) (by simp))
               have HO1 := Lib.hid hown1; clear hown1 hg1)
  have HI1 : Hid (w1.ownsRow w.heap.size 2 1 (.slice (some ⟨w.heap.size, 0, none⟩) m m) m (intV (fillL m x 0))) := by
    have e : intV (fillL m x 0) = (madeCells (Value.int .i64 0).cells (m * 1)).toList := by
      rw [fill_none]
      simp [intV, toList_madeCells_one, Value.cells]
    show World.ownsRow _ _ _ _ _ _ _
    rw [e]; exact HO1.out
  clear HO1
  go_loopw [11] (fun i wr => ∃ k : Nat, k ≤ m ∧ i = .int .i64 k ∧ wr.ownsRow w.heap.size 2 1 (.slice (some ⟨w.heap.size, 0, none⟩) m m) m (intV (fillL m x k)) ∧ Below w.heap.size w wr) (fun i _ => m - (intOf i).toNat)
  case atStart => exact ⟨0, Nat.zero_le _, rfl, HI1.out, HB1.out⟩
  clear HI1 HB1
  case round =>
    obtain ⟨k, hk, rfl, ho, hb⟩ := hrel
    have HO := Lib.hid ho; have HW := Lib.hid hb; clear ho hb
    generalize wr = W1 at *
    by_cases hlt : k < m
    · have i3 : (k : Int) < (m : Int) := by omega
      have i4 : (0 : Int) ≤ (k : Int) := by omega
      have hkl : k < (fillL m x k).length := by unfold fillL; simp; omega
      have c0 := HO.out.cellAt k (by omega)
      rw [intV_get hkl] at c0
      have hfr := HO.out.frozenAt k
      have hsz := (own_shape HO.out rfl).2.1
      have HS : Hid ((W1.setCell ⟨w.heap.size, k, none⟩ (.int .i64 x)).ownsRow w.heap.size 2 1 (.slice (some ⟨w.heap.size, 0, none⟩) m m) m (intV (fillL m x (k + 1)))) := by
        have h := (HO.out.stored k (.int .i64 x)).1
        rw [intV_set15, HST.out k hlt] at h
        exact h
      have HB := Lib.hid (HW.out.setCell (p := ⟨w.heap.size, k, none⟩) (Nat.le_refl _) (.int .i64 x))
      generalize (fillL m x k)[k] = old at *
      go_wp2_with fail
      go_roundw
      case rel => exact ⟨k + 1, by omega, by go_num, HS.out, HB.out⟩
      case measure => simp [intOf]; omega
    · obtain rfl : k = m := by omega
      have HF := HO.out
      rw [fill_done] at HF
      have HF := Lib.hid HF
      go_wp2_with fail
      go_ret
      exact ⟨_, _, rfl, HF.out, HW.out⟩
set_option maxHeartbeats 2000000 in
theorem rowOf_int (m : Nat) (x : Int) (w : World) (hm : m ≤ 100000) :
    Calls Try.prog 23 #[.int .i64 (m : Int), .int .i64 x] w fun e w' => ∃ a c, e = .returned (.slice a m c) ∧ w'.ownsRow w.heap.size 3 1 (.slice a m c) m (intV (List.replicate m x)) ∧ Below w.heap.size w w' := by
  obtain ⟨i0, hi0, hz0, hz1, hz2⟩ := info_parts info_int15
  have HZ2 := Lib.hid hz2; clear hz2
  have HST := Lib.hid (fun k hk => fill_step m k x hk)
  go_enter Try.func23, Try.ntmps23
  go_wp2_with (at_make
               refine wpList_make_full _ rfl (.tmp 7) (.tmp 7) 50 rfl w.heap.size 3 i0 _ 1 Try.underlying50 hi0 hz0 hz1 .i64 .i64 _ _ m rfl rfl rfl rfl (by rw [HZ2.out]; omega) (by unfold maxLen; omega) (Nat.le_refl _) ?_
               intro w1 hown1 hg1
               have HB1 := Lib.hid ((RowKit.Below.refl w.heap.size w).grown hg1 (Nat.le_refl _) (by simp))
               have HO1 := Lib.hid hown1; clear hown1 hg1)
  have HI1 : Hid (w1.ownsRow w.heap.size 3 1 (.slice (some ⟨w.heap.size, 0, none⟩) m m) m (intV (fillL m x 0))) := by
    have e : intV (fillL m x 0) = (madeCells (Value.int .i64 0).cells (m * 1)).toList := by
      rw [fill_none]
      simp [intV, toList_madeCells_one, Value.cells]
    show World.ownsRow _ _ _ _ _ _ _
    rw [e]; exact HO1.out
  clear HO1
  go_loopw [11] (fun i wr => ∃ k : Nat, k ≤ m ∧ i = .int .i64 k ∧ wr.ownsRow w.heap.size 3 1 (.slice (some ⟨w.heap.size, 0, none⟩) m m) m (intV (fillL m x k)) ∧ Below w.heap.size w wr) (fun i _ => m - (intOf i).toNat)
  case atStart => exact ⟨0, Nat.zero_le _, rfl, HI1.out, HB1.out⟩
  clear HI1 HB1
  case round =>
    obtain ⟨k, hk, rfl, ho, hb⟩ := hrel
    have HO := Lib.hid ho; have HW := Lib.hid hb; clear ho hb
    generalize wr = W1 at *
    by_cases hlt : k < m
    · have i3 : (k : Int) < (m : Int) := by omega
      have i4 : (0 : Int) ≤ (k : Int) := by omega
      have hkl : k < (fillL m x k).length := by unfold fillL; simp; omega
      have c0 := HO.out.cellAt k (by omega)
      rw [intV_get hkl] at c0
      have hfr := HO.out.frozenAt k
      have hsz := (own_shape HO.out rfl).2.1
      have HS : Hid ((W1.setCell ⟨w.heap.size, k, none⟩ (.int .i64 x)).ownsRow w.heap.size 3 1 (.slice (some ⟨w.heap.size, 0, none⟩) m m) m (intV (fillL m x (k + 1)))) := by
        have h := (HO.out.stored k (.int .i64 x)).1
        rw [intV_set15, HST.out k hlt] at h
        exact h
      have HB := Lib.hid (HW.out.setCell (p := ⟨w.heap.size, k, none⟩) (Nat.le_refl _) (.int .i64 x))
      generalize (fillL m x k)[k] = old at *
      go_wp2_with fail
      go_roundw
      case rel => exact ⟨k + 1, by omega, by go_num, HS.out, HB.out⟩
      case measure => simp [intOf]; omega
    · obtain rfl : k = m := by omega
      have HF := HO.out
      rw [fill_done] at HF
      have HF := Lib.hid HF
      go_wp2_with fail
      go_ret
      exact ⟨_, _, rfl, HF.out, HW.out⟩
theorem intV_one15 (l : List Int) : ∀ u ∈ intV l, u.oneCell' = true := fun u hu => by
  simp only [intV, List.mem_map] at hu
  obtain ⟨x, _, rfl⟩ := hu
  rfl
theorem intV_len15 (l : List Int) : (intV l).length = l.length := by simp [intV]
set_option maxHeartbeats 2000000 in
theorem clone15_any (u : Option Addr) (c : Nat) (K : List Int) (w : World) (hu : Rd w w.heap.size u (intV K)) (hl : K.length ≤ 100000) :
    Calls Try.prog 29 #[.slice u K.length c] w fun e w' => ∃ a c, e = .returned (.slice a K.length c) ∧ w'.ownsRow w.heap.size 2 1 (.slice a K.length c) K.length (intV K) ∧ Below w.heap.size w w' := by
  obtain ⟨i0, hi0, hz0, hz1, hz2⟩ := info_parts info_i6415
  have HZ2 := Lib.hid hz2; clear hz2
  have HU := Lib.hid (hu.below (box1 w (.cells #[] 2))); have HE := Lib.hid hu; clear hu
  have q22 : ∀ (w : World) (a : Option Addr) (n c n' c' : Nat), (binOp .eql 48 (.slice a n c) (.slice none n' c')).run Try.prog w = .ok (.bool a.isNone) w := fun w a n c n' c' => Lib.run_eql_slice_nil w _ _ a n c n' c' Try.underlying48
  go_enter Try.func29, Try.ntmps29
  cases u with
  | none =>
    have hk : K = [] := by
      cases K with
      | nil => rfl
      | cons x r => obtain ⟨b, off, h, _⟩ := HE.out (by simp [intV]); cases h
    subst hk
    go_wp2_with fail
    go_ret
    exact ⟨_, _, rfl, World.ownsRow_nil _ _ _ _, Below.refl _ _⟩
  | some p =>
    go_wp2_with (refine wpList_append_rd _ rfl _ _ 48 rfl w.heap.size 2 i0 _ 1 8 Try.underlying48 hi0 hz0 hz1 HZ2.out rfl (by omega) (.slice (some ⟨w.heap.size, 0, none⟩) 0 0) 0 [] rfl (World.ownsRow_made w #[] 0 (Nat.le_refl _) (by decide) rfl) _ _ K.length _ (intV K) rfl (by rw [intV_len15, Nat.mul_one]) HU.out (intV_one15 _) (by unfold maxLen; omega) (by omega) (by simp) ?_
                 intro v7 w1 hown1 hg1 _
                 have HO1 := Lib.hid hown1; have HG1 := Lib.hid hg1; clear hown1 hg1)
    have HO2 := HO1.out
    rw [Nat.zero_add, List.nil_append] at HO2
    obtain ⟨a7, c7, rfl, _, _, _⟩ := own_slice HO2
    have HO2 := Lib.hid HO2
    go_ret
    exact ⟨_, _, rfl, HO2.out, Below.of_grown (box1 w _) HG1.out (by simp) (by intro g h; simp [Value.ownBlock] at h; omega)⟩
set_option maxHeartbeats 8000000 in
theorem may_pays15 : MayPay 14 := by
  intro n a c E w ha hl hok hn
  have HA := Lib.hid ha; clear ha hok
  have HLOW := Lib.hid (fun h => mayE_low (n := n) (E := E) h)
  by_cases h0 : n < 0
  · have HE := Lib.hid (HLOW.out (by omega))
    go_enter Try.func14, Try.ntmps14
    go_wp2
    go_ret
    exact ⟨ret_bool HE.out.symm, Below.refl _ _⟩
  by_cases h32 : 32 < n
  · have HE := Lib.hid (HLOW.out (by omega))
    go_enter Try.func14, Try.ntmps14
    go_wp2
    go_ret
    exact ⟨ret_bool HE.out.symm, Below.refl _ _⟩
  have HNO := Lib.hid (fun k hk h => mayE_no (n := n) (E := E) (k := k) hk (edOk_no h))
  have HYES := Lib.hid (fun (h : ∀ e ∈ E, edOk n e = true) => (mayE_iff (n := n) (E := E)).2 ⟨by omega, by omega, h⟩)
  clear hn HLOW
  go_enter Try.func14, Try.ntmps14
  go_wp2_with fail
  go_loopw [15] (fun i wr => ∃ k : Nat, k ≤ E.length ∧ i = .int .i64 k ∧ (∀ j (h : j < E.length), j < k → edOk n E[j] = true) ∧ Below w.heap.size w wr) (fun i _ => E.length - (intOf i).toNat)
  case atStart => exact ⟨0, Nat.zero_le _, rfl, fun j h hj => absurd hj (Nat.not_lt_zero _), Below.refl _ _⟩
  case round =>
    obtain ⟨k, hk, rfl, ht, hbw⟩ := hrel
    have HW := Lib.hid hbw; have HT := Lib.hid ht; clear hbw ht
    generalize wr = W1 at *
    by_cases hlt : k < E.length
    · obtain ⟨b1, o1, hb1, _, hE⟩ := (HA.out.below HW.out).edge hlt
      subst hb1
      have HN1 := Lib.hid (HNO.out k hlt)
      have HT1 : Hid ((0 ≤ E[k].fr ∧ E[k].fr < n ∧ 0 ≤ E[k].to_ ∧ E[k].to_ < n ∧ E[k].wt ≤ 4503599627370496 ∧ -4503599627370496 ≤ E[k].wt) → ∀ j (h : j < E.length), j < k + 1 → edOk n E[j] = true) := fun h j hj hlt => by
        by_cases e : j = k
        · subst e; exact edOk_iff.2 h
        · exact HT.out j hj (by omega)
      generalize E[k] = e at *
      have i3 : (k : Int) < (E.length : Int) := by omega
      have i4 : (0 : Int) ≤ (k : Int) := by omega
      obtain ⟨c0, c1, c2, c3, c4, c5⟩ := hE
      obtain ⟨x, y, z, p, q, t⟩ := e
      simp only at c0 c1 c2 c3 c4 c5 HN1 HT1
      have hBs := HW.out.size
      by_cases hx : 0 ≤ x ∧ x < n
      case neg =>
        have HE := Lib.hid (HN1.out (fun h => hx ⟨h.1, h.2.1⟩))
        go_wp2_with (go_at_call 21; refine (isHost_no _ hx).mono ?_; rintro e w1 ⟨rfl, rfl⟩)
        go_ret
        exact ⟨ret_bool HE.out.symm, HW.out.alloc hBs _⟩
      obtain ⟨hx1, hx2⟩ := hx
      have HX := Lib.hid (fun w => isHost_yes w hx1 hx2)
      by_cases hy : 0 ≤ y ∧ y < n
      case neg =>
        have HY := Lib.hid (fun w => isHost_no w hy)
        have HE := Lib.hid (HN1.out (fun h => hy ⟨h.2.2.1, h.2.2.2.1⟩))
        clear hy hx1 hx2
        go_wp2_with (first
          | (go_at_call 21; with_reducible (show Calls Try.prog _ #[.int .i64 x, _] _ _); refine (HX.out _).mono ?_; rintro e w1 ⟨rfl, rfl⟩)
          | (go_at_call 21; with_reducible (show Calls Try.prog _ #[.int .i64 y, _] _ _); refine (HY.out _).mono ?_; rintro e w2 ⟨rfl, rfl⟩))
        go_ret
        exact ⟨ret_bool HE.out.symm, HW.out.alloc hBs _⟩
      obtain ⟨hy1, hy2⟩ := hy
      have HY := Lib.hid (fun w => isHost_yes w hy1 hy2)
      by_cases z1 : z < -4503599627370496
      · have HE := Lib.hid (HN1.out (by omega))
        go_wp2_with (first
          | (go_at_call 21; with_reducible (show Calls Try.prog _ #[.int .i64 x, _] _ _); refine (HX.out _).mono ?_; rintro e w1 ⟨rfl, rfl⟩)
          | (go_at_call 21; with_reducible (show Calls Try.prog _ #[.int .i64 y, _] _ _); refine (HY.out _).mono ?_; rintro e w2 ⟨rfl, rfl⟩))
        go_ret
        exact ⟨ret_bool HE.out.symm, HW.out.alloc hBs _⟩
      by_cases z0 : 4503599627370496 < z
      · have HE := Lib.hid (HN1.out (by omega))
        go_wp2_with (first
          | (go_at_call 21; with_reducible (show Calls Try.prog _ #[.int .i64 x, _] _ _); refine (HX.out _).mono ?_; rintro e w1 ⟨rfl, rfl⟩)
          | (go_at_call 21; with_reducible (show Calls Try.prog _ #[.int .i64 y, _] _ _); refine (HY.out _).mono ?_; rintro e w2 ⟨rfl, rfl⟩))
        go_ret
        exact ⟨ret_bool HE.out.symm, HW.out.alloc hBs _⟩
      have HE := Lib.hid (HT1.out (by omega))
      go_wp2_with (first
          | (go_at_call 21; with_reducible (show Calls Try.prog _ #[.int .i64 x, _] _ _); refine (HX.out _).mono ?_; rintro e w1 ⟨rfl, rfl⟩)
          | (go_at_call 21; with_reducible (show Calls Try.prog _ #[.int .i64 y, _] _ _); refine (HY.out _).mono ?_; rintro e w2 ⟨rfl, rfl⟩))
      go_roundw
      case rel => exact ⟨k + 1, by omega, by go_num, HE.out, HW.out.alloc hBs _⟩
      case measure => simp [intOf]; omega
    · obtain rfl : k = E.length := by omega
      have HE := Lib.hid (HYES.out fun e he => by obtain ⟨j, hj, rfl⟩ := List.mem_iff_getElem.1 he; exact HT.out j hj hj)
      go_wp2_with fail
      go_ret
      exact ⟨ret_bool HE.out.symm, HW.out⟩
end Go.Proofs.Ytgeoggilnkcacaa

