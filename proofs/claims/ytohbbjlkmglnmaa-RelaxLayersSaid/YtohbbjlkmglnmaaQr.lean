import Derived.Test.YtohbbjlkmglnmaaQq
namespace Go.Proofs.Ytohbbjlkmglnmaa
open Go Go.RowKit Go.Sort
set_option linter.unusedVariables false

/-! The landed code: the greatest offsets (stage 15). -/
theorem met_equal {m : Nat} {E : List Ed} (hm : 0 < m) : metL m E = decide (rowQ m E m = rowQ m E (m - 1)) := by
  have hle : ∀ h, (rowQ m E m).getD h 0 ≤ (rowQ m E (m - 1)).getD h 0 := fun h => by
    by_cases hh : h < m
    · obtain ⟨k, rfl⟩ : ∃ k, m = k + 1 := ⟨m - 1, by omega⟩
      rw [rowQ_get hh]; exact least_le _ _ _ _
    · have e : ∀ k, (rowQ m E k).getD h 0 = 0 := fun k => by
        rw [List.getD_eq_getElem?_getD, List.getElem?_eq_none (by rw [rowQ_length]; omega)]; rfl
      rw [e, e]; exact Int.le_refl _
  rw [Bool.eq_iff_iff, decide_eq_true_iff]
  unfold metL
  rw [List.all_eq_true]
  constructor
  · intro h
    refine List.ext_getElem (by rw [rowQ_length, rowQ_length]) fun i h1 h2 => ?_
    have hi : i < m := by rw [rowQ_length] at h1; exact h1
    have a := of_decide_eq_true (h i (List.mem_range.2 hi))
    have b := hle i
    have e1 : (rowQ m E m).getD i 0 = (rowQ m E m)[i] := by rw [List.getD_eq_getElem?_getD, List.getElem?_eq_getElem h1]; rfl
    have e2 : (rowQ m E (m - 1)).getD i 0 = (rowQ m E (m - 1))[i] := by rw [List.getD_eq_getElem?_getD, List.getElem?_eq_getElem h2]; rfl
    rw [e1, e2] at a b
    omega
  · intro h x _
    rw [h]; simp
set_option maxHeartbeats 8000000 in
theorem solve_pays15 : SolvePay 15 := by
  intro n a c E w ha hl hok hn
  have HM := Lib.hid (may_pays15 n a c E w ha hl hok hn)
  have HC := Lib.hid (fun W (h : Below w.heap.size w W) => layers_pays15 n a c E W ((ha.below h).more h.size) hl hok hn); clear ha hok hn
  obtain ⟨r, hr⟩ : ∃ r, mayE n E = r := ⟨_, rfl⟩
  rw [hr] at HM
  cases r with
  | false =>
    have HE : Hid (solveL n E = none) := by show _ = _; unfold solveL; rw [hr]; rfl
    clear hr HC
    go_enter Try.func15, Try.ntmps15
    go_wp2_with (go_at_call 11
                 refine HM.out.mono ?_
                 rintro x w1 ⟨rfl, hb1⟩
                 have HB1 := Lib.hid hb1; clear hb1)
    go_ret2
    exact ⟨.inr ⟨HE.out, none, 0, rfl⟩, HB1.out⟩
  | true =>
    obtain ⟨h0, h32, hE⟩ := mayE_iff.1 hr
    obtain ⟨m, rfl⟩ : ∃ m : Nat, n = (m : Int) := ⟨n.toNat, by omega⟩
    have hL1 : (laysL (m : Int) E).length = m + 1 := by unfold laysL; rw [hr]; simp
    have HLG := Lib.hid (fun k hk (h : k < (laysL (m : Int) E).length) => lays_get (E := E) (k := k) hr hk h)
    have HNO : Hid (metL m E = false → solveL (m : Int) E = none) := fun h => by unfold solveL; rw [hr, Int.toNat_natCast, h]; rfl
    have HYES : Hid (metL m E = true → solveL (m : Int) E = some (rowQ m E m)) := fun h => by unfold solveL; rw [hr, Int.toNat_natCast, h]; rfl
    have HL1 := Lib.hid hL1
    rw [hL1] at HC
    obtain ⟨y, hy⟩ : ∃ y, m + 1 = y := ⟨_, rfl⟩
    rw [hy] at HC HL1
    have hm32 : m ≤ 32 := by omega
    have i2 : (m : Int) < (y : Int) := by omega
    clear hL1 hr hE
    go_enter Try.func15, Try.ntmps15
    go_upto_region 4 with (first
      | (go_at_call 11
         refine HM.out.mono ?_
         rintro x w1 ⟨rfl, hb1⟩
         have HB1 := Lib.hid hb1; clear hb1)
      | (go_at_call 9
         refine (HC.out _ HB1.out).mono ?_
         rintro x w2 ⟨a1, c1, a2, c2, rfl, hr1, _, hb2⟩
         have HR1 := Lib.hid hr1
         have HB2 := Lib.hid (HB1.out.trans (hb2.mono HB1.out.size)); clear hb2 hr1))
    obtain ⟨b1, o1, ha1, hlt1, u1, d1, hc1, hu1⟩ := HR1.out.get (i := m) (g := rowQ m E m) (by rw [HL1.out]; omega) (HLG.out m (Nat.le_refl _) (by rw [HL1.out]; omega))
    subst ha1
    rw [rowQ_length] at hc1
    have HU1 := Lib.hid hu1; clear hu1
    have j2 : (0 : Int) ≤ (m : Int) := by omega
    by_cases hm : 0 < m
    · obtain ⟨k, hk⟩ : ∃ k, m - 1 = k := ⟨_, rfl⟩
      have HME := Lib.hid (met_equal (E := E) hm)
      rw [hk] at HME
      obtain ⟨b2, o2, ha2, hlt2, u2, d2, hc3, hu2⟩ := HR1.out.get (i := k) (g := rowQ m E k) (by rw [HL1.out]; omega) (HLG.out k (by omega) (by rw [HL1.out]; omega))
      obtain ⟨rfl, rfl⟩ := And.intro (Addr.mk.inj (Option.some.inj ha2)).1 (Addr.mk.inj (Option.some.inj ha2)).2.1
      rw [rowQ_length] at hc3
      have j1 : (0 : Int) < (m : Int) := by omega
      have j3 : IntKind.i64.wrap ((m : Int) - 1) = (k : Int) := by rw [IntWalk.i64_in _ (by omega)]; omega
      have j4 : (k : Int) < (y : Int) := by omega
      have j5 : (0 : Int) ≤ (k : Int) := by omega
      have HQ := Lib.hid (fun W (h : Below w2.heap.size w2 W) => equal15_any u1 u2 d1 d2 (rowQ m E m) (rowQ m E k) W ((HU1.out.below h).more h.size) ((hu2.below h).more h.size) (by rw [rowQ_length, rowQ_length]) (by rw [rowQ_length]; omega))
      rw [rowQ_length, rowQ_length, ← HME.out] at HQ
      clear ha2 hu2 HC HM HME
      have hcg : ∀ d os m o, m < w2.heap.size → (grow (redrawn w2 d) os).cell? ⟨m, o, none⟩ = w2.cell? ⟨m, o, none⟩ := fun d os m o h => (below_regrown w2 d os).cell h
      obtain ⟨r, hr⟩ : ∃ r, metL m E = r := ⟨_, rfl⟩
      rw [hr] at HQ
      refine wp_region_quiet_below (by kernel_rfl) (by kernel_rfl) ?_
      iterate 15 (first | go_big_quiet_step ((go_at_call 23; exact Calls.regrown_of (HQ.out _ (below_regrown w2 _ _)))) | fail)
      refine wpQuiet_nil ?_
      intro W5 hw5
      obtain ⟨⟨d5', os5⟩, hw5'⟩ := hw5
      have hb5 := below_regrown w2 d5' os5
      rw [← hw5'] at hb5
      have HB5 := Lib.hid (HB2.out.trans (hb5.mono HB2.out.size))
      have hc5 := (hb5.cell (p := ⟨b1, o1 + m, none⟩) hlt1).trans hc1
      have HU5 := Lib.hid ((HU1.out.below hb5).more hb5.size)
      clear hw5' hcg hb5 hc1 hc3
      cases r with
      | false =>
        have HE := Lib.hid (HNO.out hr)
        go_wp2_with fail
        go_ret2
        exact ⟨.inr ⟨HE.out, none, 0, rfl⟩, HB5.out⟩
      | true =>
        have HE := Lib.hid (HYES.out hr)
        have HRL : Hid ((rowQ m E m).length = m) := rowQ_length _ _ _
        generalize rowQ m E m = O at *
        go_wp2_with fail
        go_ret2
        refine ⟨.inl ⟨O, u1, d1, HE.out, ?_, HU5.out⟩, HB5.out⟩
        rw [HRL.out]; rfl
    · obtain rfl : m = 0 := by omega
      have HE := Lib.hid (HYES.out rfl)
      clear HC HM
      have hcg : ∀ d os m o, m < w2.heap.size → (grow (redrawn w2 d) os).cell? ⟨m, o, none⟩ = w2.cell? ⟨m, o, none⟩ := fun d os m o h => (below_regrown w2 d os).cell h
      refine wp_region_quiet_below (by kernel_rfl) (by kernel_rfl) ?_
      iterate 15 (first | go_big_quiet_step (fail) | fail)
      refine wpQuiet_nil ?_
      intro W5 hw5
      obtain ⟨⟨d5', os5⟩, hw5'⟩ := hw5
      have hb5 := below_regrown w2 d5' os5
      rw [← hw5'] at hb5
      have HB5 := Lib.hid (HB2.out.trans (hb5.mono HB2.out.size))
      have hc5 := (hb5.cell (p := ⟨b1, o1 + 0, none⟩) hlt1).trans hc1
      rw [Nat.add_zero] at hc5
      have HU5 := Lib.hid ((HU1.out.below hb5).more hb5.size)
      clear hw5' hcg hb5 hc1
      have HRL : Hid ((rowQ 0 E 0).length = 0) := rowQ_length _ _ _
      generalize rowQ 0 E 0 = O at *
      go_wp2_with fail
      go_ret2
      refine ⟨.inl ⟨O, u1, d1, HE.out, ?_, HU5.out⟩, HB5.out⟩
      rw [HRL.out]; rfl
end Go.Proofs.Ytohbbjlkmglnmaa
