import Derived.Test.YtlpalhlihckidaaWj
namespace Go.Proofs.Ytlpalhlihckidaa
open Go Go.RowKit Go.Sort

theorem run_string_g {W : World} {a : Option Addr} {l : List UInt8} (n c : Nat) (h : Rd W W.heap.size a (bV l)) (hn : n = l.length) :
    ∀ d os, (convert 25 9 (.slice a n c)).run Try.prog (grow (redrawn W d) os) = .ok (.string (bs l)) (grow (redrawn W d) os) := run_string_grown n c h hn
theorem putW_is (a : Option Addr) (n c : Nat) (L : List Sp) (hn : n = L.length) (w : World) (hr : Rd w w.heap.size a (flatL L)) (hlc : n ≤ c) (hc : c ≤ maxLen) (ok : ∀ s ∈ L, s.Ok) :
    Calls Try.prog 9 #[.slice a n c] w (PutOut w L) := by
  subst hn; exact putW_any a c L w hr hlc hc ok
theorem PutOut.yes {w w' : World} {L : List Sp} {e : Ending} (h : mayL L = true) (hs : PutOut w L e w') :
    ∃ a c, e = .returned (.tuple #[.slice a (batchL L).length c, .int .i64 0]) ∧ (batchL L).length ≤ c ∧ c ≤ maxLen ∧ Rd w' w'.heap.size a (bV (batchL L)) ∧ Below w.heap.size w w' := by
  obtain ⟨a, c, he, h1, h2, h3, h4⟩ := hs
  obtain ⟨p1, p2, _⟩ := putB_yes h
  rw [p1] at he h1 h3; rw [p2] at he
  exact ⟨a, c, he, h1, h2, h3, h4⟩
theorem PutOut.no {w w' : World} {L : List Sp} {e : Ending} (h : mayL L = false) (hs : PutOut w L e w') :
    ∃ a c, e = .returned (.tuple #[.slice a 0 c, .int .i64 1]) ∧ Below w.heap.size w w' := by
  obtain ⟨a, c, he, h1, h2, h3, h4⟩ := hs
  obtain ⟨p1, p2, _⟩ := putB_no h
  rw [p1] at he; rw [p2] at he
  exact ⟨a, c, he, h4⟩
set_option maxHeartbeats 4000000 in
theorem law_one (a : Option Addr) (c : Nat) (L : List Sp) (b : Option Addr) (d : Nat) (M : List Sp) (w : World) (hr : Rd w w.heap.size a (flatL L)) (hlc : L.length ≤ c) (hc : c ≤ maxLen) (ok : ∀ s ∈ L, s.Ok)
    (hrm : Rd w w.heap.size b (flatL M)) (hmc : M.length ≤ d) (hd : d ≤ maxLen) (okm : ∀ s ∈ M, s.Ok) :
    Calls Try.prog 6 #[.slice a L.length c, .slice b M.length d] w fun e w' => e = .returned (.bool true) ∧ Below w.heap.size w w' := by
  have HR := Lib.hid hr; have OK := Lib.hid ok; have HC := Lib.hid hc; have HLM : Hid (L.length ≤ maxLen) := Nat.le_trans hlc hc
  have HRM := Lib.hid hrm; have OKM := Lib.hid okm; have HD := Lib.hid hd; have HMM : Hid (M.length ≤ maxLen) := Nat.le_trans hmc hd
  clear hr ok hc hrm okm hd
  cases hg : greatB L
  case true =>
    have HG := Lib.hid hg; clear hg
    go_enter Try.func6, Try.ntmps6
    go_wp2_with fail
    refine (great_is HG.out a c _ HR.out HLM.out OK.out).mono ?_; rintro e w1 ⟨rfl, hb1⟩
    go_wp2_with fail
    refine (fixed_any _).mono ?_; rintro e w2 ⟨rfl, hb2⟩
    go_wp2_with fail
    go_ret
    exact ⟨rfl, bel2 hb1 hb2⟩
  have hl60 := great_le hg
  have HG := Lib.hid hg; clear hg
  cases hg2 : greatB M
  case true =>
    have HG2 := Lib.hid hg2; clear hg2
    go_enter Try.func6, Try.ntmps6
    go_wp2_with fail
    refine (great_is HG.out a c _ HR.out HLM.out OK.out).mono ?_; rintro e w1 ⟨rfl, hb1⟩
    have HRM1 := Lib.hid ((HRM.out.below hb1).more hb1.size)
    go_wp2_with fail
    refine (great_is HG2.out b d _ HRM1.out HMM.out OKM.out).mono ?_; rintro e w2 ⟨rfl, hb2⟩
    go_wp2_with fail
    refine (fixed_any _).mono ?_; rintro e w3 ⟨rfl, hb3⟩
    go_wp2_with fail
    go_ret
    exact ⟨rfl, bel2 (bel2 hb1 hb2) hb3⟩
  have hm60 := great_le hg2
  have HG2 := Lib.hid hg2; clear hg2
  cases hm : mayL L
  case false =>
    have HM := Lib.hid hm; clear hm
    go_enter Try.func6, Try.ntmps6
    go_wp2_with fail
    refine (great_is HG.out a c _ HR.out HLM.out OK.out).mono ?_; rintro e w1 ⟨rfl, hb1⟩
    have HR1 := Lib.hid ((HR.out.below hb1).more hb1.size); have HRM1 := Lib.hid ((HRM.out.below hb1).more hb1.size)
    go_wp2_with fail
    refine (great_is HG2.out b d _ HRM1.out HMM.out OKM.out).mono ?_; rintro e w2 ⟨rfl, hb2⟩
    have HR2 := Lib.hid ((HR1.out.below hb2).more hb2.size); have HRM2 := Lib.hid ((HRM1.out.below hb2).more hb2.size)
    have HB2 := Lib.hid (bel2 hb1 hb2); clear hb1 hb2
    go_wp2_with fail
    refine (putW_any a c L w2 HR2.out hlc HC.out OK.out).mono ?_
    intro e w3 hp; obtain ⟨a3, c3, rfl, hb3⟩ := PutOut.no HM.out hp; clear hp
    have HRM3 := Lib.hid ((HRM2.out.below hb3).more hb3.size)
    go_wp2_with fail
    refine (putW_any b d M w3 HRM3.out hmc HD.out OKM.out).mono ?_
    rintro e w4 ⟨a4, c4, rfl, _, _, _, hb4⟩
    go_wp2_with fail
    refine (fixed_any _).mono ?_; rintro e w5 ⟨rfl, hb5⟩
    go_wp2_with fail
    go_ret
    exact ⟨rfl, bel2 (bel2 (bel2 HB2.out hb3) hb4) hb5⟩
  cases hm2 : mayL M
  case false =>
    have HM := Lib.hid hm; have HM2 := Lib.hid hm2; clear hm hm2
    go_enter Try.func6, Try.ntmps6
    go_wp2_with fail
    refine (great_is HG.out a c _ HR.out HLM.out OK.out).mono ?_; rintro e w1 ⟨rfl, hb1⟩
    have HR1 := Lib.hid ((HR.out.below hb1).more hb1.size); have HRM1 := Lib.hid ((HRM.out.below hb1).more hb1.size)
    go_wp2_with fail
    refine (great_is HG2.out b d _ HRM1.out HMM.out OKM.out).mono ?_; rintro e w2 ⟨rfl, hb2⟩
    have HR2 := Lib.hid ((HR1.out.below hb2).more hb2.size); have HRM2 := Lib.hid ((HRM1.out.below hb2).more hb2.size)
    have HB2 := Lib.hid (bel2 hb1 hb2); clear hb1 hb2
    go_wp2_with fail
    refine (putW_any a c L w2 HR2.out hlc HC.out OK.out).mono ?_
    intro e w3 hp; obtain ⟨a3, c3, rfl, _, _, _, hb3⟩ := PutOut.yes HM.out hp; clear hp
    have HRM3 := Lib.hid ((HRM2.out.below hb3).more hb3.size)
    go_wp2_with fail
    refine (putW_any b d M w3 HRM3.out hmc HD.out OKM.out).mono ?_
    intro e w4 hp; obtain ⟨a4, c4, rfl, hb4⟩ := PutOut.no HM2.out hp; clear hp
    go_wp2_with fail
    refine (fixed_any _).mono ?_; rintro e w5 ⟨rfl, hb5⟩
    go_wp2_with fail
    go_ret
    exact ⟨rfl, bel2 (bel2 (bel2 HB2.out hb3) hb4) hb5⟩
  have hx := batchL_length hm
  have hy := batchL_length hm2
  obtain ⟨l1, l2, l3⟩ := mayL_iff.1 hm
  obtain ⟨m1, m2, m3⟩ := mayL_iff.1 hm2
  have HINJ := Lib.hid (batch_inj hm OK.out hm2 OKM.out)
  have HM := Lib.hid hm; have HM2 := Lib.hid hm2
  have HL3 := Lib.hid l3; have HM3 := Lib.hid m3
  obtain ⟨r, hr⟩ : ∃ r, r = decide (L = M) := ⟨_, rfl⟩
  have HRR := Lib.hid hr
  obtain ⟨t1, t2⟩ := str_eq (x := bs (batchL L)) (y := bs (batchL M)) (b := r) (by
    rw [hr]; exact decide_eq_decide.2 ⟨fun h => HINJ.out.1 (bs_inj h), fun h => by rw [h]⟩)
  clear t2 hr hm hm2 l3 m3
  have n1 : ¬ ((batchL L).length < 6) := by omega
  have n2 : ¬ ((batchL M).length < 6) := by omega
  have HX := Lib.hid hx; have HY := Lib.hid hy; clear hx hy
  obtain ⟨X, hX⟩ : ∃ X, X = batchL L := ⟨_, rfl⟩
  obtain ⟨Y, hY⟩ : ∃ Y, Y = batchL M := ⟨_, rfl⟩
  rw [← hX] at t1 n1 HX; rw [← hY] at t1 n2 HY
  have HXE := Lib.hid hX; have HYE := Lib.hid hY
  have hcat := batch_cat L M
  rw [← hX, ← hY] at hcat
  have HCAT := Lib.hid hcat
  clear hcat hX hY
  have n1' : ¬ ((X.length : Int) < 6) := by omega
  have n2' : ¬ ((Y.length : Int) < 6) := by omega
  have d1 : decide ((X.length : Int) < 6) = false := decide_eq_false n1'
  have d2 : decide ((Y.length : Int) < 6) = false := decide_eq_false n2'
  clear n1' n2' n1 n2
  go_enter Try.func6, Try.ntmps6
  go_wp2_with fail
  refine (great_is HG.out a c _ HR.out HLM.out OK.out).mono ?_; rintro e w1 ⟨rfl, hb1⟩
  have HR1 := Lib.hid ((HR.out.below hb1).more hb1.size); have HRM1 := Lib.hid ((HRM.out.below hb1).more hb1.size)
  go_wp2_with fail
  refine (great_is HG2.out b d _ HRM1.out HMM.out OKM.out).mono ?_; rintro e w2 ⟨rfl, hb2⟩
  have HR2 := Lib.hid ((HR1.out.below hb2).more hb2.size); have HRM2 := Lib.hid ((HRM1.out.below hb2).more hb2.size)
  have HB2 := Lib.hid (bel2 hb1 hb2); clear hb1 hb2
  go_wp2_with fail
  refine (putW_any a c L w2 HR2.out hlc HC.out OK.out).mono ?_
  intro e w3 hp; obtain ⟨a3, c3, rfl, hlc3, hcm3, hr3, hb3⟩ := PutOut.yes HM.out hp; clear hp
  rw [← HXE.out] at hlc3 hr3 ⊢
  have HR3 := Lib.hid ((HR2.out.below hb3).more hb3.size); have HRM3 := Lib.hid ((HRM2.out.below hb3).more hb3.size)
  have HX3 := Lib.hid hr3; have HB3 := Lib.hid (bel2 HB2.out hb3); have HC3 := Lib.hid hcm3; clear hr3 hb3 hcm3
  go_wp2_with fail
  refine (putW_any b d M w3 HRM3.out hmc HD.out OKM.out).mono ?_
  intro e w4 hp; obtain ⟨a4, c4, rfl, hlc4, hcm4, hr4, hb4⟩ := PutOut.yes HM2.out hp; clear hp
  rw [← HYE.out] at hlc4 hr4 ⊢
  have HR4 := Lib.hid ((HR3.out.below hb4).more hb4.size); have HRM4 := Lib.hid ((HRM3.out.below hb4).more hb4.size)
  have HX4 := Lib.hid ((HX3.out.below hb4).more hb4.size); have HY4 := Lib.hid hr4
  have HB4 := Lib.hid (bel2 HB3.out hb4); have HC4 := Lib.hid hcm4; clear hr4 hb4 hcm4
  go_wp2_with fail
  have hcv1 := run_string_g X.length c3 HX4.out rfl
  have hcv2 := run_string_g Y.length c4 HY4.out rfl
  refine wp_region_quiet_below (by kernel_rfl) (by kernel_rfl) ?_
  iterate 19 (first | go_big_quiet_step (first | (go_at_call 12; exact Calls.regrown_of (same_is _ _ _ _ _ _ L M r HRR.out rfl rfl _ ((HR4.out.below (below_regrown w4 _ _)).more (below_regrown w4 _ _).size) ((HRM4.out.below (below_regrown w4 _ _)).more (below_regrown w4 _ _).size) HLM.out HMM.out))) | fail)
  refine wpQuiet_nil ?_
  intro w5 hw'
  obtain ⟨⟨dd, os⟩, hw''⟩ := hw'
  have hb5 := below_regrown w4 dd os
  rw [← hw''] at hb5
  clear hw'' hcv1 hcv2
  have HR5 := Lib.hid ((HR4.out.below hb5).more hb5.size); have HRM5 := Lib.hid ((HRM4.out.below hb5).more hb5.size)
  have HX5 := Lib.hid ((HX4.out.below hb5).more hb5.size); have HY5 := Lib.hid ((HY4.out.below hb5).more hb5.size)
  have HB5 := Lib.hid (bel2 HB4.out hb5); clear hb5
  have HR6 := Lib.hid (HR5.out.below (box1 w5 (.cells #[] 41)))
  obtain ⟨i0, hi0, hz0, hz1, hz2⟩ := info_parts info_sp
  have HZ2 := Lib.hid hz2; clear hz2 d1 d2 t1
  have hLm : L.length ≤ 9223372036854775807 := by omega
  have hMm : M.length ≤ 9223372036854775807 := by omega
  have OKZ : Hid (∀ s ∈ L ++ M, s.Ok) := by
    intro s hs
    rcases List.mem_append.1 hs with h | h
    · exact OK.out s h
    · exact OKM.out s h
  have HLZ : Hid (L.length + M.length = (L ++ M).length) := by show _ = _; rw [List.length_append]
  go_wp2_with (first
    | (refine wpList_append_rd _ rfl (.tmp 55) (.tmp 56) 22 rfl w5.heap.size 41 i0 _ 8 80 Try.underlying22 hi0 hz0 hz1 HZ2.out rfl (by omega) (.slice (some ⟨w5.heap.size, 0, none⟩) 0 0) 0 [] rfl (World.ownsRow_made w5 #[] 0 (Nat.le_refl _) (by decide) rfl) _ _ L.length _ (flatL L) rfl (flatL_length L) HR6.out (flatL_one _) (by unfold maxLen; omega) (by omega) (by simp) ?_
       intro v6 w6 hown6 hg6 _
       have hb6 : Below w5.heap.size w5 w6 := Below.of_grown (box1 w5 _) hg6 (by simp) (by intro g h; simp [Value.ownBlock] at h; omega)
       have HO6 := Lib.hid hown6; have HB6 := Lib.hid hb6; have HRM6 := Lib.hid (HRM5.out.below hb6); clear hown6 hg6 hb6)
    | (refine wpList_append_rd _ rfl (.tmp 57) (.tmp 58) 22 rfl w5.heap.size 41 i0 _ 8 80 Try.underlying22 hi0 hz0 hz1 HZ2.out rfl (by omega) v6 (0 + L.length) _ rfl HO6.out _ _ M.length _ (flatL M) rfl (flatL_length M) HRM6.out (flatL_one _) (by unfold maxLen; omega) (by omega) HB6.out.size ?_
       intro v7 w7 hown7 hg7 _
       have hb7 : Below w5.heap.size w5 w7 := Below.of_grown HB6.out hg7 HB6.out.size (fun g h => (own_shape HO6.out h).1)
       obtain ⟨a7, c7, rfl, hlc7, hcm7, _⟩ := own_slice hown7
       have HO7 := Lib.hid hown7; have HB7 := Lib.hid hb7; have HL7 := Lib.hid hlc7; have HC7 := Lib.hid hcm7; clear hown7 hg7 hb7 hlc7 hcm7))
  have HZ7 : Hid (Rd w7 w7.heap.size a7 (flatL (L ++ M))) := by
    have h := Rd.own HO7.out
    rw [List.nil_append, ← flatL_append] at h
    exact h
  have HX7 := Lib.hid ((HX5.out.below HB7.out).more HB7.out.size); have HY7 := Lib.hid ((HY5.out.below HB7.out).more HB7.out.size)
  have HBB7 := Lib.hid (bel2 HB5.out HB7.out)
  by_cases h32 : 32 < L.length + M.length
  · have HMZ : Hid (mayL (L ++ M) = false) := mayL_many (by rw [List.length_append]; omega)
    refine (putW_is a7 _ c7 (L ++ M) HLZ.out w7 HZ7.out (by have := HL7.out; omega) HC7.out OKZ.out).mono ?_
    intro e w8 hp; obtain ⟨a8, c8, rfl, hb8⟩ := PutOut.no HMZ.out hp; clear hp
    go_wp2_with fail
    refine (fixed_any _).mono ?_; rintro e w9 ⟨rfl, hb9⟩
    go_wp2_with fail
    go_ret
    exact ⟨ret_bool (by first | rfl | simp), bel2 (bel2 HBB7.out hb8) hb9⟩
  have HMZ : Hid (mayL (L ++ M) = true) := mayL_iff.2 ⟨by rw [List.length_append]; omega, by rw [List.length_append]; omega, fun s hs => by
    rcases List.mem_append.1 hs with h | h
    · exact HL3.out s h
    · exact HM3.out s h⟩
  have h32' : ¬ (32 < (L.length : Int) + (M.length : Int)) := by omega
  refine (putW_is a7 _ c7 (L ++ M) HLZ.out w7 HZ7.out (by have := HL7.out; omega) HC7.out OKZ.out).mono ?_
  intro e w8 hp; obtain ⟨a8, c8, rfl, hlc8, hcm8, hr8, hb8⟩ := PutOut.yes HMZ.out hp; clear hp
  have hzl := batchL_length HMZ.out
  rw [List.length_append] at hzl
  obtain ⟨Z, hZ⟩ : ∃ Z, Z = batchL (L ++ M) := ⟨_, rfl⟩
  rw [← hZ] at hlc8 hr8 hzl HCAT ⊢
  have HX8 := Lib.hid ((HX7.out.below hb8).more hb8.size); have HY8 := Lib.hid ((HY7.out.below hb8).more hb8.size)
  have HZ8 := Lib.hid hr8; have HBB8 := Lib.hid (bel2 HBB7.out hb8); clear hr8 hb8 hZ
  obtain ⟨b1, o1, ha1, _⟩ := HX8.out (by rw [bV_length]; have := HX.out; omega)
  obtain ⟨b2, o2, ha2, _⟩ := HY8.out (by rw [bV_length]; have := HY.out; omega)
  obtain ⟨b3, o3, ha3, _⟩ := HZ8.out (by rw [bV_length]; omega)
  subst ha1 ha2 ha3
  have HX9 : Hid (Rd w8 w8.heap.size (some ⟨b1, o1 + 6, none⟩) (bV (X.drop 6))) := by show Rd _ _ _ _; rw [bV_drop]; exact HX8.out.drop 6
  have HY9 : Hid (Rd w8 w8.heap.size (some ⟨b2, o2 + 6, none⟩) (bV (Y.drop 6))) := by show Rd _ _ _ _; rw [bV_drop]; exact HY8.out.drop 6
  have HZ9 : Hid (Rd w8 w8.heap.size (some ⟨b3, o3 + 6, none⟩) (bV (Z.drop 6))) := by show Rd _ _ _ _; rw [bV_drop]; exact HZ8.out.drop 6
  have hcv1 := run_string_g (X.length - 6) (c3 - 6) HX9.out (by rw [List.length_drop])
  have hcv2 := run_string_g (Y.length - 6) (c4 - 6) HY9.out (by rw [List.length_drop])
  have hcv3 := run_string_g (Z.length - 6) (c8 - 6) HZ9.out (by rw [List.length_drop])
  have s1 : (bs (X.drop 6)).size = 75 * L.length := by rw [bs_size, List.length_drop, HX.out]; omega
  have s2 : (bs (Y.drop 6)).size = 75 * M.length := by rw [bs_size, List.length_drop, HY.out]; omega
  have s3 : ¬ 9223372036854775807 < 75 * L.length + 75 * M.length := by omega
  obtain ⟨t3, _⟩ := str_eq (x := bs (Z.drop 6)) (y := bs (X.drop 6) ++ bs (Y.drop 6)) (b := true) (by rw [HCAT.out, bs_append]; simp)
  have g1 : decide ((6 : Int) < (Z.length : Int)) = true := decide_eq_true (by omega)
  have g1' : (6 : Int) < (Z.length : Int) := by omega
  have j1 : (6 : Int) ≤ (Z.length : Int) := by omega
  have j2 : (6 : Int) ≤ (X.length : Int) := by have := HX.out; omega
  have j3 : (6 : Int) ≤ (Y.length : Int) := by have := HY.out; omega
  have x1 : ¬ c3 = 6 := by have := HX.out; omega
  have x2 : ¬ c4 = 6 := by have := HY.out; omega
  have x3 : ¬ c8 = 6 := by omega
  have y1 : (X.length : Int) ≤ (c3 : Int) := by omega
  have y2 : (Y.length : Int) ≤ (c4 : Int) := by omega
  have y3 : (Z.length : Int) ≤ (c8 : Int) := by omega
  clear hzl
  go_wp2_with fail
  refine wp_region_quiet_below (by kernel_rfl) (by kernel_rfl) ?_
  iterate 24 (first | go_big_quiet_step (first | (go_at_call 8; exact Calls.regrown_of (fixed_any _))) | fail)
  refine wpQuiet_nil ?_
  intro w9 hw'
  obtain ⟨⟨dd, os⟩, hw''⟩ := hw'
  have hb9 := below_regrown w8 dd os
  rw [← hw''] at hb9
  clear hw'' hcv1 hcv2 hcv3
  go_wp2_with fail
  go_ret
  exact ⟨ret_bool (by first | rfl | simp), bel2 HBB8.out hb9⟩
end Go.Proofs.Ytlpalhlihckidaa
