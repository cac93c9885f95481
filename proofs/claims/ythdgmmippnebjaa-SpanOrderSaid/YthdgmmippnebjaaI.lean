import Derived.Test.YthdgmmippnebjaaH
namespace Go.Proofs.Ythdgmmippnebjaa
open Go.RowKit Go.Sort

theorem tri13 {x y z : Int} (h : Tri x y z) : (x = 0 ∧ y = 0 ∧ z = 0) ∨ (x = 0 ∧ y = 1 ∧ z = 1) ∨ (x = 0 ∧ y = -1 ∧ z = -1) ∨ (x = 1 ∧ y = 0 ∧ z = 1) ∨ (x = -1 ∧ y = 0 ∧ z = -1) ∨ (x = 1 ∧ y = 1 ∧ z = 1) ∨ (x = -1 ∧ y = -1 ∧ z = -1)
        ∨ (x = 1 ∧ y = -1 ∧ z = 0) ∨ (x = 1 ∧ y = -1 ∧ z = 1) ∨ (x = 1 ∧ y = -1 ∧ z = -1) ∨ (x = -1 ∧ y = 1 ∧ z = 0) ∨ (x = -1 ∧ y = 1 ∧ z = 1) ∨ (x = -1 ∧ y = 1 ∧ z = -1) := by
  unfold Tri at h
  obtain ⟨hx, hy, hz, h1, h2, h3⟩ := h
  have ex : x = 0 ∨ x = 1 ∨ x = -1 := by omega
  have ey : y = 0 ∨ y = 1 ∨ y = -1 := by omega
  have ez : z = 0 ∨ z = 1 ∨ z = -1 := by omega
  rcases ex with rfl | rfl | rfl <;> rcases ey with rfl | rfl | rfl <;> rcases ez with rfl | rfl | rfl <;> first | (exfalso; omega) | simp
set_option maxHeartbeats 4000000 in
theorem law_order (a b c : Sp) (w : World) (oa : a.Ok) (ob : b.Ok) (oc : c.Ok) : Calls Try.prog 5 #[a.v, b.v, c.v] w fun e w' => e = .returned (.bool true) ∧ Below w.heap.size w w' := by
  have OA := Lib.hid oa; have OB := Lib.hid ob; have OC := Lib.hid oc; clear oa ob oc
  cases la : longB a
  case true =>
    have LA := Lib.hid la; clear la
    unfold Sp.v
    go_enter Try.func5, Try.ntmps5
    go_wp2_with fail
    refine (long_is LA.out _ OA.out.host OA.out.name).mono ?_; rintro e w1 ⟨rfl, hb⟩
    go_wp2_with (go_at_call 7; refine (fixed_any _).mono ?_; rintro e w2 ⟨rfl, hb2⟩)
    go_ret
    exact ⟨rfl, bel2 (bel2 (bel3 _ _ _ _) hb) hb2⟩
  have LA := Lib.hid la; clear la
  cases lb : longB b
  case true =>
    have LB := Lib.hid lb; clear lb
    unfold Sp.v
    go_enter Try.func5, Try.ntmps5
    go_wp2_with fail
    refine (long_is LA.out _ OA.out.host OA.out.name).mono ?_; rintro e w1 ⟨rfl, hb⟩
    obtain ⟨c0, c1, c2, c3, c4, c5, c6, c7⟩ := ((box3_new w a b c 26).below hb).b.all
    go_wp2_with fail
    refine (long_is LB.out _ OB.out.host OB.out.name).mono ?_; rintro e w2 ⟨rfl, hb2⟩
    clear c0 c1 c2 c3 c4 c5 c6 c7
    go_wp2_with (go_at_call 7; refine (fixed_any _).mono ?_; rintro e w3 ⟨rfl, hb3⟩)
    go_ret
    exact ⟨rfl, bel2 (bel2 (bel2 (bel3 _ _ _ _) hb) hb2) hb3⟩
  have LB := Lib.hid lb; clear lb
  cases lc : longB c
  case true =>
    have LC := Lib.hid lc; clear lc
    unfold Sp.v
    go_enter Try.func5, Try.ntmps5
    go_wp2_with fail
    refine (long_is LA.out _ OA.out.host OA.out.name).mono ?_; rintro e w1 ⟨rfl, hb⟩
    obtain ⟨c0, c1, c2, c3, c4, c5, c6, c7⟩ := ((box3_new w a b c 26).below hb).b.all
    go_wp2_with fail
    refine (long_is LB.out _ OB.out.host OB.out.name).mono ?_; rintro e w2 ⟨rfl, hb2⟩
    clear c0 c1 c2 c3 c4 c5 c6 c7
    obtain ⟨c0, c1, c2, c3, c4, c5, c6, c7⟩ := (((box3_new w a b c 26).below hb).below hb2).c.all
    go_wp2_with fail
    refine (long_is LC.out _ OC.out.host OC.out.name).mono ?_; rintro e w3 ⟨rfl, hb3⟩
    clear c0 c1 c2 c3 c4 c5 c6 c7
    go_wp2_with (go_at_call 7; refine (fixed_any _).mono ?_; rintro e w4 ⟨rfl, hb4⟩)
    go_ret
    exact ⟨rfl, bel2 (bel2 (bel2 (bel2 (bel3 _ _ _ _) hb) hb2) hb3) hb4⟩
  have LC := Lib.hid lc; clear lc
  unfold Sp.v
  go_enter Try.func5, Try.ntmps5
  go_wp2_with fail
  refine (long_is LA.out _ OA.out.host OA.out.name).mono ?_; rintro e w1 ⟨rfl, hb⟩
  obtain ⟨c0, c1, c2, c3, c4, c5, c6, c7⟩ := ((box3_new w a b c 26).below hb).b.all
  go_wp2_with fail
  refine (long_is LB.out _ OB.out.host OB.out.name).mono ?_; rintro e w2 ⟨rfl, hb2⟩
  clear c0 c1 c2 c3 c4 c5 c6 c7
  obtain ⟨c0, c1, c2, c3, c4, c5, c6, c7⟩ := (((box3_new w a b c 26).below hb).below hb2).c.all
  go_wp2_with fail
  refine (long_is LC.out _ OC.out.host OC.out.name).mono ?_; rintro e w3 ⟨rfl, hb3⟩
  clear c0 c1 c2 c3 c4 c5 c6 c7
  have h3 := ((((box3_new w a b c 26).below hb).below hb2).below hb3)
  have HB3 := Lib.hid (bel2 (bel2 (bel2 (bel3 _ _ _ _) hb) hb2) hb3); clear hb hb2 hb3
  obtain ⟨a0, a1, a2, a3, a4, a5, a6, a7⟩ := h3.a.all
  obtain ⟨b0, b1, b2, b3, b4, b5, b6, b7⟩ := h3.b.all
  obtain ⟨c0, c1, c2, c3, c4, c5, c6, c7⟩ := h3.c.all
  have q1 := h3.a.1; have q2 := h3.b.1; have q3 := h3.c.1
  have H3 := Lib.hid h3; clear h3
  go_wp2_with fail
  have hcg : ∀ d os n o, n < w3.heap.size → (grow (redrawn w3 d) os).cell? ⟨n, o, none⟩ = w3.cell? ⟨n, o, none⟩ := fun d os n o h => (below_regrown w3 d os).cell h
  refine wp_region_quiet_below (by kernel_rfl) (by kernel_rfl) ?_
  iterate 12 (first | go_big_quiet_step (first | (go_at_call 14; exact Calls.regrown_of (cmp_any a b _)) | (go_at_call 14; exact Calls.regrown_of (cmp_any b c _)) | (go_at_call 14; exact Calls.regrown_of (cmp_any a c _))) | fail)
  refine wpQuiet_nil ?_
  intro w4 hw4
  obtain ⟨⟨d, os⟩, hw4'⟩ := hw4
  have hb4 := below_regrown w3 d os
  rw [← hw4'] at hb4
  clear hw4' hcg a0 a1 a2 a3 a4 a5 a6 a7 b0 b1 b2 b3 b4 b5 b6 b7 c0 c1 c2 c3 c4 c5 c6 c7 q1 q2 q3
  have HB4 := Lib.hid (bel2 HB3.out hb4)
  have H4 := Lib.hid (H3.out.below hb4)
  clear hb4 HB3 H3
  have h13 := tri13 (cmpI_tri a b c)
  have HN := Lib.hid (cmpI_neg a b)
  have HZ := Lib.hid (cmpI_zero (a := a) (b := b))
  rcases h13 with ⟨x1, y1, z1⟩ | ⟨x1, y1, z1⟩ | ⟨x1, y1, z1⟩ | ⟨x1, y1, z1⟩ | ⟨x1, y1, z1⟩ | ⟨x1, y1, z1⟩ | ⟨x1, y1, z1⟩ | ⟨x1, y1, z1⟩ | ⟨x1, y1, z1⟩ | ⟨x1, y1, z1⟩ | ⟨x1, y1, z1⟩ | ⟨x1, y1, z1⟩ | ⟨x1, y1, z1⟩
  · have X := Lib.hid x1
    have XN : Hid (cmpI b a = 0) := by have h := HN.out; show cmpI b a = _; omega
    rw [x1, y1, z1]
    clear x1 y1 z1
    obtain rfl := HZ.out X.out
    go_wp2_with fail
    refine (fixed_any _).mono ?_; rintro e w5 ⟨rfl, hb5⟩
    have h5 := H4.out.below hb5
    obtain ⟨a0, a1, a2, a3, a4, a5, a6, a7⟩ := h5.a.all
    obtain ⟨b0, b1, b2, b3, b4, b5, b6, b7⟩ := h5.b.all
    have H5 := Lib.hid h5; clear h5
    have HB5 := Lib.hid (bel2 HB4.out hb5); clear hb5
    go_wp2_with fail
    refine (refCmp_any a a _ OA.out.host OB.out.host OA.out.name OB.out.name).mono ?_; rw [X.out]; rintro e w6 ⟨rfl, hb6⟩
    clear a0 a1 a2 a3 a4 a5 a6 a7 b0 b1 b2 b3 b4 b5 b6 b7
    have h5 := H5.out.below hb6
    obtain ⟨a0, a1, a2, a3, a4, a5, a6, a7⟩ := h5.a.all
    obtain ⟨b0, b1, b2, b3, b4, b5, b6, b7⟩ := h5.b.all
    have H6 := Lib.hid h5; clear h5
    have HB6 := Lib.hid (bel2 HB5.out hb6); clear hb6
    go_wp2_with fail
    refine (cmp_any a a _).mono ?_; rw [XN.out]; rintro e w7 ⟨rfl, hb7⟩
    clear a0 a1 a2 a3 a4 a5 a6 a7 b0 b1 b2 b3 b4 b5 b6 b7
    have h5 := H6.out.below hb7
    obtain ⟨a0, a1, a2, a3, a4, a5, a6, a7⟩ := h5.a.all
    obtain ⟨b0, b1, b2, b3, b4, b5, b6, b7⟩ := h5.b.all
    clear h5
    have HB7 := Lib.hid (bel2 HB6.out hb7); clear hb7
    go_wp2
    go_ret
    exact ⟨rfl, HB7.out⟩
  · have X := Lib.hid x1
    have XN : Hid (cmpI b a = 0) := by have h := HN.out; show cmpI b a = _; omega
    rw [x1, y1, z1]
    clear x1 y1 z1
    obtain rfl := HZ.out X.out
    go_wp2_with fail
    refine (fixed_any _).mono ?_; rintro e w5 ⟨rfl, hb5⟩
    have h5 := H4.out.below hb5
    obtain ⟨a0, a1, a2, a3, a4, a5, a6, a7⟩ := h5.a.all
    obtain ⟨b0, b1, b2, b3, b4, b5, b6, b7⟩ := h5.b.all
    have H5 := Lib.hid h5; clear h5
    have HB5 := Lib.hid (bel2 HB4.out hb5); clear hb5
    go_wp2_with fail
    refine (refCmp_any a a _ OA.out.host OB.out.host OA.out.name OB.out.name).mono ?_; rw [X.out]; rintro e w6 ⟨rfl, hb6⟩
    clear a0 a1 a2 a3 a4 a5 a6 a7 b0 b1 b2 b3 b4 b5 b6 b7
    have h5 := H5.out.below hb6
    obtain ⟨a0, a1, a2, a3, a4, a5, a6, a7⟩ := h5.a.all
    obtain ⟨b0, b1, b2, b3, b4, b5, b6, b7⟩ := h5.b.all
    have H6 := Lib.hid h5; clear h5
    have HB6 := Lib.hid (bel2 HB5.out hb6); clear hb6
    go_wp2_with fail
    refine (cmp_any a a _).mono ?_; rw [XN.out]; rintro e w7 ⟨rfl, hb7⟩
    clear a0 a1 a2 a3 a4 a5 a6 a7 b0 b1 b2 b3 b4 b5 b6 b7
    have h5 := H6.out.below hb7
    obtain ⟨a0, a1, a2, a3, a4, a5, a6, a7⟩ := h5.a.all
    obtain ⟨b0, b1, b2, b3, b4, b5, b6, b7⟩ := h5.b.all
    clear h5
    have HB7 := Lib.hid (bel2 HB6.out hb7); clear hb7
    go_wp2
    go_ret
    exact ⟨rfl, HB7.out⟩
  · have X := Lib.hid x1
    have XN : Hid (cmpI b a = 0) := by have h := HN.out; show cmpI b a = _; omega
    rw [x1, y1, z1]
    clear x1 y1 z1
    obtain rfl := HZ.out X.out
    go_wp2_with fail
    refine (fixed_any _).mono ?_; rintro e w5 ⟨rfl, hb5⟩
    have h5 := H4.out.below hb5
    obtain ⟨a0, a1, a2, a3, a4, a5, a6, a7⟩ := h5.a.all
    obtain ⟨b0, b1, b2, b3, b4, b5, b6, b7⟩ := h5.b.all
    have H5 := Lib.hid h5; clear h5
    have HB5 := Lib.hid (bel2 HB4.out hb5); clear hb5
    go_wp2_with fail
    refine (refCmp_any a a _ OA.out.host OB.out.host OA.out.name OB.out.name).mono ?_; rw [X.out]; rintro e w6 ⟨rfl, hb6⟩
    clear a0 a1 a2 a3 a4 a5 a6 a7 b0 b1 b2 b3 b4 b5 b6 b7
    have h5 := H5.out.below hb6
    obtain ⟨a0, a1, a2, a3, a4, a5, a6, a7⟩ := h5.a.all
    obtain ⟨b0, b1, b2, b3, b4, b5, b6, b7⟩ := h5.b.all
    have H6 := Lib.hid h5; clear h5
    have HB6 := Lib.hid (bel2 HB5.out hb6); clear hb6
    go_wp2_with fail
    refine (cmp_any a a _).mono ?_; rw [XN.out]; rintro e w7 ⟨rfl, hb7⟩
    clear a0 a1 a2 a3 a4 a5 a6 a7 b0 b1 b2 b3 b4 b5 b6 b7
    have h5 := H6.out.below hb7
    obtain ⟨a0, a1, a2, a3, a4, a5, a6, a7⟩ := h5.a.all
    obtain ⟨b0, b1, b2, b3, b4, b5, b6, b7⟩ := h5.b.all
    clear h5
    have HB7 := Lib.hid (bel2 HB6.out hb7); clear hb7
    go_wp2
    go_ret
    exact ⟨rfl, HB7.out⟩
  · have X := Lib.hid x1
    have XN : Hid (cmpI b a = -1) := by have h := HN.out; show cmpI b a = _; omega
    rw [x1, y1, z1]
    clear x1 y1 z1
    have hne : a ≠ b := fun e => by have := X.out; rw [e, cmpI_refl] at this; omega
    have hq : ∀ w, (binOp .eql 26 a.v b.v).run Try.prog w = .ok (.bool false) w := fun w => eql_not a b w hne
    unfold Sp.v at hq
    clear hne
    go_wp2_with fail
    refine (fixed_any _).mono ?_; rintro e w5 ⟨rfl, hb5⟩
    have h5 := H4.out.below hb5
    obtain ⟨a0, a1, a2, a3, a4, a5, a6, a7⟩ := h5.a.all
    obtain ⟨b0, b1, b2, b3, b4, b5, b6, b7⟩ := h5.b.all
    have H5 := Lib.hid h5; clear h5
    have HB5 := Lib.hid (bel2 HB4.out hb5); clear hb5
    go_wp2_with fail
    refine (refCmp_any a b _ OA.out.host OB.out.host OA.out.name OB.out.name).mono ?_; rw [X.out]; rintro e w6 ⟨rfl, hb6⟩
    clear a0 a1 a2 a3 a4 a5 a6 a7 b0 b1 b2 b3 b4 b5 b6 b7
    have h5 := H5.out.below hb6
    obtain ⟨a0, a1, a2, a3, a4, a5, a6, a7⟩ := h5.a.all
    obtain ⟨b0, b1, b2, b3, b4, b5, b6, b7⟩ := h5.b.all
    have H6 := Lib.hid h5; clear h5
    have HB6 := Lib.hid (bel2 HB5.out hb6); clear hb6
    go_wp2_with fail
    refine (cmp_any b a _).mono ?_; rw [XN.out]; rintro e w7 ⟨rfl, hb7⟩
    clear a0 a1 a2 a3 a4 a5 a6 a7 b0 b1 b2 b3 b4 b5 b6 b7
    have h5 := H6.out.below hb7
    obtain ⟨a0, a1, a2, a3, a4, a5, a6, a7⟩ := h5.a.all
    obtain ⟨b0, b1, b2, b3, b4, b5, b6, b7⟩ := h5.b.all
    clear h5
    have HB7 := Lib.hid (bel2 HB6.out hb7); clear hb7
    go_wp2
    go_ret
    exact ⟨rfl, HB7.out⟩
  · have X := Lib.hid x1
    have XN : Hid (cmpI b a = 1) := by have h := HN.out; show cmpI b a = _; omega
    rw [x1, y1, z1]
    clear x1 y1 z1
    have hne : a ≠ b := fun e => by have := X.out; rw [e, cmpI_refl] at this; omega
    have hq : ∀ w, (binOp .eql 26 a.v b.v).run Try.prog w = .ok (.bool false) w := fun w => eql_not a b w hne
    unfold Sp.v at hq
    clear hne
    go_wp2_with fail
    refine (fixed_any _).mono ?_; rintro e w5 ⟨rfl, hb5⟩
    have h5 := H4.out.below hb5
    obtain ⟨a0, a1, a2, a3, a4, a5, a6, a7⟩ := h5.a.all
    obtain ⟨b0, b1, b2, b3, b4, b5, b6, b7⟩ := h5.b.all
    have H5 := Lib.hid h5; clear h5
    have HB5 := Lib.hid (bel2 HB4.out hb5); clear hb5
    go_wp2_with fail
    refine (refCmp_any a b _ OA.out.host OB.out.host OA.out.name OB.out.name).mono ?_; rw [X.out]; rintro e w6 ⟨rfl, hb6⟩
    clear a0 a1 a2 a3 a4 a5 a6 a7 b0 b1 b2 b3 b4 b5 b6 b7
    have h5 := H5.out.below hb6
    obtain ⟨a0, a1, a2, a3, a4, a5, a6, a7⟩ := h5.a.all
    obtain ⟨b0, b1, b2, b3, b4, b5, b6, b7⟩ := h5.b.all
    have H6 := Lib.hid h5; clear h5
    have HB6 := Lib.hid (bel2 HB5.out hb6); clear hb6
    go_wp2_with fail
    refine (cmp_any b a _).mono ?_; rw [XN.out]; rintro e w7 ⟨rfl, hb7⟩
    clear a0 a1 a2 a3 a4 a5 a6 a7 b0 b1 b2 b3 b4 b5 b6 b7
    have h5 := H6.out.below hb7
    obtain ⟨a0, a1, a2, a3, a4, a5, a6, a7⟩ := h5.a.all
    obtain ⟨b0, b1, b2, b3, b4, b5, b6, b7⟩ := h5.b.all
    clear h5
    have HB7 := Lib.hid (bel2 HB6.out hb7); clear hb7
    go_wp2
    go_ret
    exact ⟨rfl, HB7.out⟩
  · have X := Lib.hid x1
    have XN : Hid (cmpI b a = -1) := by have h := HN.out; show cmpI b a = _; omega
    rw [x1, y1, z1]
    clear x1 y1 z1
    have hne : a ≠ b := fun e => by have := X.out; rw [e, cmpI_refl] at this; omega
    have hq : ∀ w, (binOp .eql 26 a.v b.v).run Try.prog w = .ok (.bool false) w := fun w => eql_not a b w hne
    unfold Sp.v at hq
    clear hne
    go_wp2_with fail
    refine (fixed_any _).mono ?_; rintro e w5 ⟨rfl, hb5⟩
    have h5 := H4.out.below hb5
    obtain ⟨a0, a1, a2, a3, a4, a5, a6, a7⟩ := h5.a.all
    obtain ⟨b0, b1, b2, b3, b4, b5, b6, b7⟩ := h5.b.all
    have H5 := Lib.hid h5; clear h5
    have HB5 := Lib.hid (bel2 HB4.out hb5); clear hb5
    go_wp2_with fail
    refine (refCmp_any a b _ OA.out.host OB.out.host OA.out.name OB.out.name).mono ?_; rw [X.out]; rintro e w6 ⟨rfl, hb6⟩
    clear a0 a1 a2 a3 a4 a5 a6 a7 b0 b1 b2 b3 b4 b5 b6 b7
    have h5 := H5.out.below hb6
    obtain ⟨a0, a1, a2, a3, a4, a5, a6, a7⟩ := h5.a.all
    obtain ⟨b0, b1, b2, b3, b4, b5, b6, b7⟩ := h5.b.all
    have H6 := Lib.hid h5; clear h5
    have HB6 := Lib.hid (bel2 HB5.out hb6); clear hb6
    go_wp2_with fail
    refine (cmp_any b a _).mono ?_; rw [XN.out]; rintro e w7 ⟨rfl, hb7⟩
    clear a0 a1 a2 a3 a4 a5 a6 a7 b0 b1 b2 b3 b4 b5 b6 b7
    have h5 := H6.out.below hb7
    obtain ⟨a0, a1, a2, a3, a4, a5, a6, a7⟩ := h5.a.all
    obtain ⟨b0, b1, b2, b3, b4, b5, b6, b7⟩ := h5.b.all
    clear h5
    have HB7 := Lib.hid (bel2 HB6.out hb7); clear hb7
    go_wp2
    go_ret
    exact ⟨rfl, HB7.out⟩
  · have X := Lib.hid x1
    have XN : Hid (cmpI b a = 1) := by have h := HN.out; show cmpI b a = _; omega
    rw [x1, y1, z1]
    clear x1 y1 z1
    have hne : a ≠ b := fun e => by have := X.out; rw [e, cmpI_refl] at this; omega
    have hq : ∀ w, (binOp .eql 26 a.v b.v).run Try.prog w = .ok (.bool false) w := fun w => eql_not a b w hne
    unfold Sp.v at hq
    clear hne
    go_wp2_with fail
    refine (fixed_any _).mono ?_; rintro e w5 ⟨rfl, hb5⟩
    have h5 := H4.out.below hb5
    obtain ⟨a0, a1, a2, a3, a4, a5, a6, a7⟩ := h5.a.all
    obtain ⟨b0, b1, b2, b3, b4, b5, b6, b7⟩ := h5.b.all
    have H5 := Lib.hid h5; clear h5
    have HB5 := Lib.hid (bel2 HB4.out hb5); clear hb5
    go_wp2_with fail
    refine (refCmp_any a b _ OA.out.host OB.out.host OA.out.name OB.out.name).mono ?_; rw [X.out]; rintro e w6 ⟨rfl, hb6⟩
    clear a0 a1 a2 a3 a4 a5 a6 a7 b0 b1 b2 b3 b4 b5 b6 b7
    have h5 := H5.out.below hb6
    obtain ⟨a0, a1, a2, a3, a4, a5, a6, a7⟩ := h5.a.all
    obtain ⟨b0, b1, b2, b3, b4, b5, b6, b7⟩ := h5.b.all
    have H6 := Lib.hid h5; clear h5
    have HB6 := Lib.hid (bel2 HB5.out hb6); clear hb6
    go_wp2_with fail
    refine (cmp_any b a _).mono ?_; rw [XN.out]; rintro e w7 ⟨rfl, hb7⟩
    clear a0 a1 a2 a3 a4 a5 a6 a7 b0 b1 b2 b3 b4 b5 b6 b7
    have h5 := H6.out.below hb7
    obtain ⟨a0, a1, a2, a3, a4, a5, a6, a7⟩ := h5.a.all
    obtain ⟨b0, b1, b2, b3, b4, b5, b6, b7⟩ := h5.b.all
    clear h5
    have HB7 := Lib.hid (bel2 HB6.out hb7); clear hb7
    go_wp2
    go_ret
    exact ⟨rfl, HB7.out⟩
  · have X := Lib.hid x1
    have XN : Hid (cmpI b a = -1) := by have h := HN.out; show cmpI b a = _; omega
    rw [x1, y1, z1]
    clear x1 y1 z1
    have hne : a ≠ b := fun e => by have := X.out; rw [e, cmpI_refl] at this; omega
    have hq : ∀ w, (binOp .eql 26 a.v b.v).run Try.prog w = .ok (.bool false) w := fun w => eql_not a b w hne
    unfold Sp.v at hq
    clear hne
    go_wp2_with fail
    refine (fixed_any _).mono ?_; rintro e w5 ⟨rfl, hb5⟩
    have h5 := H4.out.below hb5
    obtain ⟨a0, a1, a2, a3, a4, a5, a6, a7⟩ := h5.a.all
    obtain ⟨b0, b1, b2, b3, b4, b5, b6, b7⟩ := h5.b.all
    have H5 := Lib.hid h5; clear h5
    have HB5 := Lib.hid (bel2 HB4.out hb5); clear hb5
    go_wp2_with fail
    refine (refCmp_any a b _ OA.out.host OB.out.host OA.out.name OB.out.name).mono ?_; rw [X.out]; rintro e w6 ⟨rfl, hb6⟩
    clear a0 a1 a2 a3 a4 a5 a6 a7 b0 b1 b2 b3 b4 b5 b6 b7
    have h5 := H5.out.below hb6
    obtain ⟨a0, a1, a2, a3, a4, a5, a6, a7⟩ := h5.a.all
    obtain ⟨b0, b1, b2, b3, b4, b5, b6, b7⟩ := h5.b.all
    have H6 := Lib.hid h5; clear h5
    have HB6 := Lib.hid (bel2 HB5.out hb6); clear hb6
    go_wp2_with fail
    refine (cmp_any b a _).mono ?_; rw [XN.out]; rintro e w7 ⟨rfl, hb7⟩
    clear a0 a1 a2 a3 a4 a5 a6 a7 b0 b1 b2 b3 b4 b5 b6 b7
    have h5 := H6.out.below hb7
    obtain ⟨a0, a1, a2, a3, a4, a5, a6, a7⟩ := h5.a.all
    obtain ⟨b0, b1, b2, b3, b4, b5, b6, b7⟩ := h5.b.all
    clear h5
    have HB7 := Lib.hid (bel2 HB6.out hb7); clear hb7
    go_wp2
    go_ret
    exact ⟨rfl, HB7.out⟩
  · have X := Lib.hid x1
    have XN : Hid (cmpI b a = -1) := by have h := HN.out; show cmpI b a = _; omega
    rw [x1, y1, z1]
    clear x1 y1 z1
    have hne : a ≠ b := fun e => by have := X.out; rw [e, cmpI_refl] at this; omega
    have hq : ∀ w, (binOp .eql 26 a.v b.v).run Try.prog w = .ok (.bool false) w := fun w => eql_not a b w hne
    unfold Sp.v at hq
    clear hne
    go_wp2_with fail
    refine (fixed_any _).mono ?_; rintro e w5 ⟨rfl, hb5⟩
    have h5 := H4.out.below hb5
    obtain ⟨a0, a1, a2, a3, a4, a5, a6, a7⟩ := h5.a.all
    obtain ⟨b0, b1, b2, b3, b4, b5, b6, b7⟩ := h5.b.all
    have H5 := Lib.hid h5; clear h5
    have HB5 := Lib.hid (bel2 HB4.out hb5); clear hb5
    go_wp2_with fail
    refine (refCmp_any a b _ OA.out.host OB.out.host OA.out.name OB.out.name).mono ?_; rw [X.out]; rintro e w6 ⟨rfl, hb6⟩
    clear a0 a1 a2 a3 a4 a5 a6 a7 b0 b1 b2 b3 b4 b5 b6 b7
    have h5 := H5.out.below hb6
    obtain ⟨a0, a1, a2, a3, a4, a5, a6, a7⟩ := h5.a.all
    obtain ⟨b0, b1, b2, b3, b4, b5, b6, b7⟩ := h5.b.all
    have H6 := Lib.hid h5; clear h5
    have HB6 := Lib.hid (bel2 HB5.out hb6); clear hb6
    go_wp2_with fail
    refine (cmp_any b a _).mono ?_; rw [XN.out]; rintro e w7 ⟨rfl, hb7⟩
    clear a0 a1 a2 a3 a4 a5 a6 a7 b0 b1 b2 b3 b4 b5 b6 b7
    have h5 := H6.out.below hb7
    obtain ⟨a0, a1, a2, a3, a4, a5, a6, a7⟩ := h5.a.all
    obtain ⟨b0, b1, b2, b3, b4, b5, b6, b7⟩ := h5.b.all
    clear h5
    have HB7 := Lib.hid (bel2 HB6.out hb7); clear hb7
    go_wp2
    go_ret
    exact ⟨rfl, HB7.out⟩
  · have X := Lib.hid x1
    have XN : Hid (cmpI b a = -1) := by have h := HN.out; show cmpI b a = _; omega
    rw [x1, y1, z1]
    clear x1 y1 z1
    have hne : a ≠ b := fun e => by have := X.out; rw [e, cmpI_refl] at this; omega
    have hq : ∀ w, (binOp .eql 26 a.v b.v).run Try.prog w = .ok (.bool false) w := fun w => eql_not a b w hne
    unfold Sp.v at hq
    clear hne
    go_wp2_with fail
    refine (fixed_any _).mono ?_; rintro e w5 ⟨rfl, hb5⟩
    have h5 := H4.out.below hb5
    obtain ⟨a0, a1, a2, a3, a4, a5, a6, a7⟩ := h5.a.all
    obtain ⟨b0, b1, b2, b3, b4, b5, b6, b7⟩ := h5.b.all
    have H5 := Lib.hid h5; clear h5
    have HB5 := Lib.hid (bel2 HB4.out hb5); clear hb5
    go_wp2_with fail
    refine (refCmp_any a b _ OA.out.host OB.out.host OA.out.name OB.out.name).mono ?_; rw [X.out]; rintro e w6 ⟨rfl, hb6⟩
    clear a0 a1 a2 a3 a4 a5 a6 a7 b0 b1 b2 b3 b4 b5 b6 b7
    have h5 := H5.out.below hb6
    obtain ⟨a0, a1, a2, a3, a4, a5, a6, a7⟩ := h5.a.all
    obtain ⟨b0, b1, b2, b3, b4, b5, b6, b7⟩ := h5.b.all
    have H6 := Lib.hid h5; clear h5
    have HB6 := Lib.hid (bel2 HB5.out hb6); clear hb6
    go_wp2_with fail
    refine (cmp_any b a _).mono ?_; rw [XN.out]; rintro e w7 ⟨rfl, hb7⟩
    clear a0 a1 a2 a3 a4 a5 a6 a7 b0 b1 b2 b3 b4 b5 b6 b7
    have h5 := H6.out.below hb7
    obtain ⟨a0, a1, a2, a3, a4, a5, a6, a7⟩ := h5.a.all
    obtain ⟨b0, b1, b2, b3, b4, b5, b6, b7⟩ := h5.b.all
    clear h5
    have HB7 := Lib.hid (bel2 HB6.out hb7); clear hb7
    go_wp2
    go_ret
    exact ⟨rfl, HB7.out⟩
  · have X := Lib.hid x1
    have XN : Hid (cmpI b a = 1) := by have h := HN.out; show cmpI b a = _; omega
    rw [x1, y1, z1]
    clear x1 y1 z1
    have hne : a ≠ b := fun e => by have := X.out; rw [e, cmpI_refl] at this; omega
    have hq : ∀ w, (binOp .eql 26 a.v b.v).run Try.prog w = .ok (.bool false) w := fun w => eql_not a b w hne
    unfold Sp.v at hq
    clear hne
    go_wp2_with fail
    refine (fixed_any _).mono ?_; rintro e w5 ⟨rfl, hb5⟩
    have h5 := H4.out.below hb5
    obtain ⟨a0, a1, a2, a3, a4, a5, a6, a7⟩ := h5.a.all
    obtain ⟨b0, b1, b2, b3, b4, b5, b6, b7⟩ := h5.b.all
    have H5 := Lib.hid h5; clear h5
    have HB5 := Lib.hid (bel2 HB4.out hb5); clear hb5
    go_wp2_with fail
    refine (refCmp_any a b _ OA.out.host OB.out.host OA.out.name OB.out.name).mono ?_; rw [X.out]; rintro e w6 ⟨rfl, hb6⟩
    clear a0 a1 a2 a3 a4 a5 a6 a7 b0 b1 b2 b3 b4 b5 b6 b7
    have h5 := H5.out.below hb6
    obtain ⟨a0, a1, a2, a3, a4, a5, a6, a7⟩ := h5.a.all
    obtain ⟨b0, b1, b2, b3, b4, b5, b6, b7⟩ := h5.b.all
    have H6 := Lib.hid h5; clear h5
    have HB6 := Lib.hid (bel2 HB5.out hb6); clear hb6
    go_wp2_with fail
    refine (cmp_any b a _).mono ?_; rw [XN.out]; rintro e w7 ⟨rfl, hb7⟩
    clear a0 a1 a2 a3 a4 a5 a6 a7 b0 b1 b2 b3 b4 b5 b6 b7
    have h5 := H6.out.below hb7
    obtain ⟨a0, a1, a2, a3, a4, a5, a6, a7⟩ := h5.a.all
    obtain ⟨b0, b1, b2, b3, b4, b5, b6, b7⟩ := h5.b.all
    clear h5
    have HB7 := Lib.hid (bel2 HB6.out hb7); clear hb7
    go_wp2
    go_ret
    exact ⟨rfl, HB7.out⟩
  · have X := Lib.hid x1
    have XN : Hid (cmpI b a = 1) := by have h := HN.out; show cmpI b a = _; omega
    rw [x1, y1, z1]
    clear x1 y1 z1
    have hne : a ≠ b := fun e => by have := X.out; rw [e, cmpI_refl] at this; omega
    have hq : ∀ w, (binOp .eql 26 a.v b.v).run Try.prog w = .ok (.bool false) w := fun w => eql_not a b w hne
    unfold Sp.v at hq
    clear hne
    go_wp2_with fail
    refine (fixed_any _).mono ?_; rintro e w5 ⟨rfl, hb5⟩
    have h5 := H4.out.below hb5
    obtain ⟨a0, a1, a2, a3, a4, a5, a6, a7⟩ := h5.a.all
    obtain ⟨b0, b1, b2, b3, b4, b5, b6, b7⟩ := h5.b.all
    have H5 := Lib.hid h5; clear h5
    have HB5 := Lib.hid (bel2 HB4.out hb5); clear hb5
    go_wp2_with fail
    refine (refCmp_any a b _ OA.out.host OB.out.host OA.out.name OB.out.name).mono ?_; rw [X.out]; rintro e w6 ⟨rfl, hb6⟩
    clear a0 a1 a2 a3 a4 a5 a6 a7 b0 b1 b2 b3 b4 b5 b6 b7
    have h5 := H5.out.below hb6
    obtain ⟨a0, a1, a2, a3, a4, a5, a6, a7⟩ := h5.a.all
    obtain ⟨b0, b1, b2, b3, b4, b5, b6, b7⟩ := h5.b.all
    have H6 := Lib.hid h5; clear h5
    have HB6 := Lib.hid (bel2 HB5.out hb6); clear hb6
    go_wp2_with fail
    refine (cmp_any b a _).mono ?_; rw [XN.out]; rintro e w7 ⟨rfl, hb7⟩
    clear a0 a1 a2 a3 a4 a5 a6 a7 b0 b1 b2 b3 b4 b5 b6 b7
    have h5 := H6.out.below hb7
    obtain ⟨a0, a1, a2, a3, a4, a5, a6, a7⟩ := h5.a.all
    obtain ⟨b0, b1, b2, b3, b4, b5, b6, b7⟩ := h5.b.all
    clear h5
    have HB7 := Lib.hid (bel2 HB6.out hb7); clear hb7
    go_wp2
    go_ret
    exact ⟨rfl, HB7.out⟩
  · have X := Lib.hid x1
    have XN : Hid (cmpI b a = 1) := by have h := HN.out; show cmpI b a = _; omega
    rw [x1, y1, z1]
    clear x1 y1 z1
    have hne : a ≠ b := fun e => by have := X.out; rw [e, cmpI_refl] at this; omega
    have hq : ∀ w, (binOp .eql 26 a.v b.v).run Try.prog w = .ok (.bool false) w := fun w => eql_not a b w hne
    unfold Sp.v at hq
    clear hne
    go_wp2_with fail
    refine (fixed_any _).mono ?_; rintro e w5 ⟨rfl, hb5⟩
    have h5 := H4.out.below hb5
    obtain ⟨a0, a1, a2, a3, a4, a5, a6, a7⟩ := h5.a.all
    obtain ⟨b0, b1, b2, b3, b4, b5, b6, b7⟩ := h5.b.all
    have H5 := Lib.hid h5; clear h5
    have HB5 := Lib.hid (bel2 HB4.out hb5); clear hb5
    go_wp2_with fail
    refine (refCmp_any a b _ OA.out.host OB.out.host OA.out.name OB.out.name).mono ?_; rw [X.out]; rintro e w6 ⟨rfl, hb6⟩
    clear a0 a1 a2 a3 a4 a5 a6 a7 b0 b1 b2 b3 b4 b5 b6 b7
    have h5 := H5.out.below hb6
    obtain ⟨a0, a1, a2, a3, a4, a5, a6, a7⟩ := h5.a.all
    obtain ⟨b0, b1, b2, b3, b4, b5, b6, b7⟩ := h5.b.all
    have H6 := Lib.hid h5; clear h5
    have HB6 := Lib.hid (bel2 HB5.out hb6); clear hb6
    go_wp2_with fail
    refine (cmp_any b a _).mono ?_; rw [XN.out]; rintro e w7 ⟨rfl, hb7⟩
    clear a0 a1 a2 a3 a4 a5 a6 a7 b0 b1 b2 b3 b4 b5 b6 b7
    have h5 := H6.out.below hb7
    obtain ⟨a0, a1, a2, a3, a4, a5, a6, a7⟩ := h5.a.all
    obtain ⟨b0, b1, b2, b3, b4, b5, b6, b7⟩ := h5.b.all
    clear h5
    have HB7 := Lib.hid (bel2 HB6.out hb7); clear hb7
    go_wp2
    go_ret
    exact ⟨rfl, HB7.out⟩
end Go.Proofs.Ythdgmmippnebjaa
