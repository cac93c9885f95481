import Derived.Test.YthpdaimeaomnkaaDa
import Derived.Test.YthpdaimeaomnkaaOe
import Derived.Test.YthpdaimeaomnkaaGe
import Derived.Deep.DeepMust
namespace Go.Proofs.Ythpdaimeaomnkaa
open Go.Shelf Go.RowKit Go.Sort
set_option linter.unusedVariables false

theorem take_rec' {L : List Sp} {t : Int} {n : Nat} (h : n < L.length) : (L.take (n + 1)).filter (recB t) = (L.take n).filter (recB t) ++ (if recB t L[n] then [L[n]] else []) := by
  rw [List.take_succ_eq_append_getElem h, List.filter_append]
  congr 1
  simp only [List.filter_cons, List.filter_nil]
theorem any_succ {D : List Sp} {j : Nat} (h : j < D.length) (x : Int) : (D.take (j + 1)).any (fun y => y.id == x) = ((D.take j).any (fun y => y.id == x) || (D[j].id == x)) := by
  rw [List.take_succ_eq_append_getElem h, List.any_append]; simp

set_option maxHeartbeats 4000000 in
theorem refOf_any (a : Option Addr) (c : Nat) (L : List Sp) (t : Int) (w : World) (ha : Rd w w.heap.size a (flatL L)) (hl : L.length ≤ 100000) (hok : ∀ s ∈ L, s.Ok) :
    Calls Try.prog 11 #[.slice a L.length c, .int .u64 t] w fun e w' => ∃ v, e = .returned v ∧ w'.ownsRow w.heap.size 29 8 v (ofL L t).length (flatL (ofL L t)) ∧ Below w.heap.size w w' := by
  obtain ⟨i0, hi0, hz0, hz1, hz2⟩ := info_parts info_sp
  have HZ2 := Lib.hid hz2; clear hz2
  have HA := Lib.hid ha; have HOK := Lib.hid hok; clear ha hok
  go_enter Try.func11, Try.ntmps11
  go_wp2_with fail
  go_loopw [5, 6] (fun v i wr => ∃ (n : Nat) (v' : Value), n ≤ L.length ∧ i = .int .i64 n ∧ v' = v ∧ wr.ownsRow w.heap.size 29 8 v' ((L.take n).filter (recB t)).length (flatL ((L.take n).filter (recB t))) ∧ Below w.heap.size w wr) (fun _ i _ => L.length - (intOf i).toNat)
  case atStart =>
    exact ⟨0, _, Nat.zero_le _, rfl, rfl, World.ownsRow_made w #[] 0 (Nat.le_refl _) (by decide) rfl, box1 _ _⟩
  case round =>
    obtain ⟨n, v, hn, rfl, hv, hown, hb⟩ := hrel
    subst hv
    obtain ⟨va, vc, rfl, hvc1, hvc2, hvs⟩ := own_slice hown
    clear hvs
    have HO := Lib.hid hown; have HB := Lib.hid hb; clear hown hb
    generalize wr = W1 at *
    have hfl : ((L.take n).filter (recB t)).length ≤ n := Nat.le_trans (List.length_filter_le _ _) (by rw [List.length_take]; omega)
    by_cases hlt : n < L.length
    · obtain ⟨b2, o2, hb1, hB2', f0, f1, f2, f3, f4, f5, f6, f7⟩ := (HA.out.below HB.out).elem hlt
      subst hb1
      have OKs := Lib.hid (HOK.out L[n] (List.getElem_mem _))
      have HRB := Lib.hid (take_rec' (t := t) hlt)
      generalize hs : L[n] = s at *
      have HS := Lib.hid hs; clear hs
      have i3 : (n : Int) < (L.length : Int) := by omega
      have i4 : (0 : Int) ≤ (n : Int) := by omega
      obtain ⟨F, hF⟩ : ∃ F, F = (L.take n).filter (recB t) := ⟨_, rfl⟩
      rw [← hF] at HO HRB hfl hvc1
      rw [← hF]
      clear hF
      cases ht : (s.trace == t)
      · have HR : Hid ((L.take (n + 1)).filter (recB t) = F) := by show _ = _; rw [HRB.out]; simp [recB, ht]
        clear HRB
        go_wp2_with fail
        go_roundw
        case rel => exact ⟨n + 1, _, by omega, by go_num, rfl, by rw [HR.out]; exact HO.out, HB.out⟩
        case measure => simp [intOf]; omega
      · cases hm : mayB s
        · have HR : Hid ((L.take (n + 1)).filter (recB t) = F) := by show _ = _; rw [HRB.out]; simp [recB, hm]
          have HM := Lib.hid hm
          clear HRB hm
          go_wp2_with (go_at_call 12; refine (refMay_is HM.out _ OKs.out.host OKs.out.name OKs.out.kind.1).mono ?_; rintro e w2 ⟨rfl, hb2⟩)
          go_roundw
          case rel => exact ⟨n + 1, _, by omega, by go_num, rfl, by rw [HR.out]; exact own_below HO.out hb2, bel2 HB.out hb2⟩
          case measure => simp [intOf]; omega
        · have HR : Hid ((L.take (n + 1)).filter (recB t) = F ++ [s]) := by show _ = _; rw [HRB.out]; simp [recB, hm, ht]
          have HM := Lib.hid hm
          clear HRB hm
          go_wp2_with fail
          refine (refMay_is HM.out _ OKs.out.host OKs.out.name OKs.out.kind.1).mono ?_; rintro e w2 ⟨rfl, hb2⟩
          have HO2 := Lib.hid (own_below HO.out hb2); have HB2 := Lib.hid (bel2 HB.out hb2); clear hb2 f0 f1 f2 f3 f4 f5 f6 f7
          obtain ⟨b3, o3, hb1, hB3', f0, f1, f2, f3, f4, f5, f6, f7⟩ := (HA.out.below HB2.out).elem hlt
          obtain ⟨rfl, rfl⟩ : b2 = b3 ∧ o2 = o3 := by injection hb1 with h; injection h; exact ⟨by assumption, by assumption⟩
          rw [HS.out] at f0 f1 f2 f3 f4 f5 f6 f7
          go_wp2_with (at_builtin
                       refine wpList_append_rd _ rfl (.tmp 32) (.tmp 37) 22 rfl w.heap.size 29 i0 _ 8 80 Try.underlying22 hi0 hz0 hz1 HZ2.out rfl (by omega) (.slice va F.length vc) F.length _ rfl (own_below HO2.out (box1 _ _)) _ _ 1 1 (flatL [s]) rfl rfl (lit_rd w2 s.c _) (flatL_one _) (by unfold maxLen; omega) (by omega) (by have := HB2.out.size; simp; omega) ?_
                       intro v4 w4 hown4 hg4 _
                       have HO4 := Lib.hid hown4; have HG4 := Lib.hid hg4; clear hown4 hg4)
          go_roundw
          case rel => exact ⟨n + 1, _, by omega, by go_num, rfl, by rw [HR.out, List.length_append, flatL_append]; exact HO4.out, (HB2.out.alloc HB2.out.size _).grown HG4.out (by have := HB2.out.size; simp; omega) (fun g hg => (own_shape HO2.out hg).1)⟩
          case measure => simp [intOf]; omega
    · obtain rfl : n = L.length := by omega
      rw [List.take_length] at HO hfl hvc1
      rw [List.take_length]
      obtain ⟨F, hF⟩ : ∃ F, F = L.filter (recB t) := ⟨_, rfl⟩
      have HOF : Hid (ofL L t = ddL (sortL F)) := by show _ = _; rw [hF]; rfl
      have hokF : ∀ s ∈ F, s.Ok := fun s hs => HOK.out s (by rw [hF] at hs; exact (List.mem_filter.1 hs).1)
      rw [← hF] at HO hfl hvc1
      rw [← hF]
      clear hF
      have HKF := Lib.hid hokF; clear hokF
      go_wp2_with (go_at_call 22
                   refine (refSort_any va vc F W1 (Rd.own HO.out) (by omega) HKF.out).mono ?_
                   rintro e w2 ⟨v2, rfl, hown2, hb2⟩
                   have HO2 := Lib.hid (own_base hown2 HB.out.size); have HB2 := Lib.hid (bel2 HB.out hb2); clear hown2 hb2 HO HB)
      obtain ⟨S, hS⟩ : ∃ S, S = sortL F := ⟨_, rfl⟩
      have hSl : S.length = F.length := by rw [hS, sortL_length]
      have HSS : Hid (S.Pairwise fun x y => leS x y = true) := by show List.Pairwise _ _; rw [hS]; exact List.pairwise_mergeSort leS_trans leS_total _
      rw [← hS] at HO2 HOF
      clear hS HKF
      rw [← hSl] at HO2
      have hS1 : S.length ≤ 100000 := by omega
      obtain ⟨v3, hv3⟩ : ∃ v3, v3 = v2 := ⟨_, rfl⟩
      rw [← hv3] at HO2
      rw [← hv3]
      clear hv3
      obtain ⟨a3, c3, rfl, hc31, hc32, hc33⟩ := own_slice HO2.out
      clear hc33 hSl
      go_wp2_with fail
      go_loopw [7, 8] (fun v i wr => ∃ (n : Nat) (v' : Value), n ≤ S.length ∧ i = .int .i64 n ∧ v' = v ∧ wr.ownsRow w2.heap.size 29 8 v' (ddL (S.take n)).length (flatL (ddL (S.take n))) ∧ Below w2.heap.size w2 wr) (fun _ i _ => S.length - (intOf i).toNat)
      case atStart =>
        exact ⟨0, _, Nat.zero_le _, rfl, rfl, World.ownsRow_made w2 #[] 0 (Nat.le_refl _) (by decide) rfl, box1 _ _⟩
      case round =>
        obtain ⟨n, v, hn, rfl, hv, hown, hb⟩ := hrel
        subst hv
        obtain ⟨va4, vc4, rfl, hvc41, hvc42, hvs4⟩ := own_slice hown
        have HVS := Lib.hid hvs4; clear hvs4
        have HO4 := Lib.hid hown; have HB4 := Lib.hid hb; clear hown hb
        generalize wr = W4 at *
        obtain ⟨D, hD⟩ : ∃ D, D = ddL (S.take n) := ⟨_, rfl⟩
        have hDl : D.length ≤ n := by
          rw [hD]
          have h := (ddL_counts HSS.out n hn).2.length_le
          rw [List.length_take] at h; omega
        have HDD := Lib.hid hD
        rw [← hD] at HO4 hvc41
        rw [← hD] at HVS
        rw [← hD]
        clear hD
        by_cases hlt : n < S.length
        · have HDS : Hid (ddL (S.take (n + 1)) = ddStep D S[n]) := by show _ = _; rw [ddL_succ hlt, HDD.out]
          generalize hx : S[n] = x at *
          have HX := Lib.hid hx; clear hx
          have i3 : (n : Int) < (S.length : Int) := by omega
          have i4 : (0 : Int) ≤ (n : Int) := by omega
          go_wp2_with fail
          go_loopw [9, 10] (fun th k wr => ∃ j : Nat, j ≤ D.length ∧ k = .int .i64 j ∧ th = .bool ((D.take j).any (fun y => y.id == x.id)) ∧ Below W4.heap.size W4 wr) (fun _ k _ => D.length - (intOf k).toNat)
          case atStart => exact ⟨0, Nat.zero_le _, rfl, rfl, Below.refl _ _⟩
          case round =>
            obtain ⟨j, hj, rfl, rfl, hb5⟩ := hrel
            have HB5 := Lib.hid hb5; clear hb5
            generalize wr = W5 at *
            by_cases hjl : j < D.length
            · obtain ⟨b5, o5, hb6, hB6, f0, f1, f2, f3, f4, f5, f6, f7⟩ := (Rd.own (own_below HO4.out HB5.out)).elem hjl
              subst hb6
              obtain ⟨b7, o7, hb8, hB8, e0, e1, e2, e3, e4, e5, e6, e7⟩ := (((Rd.own HO2.out).below HB4.out).below (HB5.out.mono HB4.out.size)).elem hlt
              subst hb8
              rw [HX.out] at e0 e1 e2 e3 e4 e5 e6 e7
              have HAN := Lib.hid (any_succ hjl x.id)
              generalize D[j] = y at *
              have k3 : (j : Int) < (D.length : Int) := by omega
              have k4 : (0 : Int) ≤ (j : Int) := by omega
              generalize hth : (D.take j).any (fun y => y.id == x.id) = th at *
              have HTH := Lib.hid hth; clear hth
              cases hq : (y.id == x.id)
              · have HN : Hid ((D.take (j + 1)).any (fun y => y.id == x.id) = th) := by show _ = _; rw [HAN.out, hq, Bool.or_false]
                clear HAN
                go_wp2
                go_quiet (fail)
                go_wp2
                go_roundw
                case rel => exact ⟨j + 1, by omega, by go_num, by rw [HN.out], Below_drewN HB5.out _⟩
                case measure => simp [intOf]; omega
              · have HN : Hid ((D.take (j + 1)).any (fun y => y.id == x.id) = true) := by show _ = _; rw [HAN.out, hq, Bool.or_true]
                clear HAN
                go_wp2
                go_quiet (fail)
                go_wp2
                go_roundw
                case rel => exact ⟨j + 1, by omega, by go_num, by rw [HN.out], Below_drewN HB5.out _⟩
                case measure => simp [intOf]; omega
            · obtain rfl : j = D.length := by omega
              rw [List.take_length]
              have HO5 := Lib.hid (own_below HO4.out HB5.out); have HBB5 := Lib.hid (bel2 HB4.out HB5.out)
              cases hany : D.any (fun y => y.id == x.id)
              · have HST : Hid (ddL (S.take (n + 1)) = D ++ [x]) := by show _ = _; rw [HDS.out]; unfold ddStep; rw [hany]; rfl
                clear hany
                obtain ⟨b7, o7, hb8, hB8, e0, e1, e2, e3, e4, e5, e6, e7⟩ := (((Rd.own HO2.out).below HB4.out).below (HB5.out.mono HB4.out.size)).elem hlt
                subst hb8
                rw [HX.out] at e0 e1 e2 e3 e4 e5 e6 e7
                go_wp2_with (at_builtin
                             refine wpList_append_rd _ rfl (.tmp 67) (.tmp 72) 22 rfl w2.heap.size 29 i0 _ 8 80 Try.underlying22 hi0 hz0 hz1 HZ2.out rfl (by omega) (.slice va4 D.length vc4) D.length _ rfl (own_below HO5.out (box1 _ _)) _ _ 1 1 (flatL [x]) rfl rfl (lit_rd W5 x.c _) (flatL_one _) (by unfold maxLen; omega) (by omega) (by have := HBB5.out.size; simp; omega) ?_
                             intro v6 w6 hown6 hg6 _
                             have HO6 := Lib.hid hown6; have HG6 := Lib.hid hg6; clear hown6 hg6)
                go_roundw
                case rel => exact ⟨n + 1, _, by omega, by go_num, rfl, by rw [HST.out, List.length_append, flatL_append]; exact HO6.out, (HBB5.out.alloc HBB5.out.size _).grown HG6.out (by have := HBB5.out.size; simp; omega) (fun g hg => (own_shape HO5.out hg).1)⟩
                case measure => simp [intOf]; omega
              · have HST : Hid (ddL (S.take (n + 1)) = D) := by show _ = _; rw [HDS.out]; unfold ddStep; rw [hany]; rfl
                clear hany
                go_wp2_with fail
                go_roundw
                case rel => exact ⟨n + 1, _, by omega, by go_num, rfl, by rw [HST.out]; exact HO5.out, HBB5.out⟩
                case measure => simp [intOf]; omega
        · obtain rfl : n = S.length := by omega
          rw [List.take_length] at HDD
          go_wp2_with fail
          go_ret
          refine ⟨_, rfl, ?_, bel2 HB2.out HB4.out⟩
          rw [HOF.out, ← HDD.out]
          exact own_base HO4.out HB2.out.size
end Go.Proofs.Ythpdaimeaomnkaa
