import Derived.Test.YtdeplooijjfekaaRp
namespace Go.Proofs.Ytdeplooijjfekaa
open Go Go.RowKit

set_option maxHeartbeats 4000000 in
theorem law_cuts (a : Option Addr) (c : Nat) (L : List By) (p : Nat) (w : World) (hr : Rd w w.heap.size a (flatG By.l L)) (hb : ∀ x ∈ L, ByArg w x) (_hlc : L.length ≤ c) (hc : c ≤ maxLen) (hp : p < 65536) :
    Calls Try.prog 5 #[.slice a L.length c, .int .u16 (p : Int)] w fun e w' => e = .returned (.bool true) ∧ Below w.heap.size w w' := by
  have HR := Lib.hid hr; have HB := Lib.hid hb; clear hr hb
  unfold maxLen at hc
  by_cases hlong : 20 < L.length
  · go_enter Try.func5, Try.ntmps5
    go_wp2_with (go_at_call 7; refine (fixed_any _).mono ?_; rintro e w' ⟨rfl, hb⟩)
    go_ret
    exact ⟨rfl, hb⟩
  obtain ⟨n, hn⟩ : ∃ n, n = L.length := ⟨_, rfl⟩
  have HN := Lib.hid hn
  rw [← hn] at hlong ⊢
  clear hn
  have hw : IntKind.i64.wrap (p : Int) = (p : Int) := IntWalk.i64_in _ ⟨by omega, by omega⟩
  go_enter Try.func5, Try.ntmps5
  go_wp2_with fail
  go_loop [24] (fun i => ∃ j : Nat, j ≤ n ∧ i = .int .i64 j ∧ ∀ t, (h : t < L.length) → t < j → 1 ≤ L[t].b.length ∧ L[t].b.length ≤ 300) (fun i => n - (intOf i).toNat)
  case atStart => exact ⟨0, Nat.zero_le _, rfl, fun _ _ h => absurd h (by omega)⟩
  case round =>
    obtain ⟨j, hj, rfl, hall⟩ := hrel
    have HALL := Lib.hid hall; clear hall
    by_cases hlt : j < n
    · have hjl : j < L.length := by rw [← HN.out]; exact hlt
      obtain ⟨b, off, rfl, _, hxc⟩ := By_elem HR.out hjl
      obtain ⟨x, hx⟩ : ∃ x, L[j] = x := ⟨_, rfl⟩
      rw [hx] at hxc
      have HX := Lib.hid hx
      obtain ⟨nb, hnb⟩ : ∃ nb, nb = x.b.length := ⟨_, rfl⟩
      rw [← hnb] at hxc
      have HNB := Lib.hid hnb
      have HLT := Lib.hid hlt
      have hnbm : nb ≤ 9223372036854775807 := by
        have hx2 := HB.out x (by rw [← hx]; exact List.getElem_mem _)
        have := hx2.2.1; have := hx2.2.2; unfold maxLen at this; omega
      clear hx hnb hlt
      by_cases h1 : nb = 0
      · subst h1
        go_wp2_with (go_at_call 7; refine (fixed_any _).mono ?_; rintro e w' ⟨rfl, hb⟩)
        go_ret
        exact ⟨rfl, hb⟩
      by_cases h2 : 300 < nb
      · have z1 : ¬ ((nb : Int) < 1) := by omega
        go_wp2_with (go_at_call 7; refine (fixed_any _).mono ?_; rintro e w' ⟨rfl, hb⟩)
        go_ret
        exact ⟨rfl, hb⟩
      · have z1 : ¬ ((nb : Int) < 1) := by omega
        have z2 : ¬ ((300 : Int) < (nb : Int)) := by omega
        go_wp2_with fail
        go_round
        case rel =>
          refine ⟨j + 1, HLT.out, by go_num, fun t h ht => ?_⟩
          rcases Nat.lt_or_ge t j with h3 | h3
          · exact HALL.out t h h3
          · obtain rfl : t = j := by omega
            rw [HX.out, ← HNB.out]; omega
        case measure => have := HLT.out; simp [intOf]; omega
    · have : j = n := by omega
      subst this
      clear hj hlt
      have H3 : Hid (∀ x ∈ L, 1 ≤ x.b.length ∧ x.b.length ≤ 300) := fun x hx => by
        obtain ⟨t, ht, rfl⟩ := List.mem_iff_getElem.1 hx
        exact HALL.out t ht (by rw [HN.out]; exact ht)
      have hn20 : L.length ≤ 20 := by have := HN.out; omega
      have HL20 := Lib.hid hn20
      clear hn20
      obtain ⟨T, hT⟩ : ∃ T, T = L.map By.b := ⟨_, rfl⟩
      have HT := Lib.hid hT
      have HTL : Hid (T.length = j) := by show _ = _; rw [hT, List.length_map]; exact HN.out.symm
      obtain ⟨C, hC⟩ : ∃ C, C = catF T := ⟨_, rfl⟩
      have HC := Lib.hid hC
      obtain ⟨M, hM⟩ : ∃ M, M = C.length := ⟨_, rfl⟩
      have HM := Lib.hid hM
      have hMl : M ≤ 6120 := by
        rw [hM, hC, ← eL_all]
        have h := eL_le T (fun b hb => by rw [hT] at hb; obtain ⟨x, hx, rfl⟩ := List.mem_map.1 hb; exact (H3.out x hx).2) T.length (Nat.le_refl _)
        have h2 := HTL.out
        have h3 := HL20.out
        have h4 := HN.out
        omega
      clear hT hC hM
      go_wp2_with fail
      refine (laid_any a j c L w HN.out HR.out HB.out H3.out HL20.out).mono ?_; rintro e w1 ⟨vb, ve, rfl, ho1, ho2, hb1⟩
      rw [← HT.out, ← HC.out, ← HM.out] at ho1
      rw [← HT.out, HTL.out] at ho2
      obtain ⟨ba, bc, rfl, hbc, hbcm, _⟩ := own_slice ho1
      obtain ⟨ea, ec, rfl, _, _, _⟩ := own_slice ho2
      have HO1 := Lib.hid ho1; have HO2 := Lib.hid ho2; have HB1 := Lib.hid hb1
      have HBCM := Lib.hid hbcm
      obtain ⟨K, hK⟩ : ∃ K, K = min p M := ⟨_, rfl⟩
      have hKM : K ≤ M := by omega
      have HKM := Lib.hid hKM
      have hcase : ((p : Int) ≤ (M : Int) ∧ (p : Int) = (K : Int)) ∨ (¬ (p : Int) ≤ (M : Int) ∧ (M : Int) < (p : Int) ∧ (M : Int) = (K : Int)) := by omega
      clear ho1 ho2 hb1 hK hbcm
      rcases hcase with ⟨hc1, hc2⟩ | ⟨hc1, hc3, hc2⟩
      all_goals
        go_wp2_with fail
        go_loopw [11, 12, 53] (fun wv pv i wr => ∃ t W : Nat, t ≤ j ∧ i = .int .i64 t ∧ wv = .int .i64 W ∧ pv = .int .i64 (eL T W : Nat) ∧ Whole T K t W ∧ wr = w1) (fun _ _ i _ => j - (intOf i).toNat)
        case atStart => exact ⟨0, 0, Nat.zero_le _, rfl, rfl, rfl, Whole.start _ _, rfl⟩
        case round =>
          obtain ⟨t, W, ht, rfl, rfl, rfl, hwh, rfl⟩ := hrel
          have HWH := Lib.hid hwh
          have hWt : W ≤ t := hwh.1
          clear hwh
          by_cases htl : t < j
          · obtain ⟨EE, hEE⟩ : ∃ EE, EE = eL T (t + 1) := ⟨_, rfl⟩
            have htT : t < T.length := by rw [HTL.out]; exact htl
            have ho2 : wr.ownsRow w.heap.size 3 1 (.slice ea j ec) j (iV (endsL T j)) := HO2.out
            have hcv : (iV (endsL T j))[t]? = some (.int .i64 (EE : Int)) := by
              rw [hEE]; unfold iV endsL; rw [List.map_map, List.getElem?_map, List.getElem?_range htl]; rfl
            obtain ⟨eb, eo, rfl, _, hcc⟩ := (Rd.own ho2) (by rw [iV, List.length_map, endsL_length]; omega)
            have hcell := hcc t _ hcv
            have HEE := Lib.hid hEE
            have HTL' := Lib.hid htl
            have hEl : EE ≤ 6500 := by
              rw [hEE]
              have h := eL_le T (fun b hb => by rw [HT.out] at hb; obtain ⟨x, hx, rfl⟩ := List.mem_map.1 hb; exact (H3.out x hx).2) (t + 1) (by omega)
              have h3 := HL20.out
              have h4 := HN.out
              omega
            clear hcc hcv ho2 hEE
            by_cases hle : EE ≤ K
            · obtain ⟨hWt', hnx⟩ := HWH.out.yes htT (by rw [← HEE.out]; exact hle)
              have HNX := Lib.hid hnx
              have HWT := Lib.hid hWt'
              clear hnx hWt'
              go_wp2_with fail
              go_roundw
              case rel => exact ⟨t + 1, t + 1, HTL'.out, by go_num, by rw [HWT.out]; go_num, by rw [HEE.out], HNX.out, by first | rfl | trivial⟩
              case measure => have := HTL'.out; simp [intOf]; omega
            · have HNX := Lib.hid (HWH.out.no (by rw [← HEE.out]; omega))
              go_wp2_with fail
              go_roundw
              case rel => exact ⟨t + 1, W, HTL'.out, by go_num, rfl, rfl, HNX.out, by first | rfl | trivial⟩
              case measure => have := HTL'.out; simp [intOf]; omega
          · have : t = j := by omega
            subst this
            have hKb : K ≤ bc := by omega
            have HAL : Hid (allF (C.take K) 99 0 = T.take W) := by
              show _ = _
              rw [HC.out]
              refine allF_cut (fun b hb => ?_) (by rw [← HC.out, ← HM.out]; exact HKM.out) (by have := HTL.out; have := HL20.out; have := HN.out; omega) (by rw [HTL.out]; exact HWH.out)
              rw [HT.out] at hb; obtain ⟨x, hx, rfl⟩ := List.mem_map.1 hb; exact mayF_iff.2 (by have := H3.out x hx; omega)
            clear htl ht
            go_wp2_with fail
            have HKL : Hid (K = (C.take K).length) := by show _ = _; rw [List.length_take, ← HM.out]; omega
            have HCK : Hid ((C.take K).length ≤ bc ∧ (C.take K).length ≤ 1000000000000) := by
              have := HKL.out
              refine ⟨?_, ?_⟩ <;> omega
            have HRC : Hid (Rd wr wr.heap.size ba (bV (C.take K))) := by show Rd _ _ _ _; rw [bV_take]; exact (Rd.own HO1.out).take K
            refine (allF_any ba K bc (C.take K) 0 99 wr HKL.out HCK.out.1 HBCM.out HCK.out.2 (by omega) HRC.out).mono ?_; rintro e w3 ⟨v3, xs, rfl, hall, ho3, hbod, hb3⟩
            have hall2 : T.take W = xs.map Bod.b := by rw [← HAL.out]; exact hall
            have hxl : xs.length = W := by
              have := congrArg List.length hall2
              rw [List.length_take, List.length_map, HTL.out] at this
              have := HWH.out.1; omega
            have hen : endF 0 (xs.map Bod.b) = (eL T W : Int) := by rw [← hall2]; exact endF_take T W (by rw [HTL.out]; exact HWH.out.1)
            rw [hen]
            rw [hxl] at ho3
            obtain ⟨va, vc, rfl, _, _, _⟩ := own_slice ho3
            have HXL := Lib.hid hxl; have HA2 := Lib.hid hall2
            have HO3 := Lib.hid ho3; have HBD := Lib.hid hbod
            have HB3 := Lib.hid (bel2 HB1.out hb3)
            have HS3 : Hid (w.heap.size ≤ wr.heap.size) := HB1.out.size
            clear hall hall2 ho3 hbod hb3 hxl hen
            go_wp2_with fail
            go_loopw [82] (fun i wr => ∃ q : Nat, q ≤ W ∧ i = .int .i64 q ∧ Below w3.heap.size w3 wr) (fun i _ => W - (intOf i).toNat)
            case atStart => exact ⟨0, Nat.zero_le _, rfl, Below.refl _ _⟩
            case round =>
              obtain ⟨q, hq, rfl, hbq⟩ := hrel
              by_cases hql : q < W
              · have hqx : q < xs.length := by rw [HXL.out]; exact hql
                have hqL : q < L.length := by have := HWH.out.1; have := HN.out; omega
                obtain ⟨x, hx⟩ : ∃ x, xs[q] = x := ⟨_, rfl⟩
                obtain ⟨y, hy⟩ : ∃ y, L[q] = y := ⟨_, rfl⟩
                have hxm : x ∈ xs := by rw [← hx]; exact List.getElem_mem _
                have hym : y ∈ L := by rw [← hy]; exact List.getElem_mem _
                have hxy : x.b = y.b := by
                  have h1 : (xs.map Bod.b)[q]? = some x.b := by rw [List.getElem?_map, List.getElem?_eq_getElem hqx, hx]; rfl
                  rw [← HA2.out, List.getElem?_take_of_lt hql, HT.out, List.getElem?_map, List.getElem?_eq_getElem hqL, hy] at h1
                  injection h1 with h1; exact h1.symm
                have hbx : w3.ownsRow _ 5 1 x.v x.b.length (bV x.b) := HBD.out x hxm
                obtain ⟨xa, xc, hv, _, _, _⟩ := own_slice hbx
                obtain ⟨b1, o1, rfl, hb1', hc1'⟩ := (Rd.own HO3.out) (by rw [List.length_map]; omega)
                obtain ⟨b2, o2, rfl, hb2', hc2'⟩ := By_elem HR.out hqL
                have q1 : wr.cell? ⟨b1, o1 + q, none⟩ = some (.slice xa x.b.length xc) := by
                  rw [hbq.cell (p := ⟨b1, o1 + q, none⟩) hb1', ← hv]; exact hc1' q _ (by rw [List.getElem?_map, List.getElem?_eq_getElem hqx, hx]; rfl)
                have hB3q : Below w.heap.size w wr := bel2 HB3.out hbq
                have q2 : wr.cell? ⟨b2, o2 + q, none⟩ = some (.slice y.a x.b.length y.c) := by
                  rw [hB3q.cell (p := ⟨b2, o2 + q, none⟩) hb2', hc2', hy, hxy]
                rw [hv] at hbx
                have hrd := ((Rd.own hbx).below hbq).more hbq.size
                have hrd2 : Rd wr wr.heap.size y.a (bV x.b) := by rw [hxy]; exact ((HB.out y hym).1.below hB3q).more hB3q.size
                have cv := run_string_of (w := wr) (l := x.b) x.b.length xc hrd rfl
                have cv2 := run_string_of (w := wr.drew) (l := x.b) x.b.length xc (hrd.below (Below_drew (Below.refl wr.heap.size wr))) rfl
                have cv3 := run_string_of (w := wr) (l := x.b) x.b.length y.c hrd2 rfl
                have cv4 := run_string_of (w := wr.drew) (l := x.b) x.b.length y.c (hrd2.below (Below_drew (Below.refl wr.heap.size wr))) rfl
                have HBQ := Lib.hid (Below_drew hbq)
                have HQL := Lib.hid hql
                have hW20 : W ≤ 20 := by have := HWH.out.1; have := HN.out; have := HL20.out; omega
                clear hc1' hc2' hbx hv hrd hrd2 hx hy hxm hym hxy hbq hB3q
                go_wp2_with fail
                go_region
                clear cv cv2 cv3 cv4 q1 q2
                go_wp2_with fail
                go_roundw
                case rel => exact ⟨q + 1, HQL.out, by go_num, HBQ.out⟩
                case measure => have := HQL.out; simp [intOf]; omega
              · have : q = W := by omega
                subst this
                have HBQ : Hid (Below w.heap.size w wr) := bel2 HB3.out hbq
                clear hql hq
                go_wp2_with fail
                refine (fixed_any _).mono ?_; rintro e w6 ⟨rfl, hb6⟩
                have HB6 := Lib.hid (bel2 HBQ.out hb6)
                clear hb6
                go_wp2_with fail
                go_ret
                exact ⟨rfl, HB6.out⟩
end Go.Proofs.Ytdeplooijjfekaa
