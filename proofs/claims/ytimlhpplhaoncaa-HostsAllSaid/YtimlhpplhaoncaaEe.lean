import Derived.Test.YtimlhpplhaoncaaEd
namespace Go.Proofs.Ytimlhpplhaoncaa
open Go Go.RowKit Go.Sort Go.Shelf
set_option linter.unusedVariables false

/-! The law HostsAll. -/
theorem intV_at13 {l : List Int} {i : Nat} {x : Int} (h : l[i]? = some x) : (intV l)[i]? = some (.int .i64 x) := by simp [intV, h]
theorem intV_put13 (l : List Int) (j : Nat) (x : Int) : (intV l).set j (.int .i64 x) = intV (l.set j x) := by simp [intV, List.map_set]
theorem ltT_less {X Y : ByteArray} (h : ltT (txt X) (txt Y)) : Op.bytesLess X.toList Y.toList = true := lexS_lt h
set_option maxHeartbeats 8000000 in
set_option maxRecDepth 20000 in
theorem law_all13 (hnm : NumsPay 11) (hgp : GroupsPay 8) (a : Option Addr) (c : Nat) (L : List Sp) (w : World) (ha : Rd w w.heap.size a (flatL L)) (hc1 : L.length ≤ maxLen) (hok : ∀ s ∈ L, s.Ok) :
    Calls Try.prog 5 #[.slice a L.length c] w fun e w' => e = .returned (.bool true) ∧ Below w.heap.size w w' := by
  obtain ⟨i0, hi0, hz0, hz1, hz2⟩ := info_parts info_int13
  have HZ2 := Lib.hid hz2; clear hz2
  have HNM := Lib.hid hnm; have HGP := Lib.hid hgp; have HA := Lib.hid ha; have HOK := Lib.hid hok; clear hnm hgp ha hok
  have hgr := great_any a c L w HA.out hc1 HOK.out
  cases hG : greatB L with
  | true =>
    rw [hG] at hgr
    have HGR := Lib.hid hgr; clear hgr hG
    go_enter Try.func5, Try.ntmps5
    go_wp2_with (first
      | (go_at_call 6; refine HGR.out.mono ?_; rintro e w1 ⟨rfl, hb1⟩; have HB1 := Lib.hid hb1; clear hb1)
      | (go_at_call 7; refine (fixed13_any HNM.out _).mono ?_; rintro e w2 ⟨rfl, hb2⟩))
    go_ret
    exact ⟨rfl, bel2 HB1.out hb2⟩
  | false =>
  rw [hG] at hgr
  have HGR := Lib.hid hgr; clear hgr
  have hL60 := great13_len hG
  clear hG
  obtain ⟨N, G, H, hN, hGG, hH, hGI⟩ : ∃ N G H, N = numL L ∧ G = groupsL L ∧ H = hostsL L ∧ GroupIs N L.length H (L.map hostT) G := ⟨_, _, _, rfl, rfl, rfl, groups_are L⟩
  have HGI := Lib.hid hGI
  have hHl : H.length ≤ L.length := by rw [hH]; exact hosts_length L
  have hGl : G.length ≤ 60 := by rw [hGI.len]; omega
  have HN := Lib.hid hN; have HGG := Lib.hid hGG; have HNL : Hid (N.length = L.length) := hGI.num
  have HGH : Hid (G.length = H.length) := hGI.len
  clear hN hGG hH hGI
  go_enter Try.func5, Try.ntmps5
  go_wp2_with (first
    | (go_at_call 6; refine HGR.out.mono ?_; rintro e w1 ⟨rfl, hb1⟩; have HB1 := Lib.hid hb1; clear hb1)
    | (go_at_call 11
       refine (HNM.out a c L w1 ((HA.out.below HB1.out).more HB1.out.size) (by omega) HOK.out).mono ?_; rintro e w2 ⟨v2, rfl, hown2, hb2⟩
       rw [← HN.out] at hown2
       obtain ⟨a2, c2, rfl, _, _, _⟩ := own_slice hown2
       have HO2 := Lib.hid hown2; have HB2 := Lib.hid (bel2 HB1.out hb2); clear hown2 hb2)
    | (go_at_call 8
       refine (HGP.out a c L w2 ((HA.out.below HB2.out).more HB2.out.size) (by omega) HOK.out).mono ?_; rintro e w3 ⟨v3, vs3, rfl, hr3, hb3⟩
       rw [← HGG.out] at hr3
       obtain ⟨a3, c3, rfl, _, _, _⟩ := own_slice hr3.own
       have HR3 := Lib.hid hr3; have HO3 := Lib.hid (own_below HO2.out hb3); have HB3 := Lib.hid (bel2 HB2.out hb3); clear hr3 hb3)
    | (at_make
       refine wpList_make_full _ rfl (.tmp 25) (.tmp 25) 28 rfl w3.heap.size 3 i0 _ 1 Try.underlying28 hi0 hz0 hz1 .i64 .i64 _ _ L.length rfl rfl rfl rfl (by rw [HZ2.out]; omega) (by unfold maxLen; omega) (Nat.le_refl _) ?_
       intro w5 hown5 hg5
       have HB5 := Lib.hid ((RowKit.Below.refl w3.heap.size w3).grown hg5 (Nat.le_refl _) (by simp))
       have HO5 := Lib.hid hown5; clear hown5 hg5))
  have HM5 : Hid (w5.ownsRow w3.heap.size 3 1 (.slice (some ⟨w3.heap.size, 0, none⟩) L.length L.length) L.length (intV (List.replicate N.length 0))) := by
    have e : intV (List.replicate N.length 0) = (madeCells (Value.int .i64 0).cells (L.length * 1)).toList := by
      simp [intV, toList_madeCells_one, Value.cells, HNL.out]
    show World.ownsRow _ _ _ _ _ _ _
    rw [e]; exact HO5.out
  have HMI : Hid (MetI N (List.replicate N.length 0) 0 []) := MetI.start fun i x hx => by
    have hi := (List.getElem?_eq_some_iff.1 hx).1
    obtain ⟨k, _, hk⟩ := HGI.out.lt i (by rw [← HNL.out]; exact hi)
    rw [hk] at hx
    have := Option.some.inj hx; omega
  clear HO5
  have hA3 := Lib.hid ((HA.out.below HB3.out))
  go_loopw [29] (fun i wr => ∃ (h : Nat) (M : List Int), h ≤ G.length ∧ i = .int .i64 h ∧ MetI N M h [] ∧ wr.ownsRow w3.heap.size 3 1 (.slice (some ⟨w3.heap.size, 0, none⟩) L.length L.length) L.length (intV M) ∧ Below w3.heap.size w3 wr) (fun i _ => G.length - (intOf i).toNat)
  case atStart => exact ⟨0, _, Nat.zero_le _, rfl, HMI.out, HM5.out, HB5.out⟩
  clear HMI HM5 HB5
  case round =>
    obtain ⟨h, M, hh, rfl, hmi, hown, hb⟩ := hrel
    have HMI := Lib.hid hmi; have HO := Lib.hid hown; have HB := Lib.hid hb; clear hmi hown hb
    generalize wr = W at *
    by_cases hlt : h < G.length
    · obtain ⟨u, x1, y1, _⟩ := HR3.out.at_ h hlt
      obtain ⟨p1, q1, rfl, _, _, _⟩ := own_slice y1
      obtain ⟨b1, o1, e1, _, c1⟩ := (Rd.own (HR3.out.below HB.out).own).cell1 x1
      subst e1
      obtain ⟨g, hg⟩ : ∃ g, G[h] = g := ⟨_, rfl⟩
      rw [hg] at y1 c1
      have HY1 := Lib.hid y1; clear y1 x1
      have hgl : g.length ≤ 60 := by rw [← hg]; exact Nat.le_trans (HGI.out.le h hlt) hL60
      have HGM : Hid (∀ x : Int, x ∈ g ↔ ∃ i : Nat, i < L.length ∧ x = (i : Int) ∧ N[i]? = some (h : Int)) := by rw [← hg]; exact HGI.out.mem h hlt
      have HGP1 : Hid (g.Pairwise (· < ·)) := by rw [← hg]; exact HGI.out.once h hlt
      have hg0 : 0 < g.length := by rw [← hg]; exact HGI.out.some_ h hlt
      have HGE := Lib.hid hg
      clear hg
      have i3 : (h : Int) < (G.length : Int) := by omega
      have i4 : (0 : Int) ≤ (h : Int) := by omega
      go_wp2_with fail
      clear c1
      go_loopw [36] (fun i wr => ∃ (j : Nat) (M' : List Int), j ≤ g.length ∧ i = .int .i64 (j : Int) ∧ MetI N M' h (g.take j) ∧ wr.ownsRow w3.heap.size 3 1 (.slice (some ⟨w3.heap.size, 0, none⟩) L.length L.length) L.length (intV M') ∧ Below w3.heap.size w3 wr) (fun i _ => g.length - (intOf i).toNat)
      case atStart => exact ⟨0, M, Nat.zero_le _, rfl, HMI.out, HO.out, HB.out⟩
      clear HMI HO HB
      clear M
      case round =>
        obtain ⟨j, M, hj, rfl, hmi, hown, hb⟩ := hrel
        have HMI := Lib.hid hmi; have HO := Lib.hid hown; have HB := Lib.hid hb; clear hmi hown hb
        generalize wr = W2 at *
        by_cases hjl : j < g.length
        · obtain ⟨i, hiL, hxi, hNi⟩ := (HGM.out _).1 (List.getElem_mem hjl)
          have hno := take_less HGP1.out hjl
          rw [hxi] at hno
          have hM0 := HMI.out.zero hNi hno
          have hMS := HMI.out.step hNi
          have hTK : g.take (j + 1) = g.take j ++ [(i : Int)] := by rw [List.take_succ_eq_append_getElem hjl, hxi]
          have HMS : Hid (MetI N (M.set i 1) h (g.take (j + 1))) := by rw [hTK]; exact hMS
          clear hMS hTK hno
          obtain ⟨b2, o2, e2, _, c2⟩ := (Rd.own (own_below HY1.out HB.out)).cell1 (intV_at13 (show g[j]? = some (i : Int) by rw [List.getElem?_eq_getElem hjl, hxi]))
          obtain ⟨b3, o3, e3, _, c3⟩ := (Rd.own (own_below HO3.out HB.out)).cell1 (intV_at13 hNi)
          subst e2 e3
          have hcl := HO.out.cellAt i (by omega)
          rw [intV_at13 hM0] at hcl
          have hfr := HO.out.frozenAt i
          have hst := HO.out.stored i (.int .i64 1)
          rw [intV_put13] at hst
          have HST := Lib.hid hst.1
          have HBN := Lib.hid (HB.out.setCell (p := ⟨w3.heap.size, i, none⟩) (Nat.le_refl _) (.int .i64 1))
          clear hst hxi hM0 hNi
          have j3 : (j : Int) < (g.length : Int) := by omega
          have j4 : (0 : Int) ≤ (j : Int) := by omega
          have j5 : (i : Int) < (L.length : Int) := by omega
          have j6 : (0 : Int) ≤ (i : Int) := by omega
          have j7 : decide ((i : Int) < 0) = false := decide_eq_false (by omega)
          have j8 : decide ((L.length : Int) ≤ (i : Int)) = false := decide_eq_false (by omega)
          go_wp2_with fail
          go_roundw
          case rel => exact ⟨j + 1, _, by omega, by go_num, HMS.out, HST.out, HBN.out⟩
          case measure => simp [intOf]; omega
        · obtain rfl : j = g.length := by omega
          have HMN : Hid (MetI N M (h + 1) []) := HMI.out.next fun i hi => by
            rw [List.take_length]
            have hiL := (List.getElem?_eq_some_iff.1 hi).1
            exact (HGM.out _).2 ⟨i, by rw [← HNL.out]; exact hiL, rfl, hi⟩
          have k1 : ((g.length : Int) == 0) = false := by rw [beq_eq_false_iff_ne]; omega
          have k2 : (g.length == 0) = false := by rw [beq_eq_false_iff_ne]; omega
          have k3 : decide (g.length = 0) = false := decide_eq_false (by omega)
          have k4 : decide (g = []) = false := decide_eq_false (fun e => by rw [e] at hg0; exact absurd hg0 (Nat.lt_irrefl _))
          have k5 : g.isEmpty = false := by cases g with
            | nil => exact absurd hg0 (Nat.lt_irrefl _)
            | cons x r => rfl
          have HG2 := Lib.hid (HR3.out.below HB.out)
          by_cases h0 : h = 0
          · have d1 : decide (0 < (h : Int)) = false := decide_eq_false (by omega)
            have d2 : decide (0 < h) = false := decide_eq_false (by omega)
            clear h0
            go_wp2_with fail
            go_quiet (fail)
            go_wp2_with fail
            go_roundw
            case rel => exact ⟨h + 1, _, by omega, by go_num, HMN.out, own_below HO.out (Below_drewN (Below.refl _ _) _), Below_drewN HB.out _⟩
            case measure => simp [intOf]; omega
          · have d1 : decide (0 < (h : Int)) = true := decide_eq_true (by omega)
            have d2 : decide (0 < h) = true := decide_eq_true (by omega)
            obtain ⟨k, hk⟩ : ∃ k, h = k + 1 := ⟨h - 1, by omega⟩
            have hkG : k < G.length := by omega
            have r1 : IntKind.i64.wrap ((h : Int) - 1) = (k : Int) := by rw [show (h : Int) - 1 = (k : Int) by omega]; exact IntWalk.i64_in _ (by omega)
            obtain ⟨u0, x0, y0, _⟩ := HR3.out.at_ k hkG
            obtain ⟨p0, q0, rfl, _, _, _⟩ := own_slice y0
            obtain ⟨bh, oh, eh, _, ck⟩ := (Rd.own HG2.out.own).cell1 x0
            obtain ⟨rfl, rfl⟩ := And.intro (Addr.mk.inj (Option.some.inj eh)).1 (Addr.mk.inj (Option.some.inj eh)).2.1
            have hgk0 := HGI.out.some_ k hkG
            have hi0 : G[k][0] ∈ G[k] := List.getElem_mem hgk0
            obtain ⟨i, hiL, hix, hiN⟩ := (HGI.out.mem k hkG _).1 hi0
            have hj0 : g[0] ∈ g := List.getElem_mem hg0
            obtain ⟨j, hjL, hjx, hjN⟩ := (HGM.out _).1 hj0
            have hrise := HGI.out.rise k hkG (by omega) i j (by rw [← hix]; exact hi0) (by
              have e : G[k + 1]? = some g := by rw [← hk, List.getElem?_eq_getElem hlt, HGE.out]
              have e2 := (List.getElem?_eq_some_iff.1 e).2
              rw [e2, ← hjx]; exact hj0)
            obtain ⟨X, Y, hX, hY, hlt3⟩ := hrise
            obtain ⟨bk, ok, ek, _, cj⟩ := (Rd.own (own_below y0 HB.out)).cell1 (intV_at13 (show G[k][0]? = some (i : Int) by rw [List.getElem?_eq_getElem hgk0, hix]))
            obtain ⟨bg, og, eg, _, cg⟩ := (Rd.own (own_below HY1.out HB.out)).cell1 (intV_at13 (show g[0]? = some (j : Int) by rw [List.getElem?_eq_getElem hg0, hjx]))
            subst ek eg
            have HAW := Lib.hid (HA.out.below (HB3.out.trans (HB.out.mono HB3.out.size)))
            obtain ⟨bl, ol, el, _, _, _, _, _, l4, _, _, _⟩ := HAW.out.elem hiL
            obtain ⟨bm, om, em, _, _, _, _, _, m4, _, _, _⟩ := HAW.out.elem hjL
            subst el
            obtain ⟨rfl, rfl⟩ := And.intro (Addr.mk.inj (Option.some.inj em)).1 (Addr.mk.inj (Option.some.inj em)).2.1
            simp only [List.getElem?_map, List.getElem?_eq_getElem hiL, List.getElem?_eq_getElem hjL, Option.map_some, Option.some.injEq, hostT] at hX hY
            have hls : Op.bytesLess L[i].host.toList L[j].host.toList = true := ltT_less (by rw [hX, hY]; exact hlt3)
            simp only [Nat.add_zero] at cj cg
            have hgkl : G[k].length ≤ 60 := Nat.le_trans (HGI.out.le k hkG) hL60
            generalize G[k] = gk at *
            generalize L[i] = s at *
            generalize L[j] = t at *
            have v1 : (k : Int) < (G.length : Int) := by omega
            have v2 : (0 : Int) ≤ (k : Int) := by omega
            have v3 : (0 : Int) < (gk.length : Int) := by omega
            have v4 : (0 : Int) < (g.length : Int) := by omega
            have v5 : (i : Int) < (L.length : Int) := by omega
            have v6 : (0 : Int) ≤ (i : Int) := by omega
            have v7 : (j : Int) < (L.length : Int) := by omega
            have v8 : (0 : Int) ≤ (j : Int) := by omega
            clear h0 hk hX hY hlt3 hix hjx hiN hjN hi0 hj0 eh em
            go_wp2_with fail
            go_quiet (fail)
            go_wp2_with fail
            go_roundw
            case rel => exact ⟨h + 1, _, by omega, by go_num, HMN.out, own_below HO.out (Below_drewN (Below.refl _ _) _), Below_drewN HB.out _⟩
            case measure => simp [intOf]; omega
    · obtain rfl : h = G.length := by omega
      have HONE : Hid (∀ i, i < L.length → M[i]? = some 1) := fun i hi => by
        obtain ⟨k, hk, hN⟩ := HGI.out.lt i hi
        exact HMI.out.all hN (by rw [HGH.out]; omega)
      go_wp2_with fail
      go_loopw [94] (fun i wr => ∃ n : Nat, n ≤ L.length ∧ i = .int .i64 (n : Int) ∧ wr = W) (fun i _ => L.length - (intOf i).toNat)
      case atStart => exact ⟨0, Nat.zero_le _, rfl, rfl⟩
      case round =>
        obtain ⟨n, hn, rfl, hw⟩ := hrel
        subst hw
        by_cases hnl : n < L.length
        · have hcl := HO.out.cellAt n (by omega)
          rw [intV_at13 (HONE.out n hnl)] at hcl
          have j3 : (n : Int) < (L.length : Int) := by omega
          have j4 : (0 : Int) ≤ (n : Int) := by omega
          go_wp2_with fail
          go_roundw
          case rel => exact ⟨n + 1, by omega, by go_num, trivial⟩
          case measure => simp [intOf]; omega
        · go_wp2_with (go_at_call 7; refine (fixed13_any HNM.out _).mono ?_; rintro e w9 ⟨rfl, hb9⟩)
          go_ret
          exact ⟨rfl, bel2 (HB3.out.trans (HB.out.mono HB3.out.size)) hb9⟩
end Go.Proofs.Ytimlhpplhaoncaa

