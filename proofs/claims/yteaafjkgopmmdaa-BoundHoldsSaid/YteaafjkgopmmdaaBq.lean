import Derived.Test.YteaafjkgopmmdaaIc
import Derived.Test.YteaafjkgopmmdaaEh
import Derived.Test.YteaafjkgopmmdaaBn
import Derived.Test.YteaafjkgopmmdaaBo
namespace Go.Proofs.Yteaafjkgopmmdaa
open Go Go.Shelf Go.RowKit Go.Sort
set_option linter.unusedVariables false

/-! The landed code's All and Of (stage 14). -/
set_option maxHeartbeats 4000000 in
theorem all_pays14 (hp : HoldsPay 14) : AllPay 16 := by
  intro b d E a c O w hb hok hlE ha hn hl
  have hl0 := hl; unfold maxLen at hl
  have HB := Lib.hid hb; have HOK := Lib.hid hok; have HA := Lib.hid ha; have HN := Lib.hid hn; have HP := Lib.hid hp; clear hb hok ha hn hp
  go_enter Try.func16, Try.ntmps16
  go_wp2_with fail
  go_loopw [9] (fun i wr => ∃ n : Nat, n ≤ E.length ∧ i = .int .i64 n ∧ (E.take n).all (fun e => holdsL e O) = true ∧ Below w.heap.size w wr) (fun i _ => E.length - (intOf i).toNat)
  case atStart => exact ⟨0, Nat.zero_le _, rfl, by simp, Below.refl _ _⟩
  case round =>
    obtain ⟨n, hn, rfl, ht, hbw⟩ := hrel
    have HW := Lib.hid hbw; have HT := Lib.hid ht; clear hbw ht
    generalize wr = W1 at *
    by_cases hlt : n < E.length
    · obtain ⟨b1, o1, hb1, _, hE⟩ := (HB.out.below HW.out).edge hlt
      subst hb1
      have HTK := Lib.hid (all_take hlt HT.out)
      have HNO := Lib.hid (all_no (O := O) hlt)
      have OK1 := Lib.hid (HOK.out E[n] (List.getElem_mem _))
      generalize E[n] = e at *
      have i3 : (n : Int) < (E.length : Int) := by omega
      have i4 : (0 : Int) ≤ (n : Int) := by omega
      obtain ⟨c0, c1, c2, c3, c4, c5⟩ := hE
      obtain ⟨r, hr⟩ : ∃ r, holdsL e O = r := ⟨_, rfl⟩
      have HC := Lib.hid (HP.out e a c O (W1.alloc (.cells e.c 37)) OK1.out ((HA.out.below (bel2 HW.out (box1 _ _))).more (bel2 HW.out (box1 _ _)).size) HN.out hl0)
      have HBX := Lib.hid (bel2 HW.out (box1 W1 (.cells e.c 37)))
      rw [hr] at HTK HNO HC
      unfold Ed.v Ed.c at HC
      unfold Ed.c at HBX
      clear hr
      cases r with
      | true =>
        go_wp2_with (go_at_call 14
                     refine HC.out.mono ?_
                     rintro x w2 ⟨rfl, hb2⟩
                     have HW2 := Lib.hid (bel2 HBX.out hb2); clear hb2)
        go_roundw
        case rel => exact ⟨n + 1, by omega, by go_num, HTK.out, HW2.out⟩
        case measure => simp [intOf]; omega
      | false =>
        go_wp2_with (go_at_call 14
                     refine HC.out.mono ?_
                     rintro x w2 ⟨rfl, hb2⟩
                     have HW2 := Lib.hid (bel2 HBX.out hb2); clear hb2)
        go_ret
        exact ⟨ret_bool (HNO.out (by trivial)).symm, HW2.out⟩
    · obtain rfl : n = E.length := by omega
      go_wp2_with fail
      go_ret
      have HF := HT.out
      rw [List.take_length] at HF
      exact ⟨ret_bool HF.symm, HW.out⟩
theorem two_one (a b : Ed) : ∀ u ∈ (#[.int .i64 a.fr, .int .i64 a.to_, .int .i64 a.wt, .int .i64 a.pc, .int .i64 a.ps, .bool a.en, .int .i64 b.fr, .int .i64 b.to_, .int .i64 b.wt, .int .i64 b.pc, .int .i64 b.ps, .bool b.en] : Array Value).toList, u.oneCell' = true := by
  intro u hu
  have : u ∈ edV a ++ edV b := hu
  rcases List.mem_append.1 this with h | h
  · exact ed_one a u h
  · exact ed_one b u h
set_option maxHeartbeats 8000000 in
theorem of_pays14 (hn : NumsPay 21) (hgp : GapsPay 22) : EdgesPay 12 := by
  intro a c L b d ps w ha hb hl hp hok
  obtain ⟨i0, hi0, hz0, hz1, hz2⟩ := info_parts info_edge
  have HZ2 := Lib.hid hz2; clear hz2
  have HGP := Lib.hid hgp; clear hgp
  have HA := Lib.hid ha; have HB := Lib.hid hb; have HOK := Lib.hid hok
  have HNP := Lib.hid (hn a c L w ha hl hok)
  clear ha hb hok hn
  go_enter Try.func12, Try.ntmps12
  go_wp2_with fail
  refine HNP.out.mono ?_
  rintro x w1 ⟨v1, rfl, hown1, hb1⟩
  obtain ⟨an, cn, rfl, _, _, _⟩ := own_slice hown1
  have HN := Lib.hid (Rd.own hown1)
  have HB1 := Lib.hid hb1
  have HA1 := Lib.hid ((HA.out.below hb1).more hb1.size)
  have HP1 := Lib.hid ((HB.out.below hb1).more hb1.size)
  clear hown1 hb1
  go_wp2_with fail
  go_loopw [5, 18] (fun v i wr => ∃ (k : Nat) (v' : Value), k ≤ ps.length ∧ i = .int .i64 (k : Int) ∧ v' = v ∧ wr.ownsRow w1.heap.size 37 6 v' (edgesN L ps k).length (edsV (edgesN L ps k)) ∧ Below w1.heap.size w1 wr) (fun _ i _ => ps.length - (intOf i).toNat)
  case atStart => exact ⟨0, _, Nat.zero_le _, rfl, rfl, World.ownsRow_nil _ _ _ _, Below.refl _ _⟩
  case round =>
    obtain ⟨k, v, hk, rfl, hv, hown, hbw⟩ := hrel
    subst hv
    obtain ⟨va, vc, rfl, _, _, _⟩ := own_slice hown
    have HO := Lib.hid hown; have HW := Lib.hid hbw
    have hBs := hbw.size
    have hkl := edges_take_le L ps k
    clear hown hbw
    generalize wr = W2 at *
    by_cases hlt : k < ps.length
    · obtain ⟨b2, o2, hb2, _, e0, e1⟩ := (HP1.out.below HW.out).pr hlt
      subst hb2
      have HTK := Lib.hid (edges_take (L := L) hlt)
      generalize ps[k] = p at *
      obtain ⟨G0, hG0⟩ : ∃ G0, edgesN L ps k = G0 := ⟨_, rfl⟩
      obtain ⟨q, hq⟩ : ∃ q, G0.length = q := ⟨_, rfl⟩
      rw [hG0, hq] at HO
      rw [hG0] at HTK hkl ⊢
      rw [hq] at hkl ⊢
      have HQ := Lib.hid hq
      clear hG0 hq
      obtain ⟨x, y⟩ := p
      simp only at e0 e1
      have i3 : (k : Int) < (ps.length : Int) := by omega
      have i4 : (0 : Int) ≤ (k : Int) := by omega
      have h12 := HB1.out.size
      have hlN := numL_length L
      go_wp2_with fail
      have HG := Lib.hid (HGP.out a c L ⟨x, y⟩ (W2.alloc (.cells #[.int .i64 x, .int .i64 y] 35)) (((HA1.out.below HW.out).below ((box1 W2 _).mono hBs)).more (by simp; omega)) hl HOK.out)
      have q0 : (W2.alloc (.cells #[.int .i64 x, .int .i64 y] 35)).cell? ⟨W2.heap.size, 0, none⟩ = some (.int .i64 x) := by simp
      have q1 : (W2.alloc (.cells #[.int .i64 x, .int .i64 y] 35)).cell? ⟨W2.heap.size, 1, none⟩ = some (.int .i64 y) := by simp
      have HW3 : Hid (Below w1.heap.size w1 (W2.alloc (.cells #[.int .i64 x, .int .i64 y] 35))) := HW.out.alloc hBs _
      have HO3 := Lib.hid (own_below HO.out (box1 W2 (.cells #[.int .i64 x, .int .i64 y] 35)))
      have hs3 : W2.heap.size < (W2.alloc (.cells #[.int .i64 x, .int .i64 y] 35)).heap.size := by simp
      generalize W2.alloc (.cells #[.int .i64 x, .int .i64 y] 35) = W3 at *
      cases hgp : gapsL L ⟨x, y⟩ with
      | none =>
        have HE : Hid (edgesAt L ⟨x, y⟩ = []) := by show _ = _; unfold edgesAt; rw [hgp]
        rw [HE.out, List.append_nil] at HTK
        rw [hgp] at HG
        clear hgp HE
        refine HG.out.mono ?_
        rintro z w4 ⟨rfl, hb4⟩
        have HW4 := Lib.hid (HW3.out.trans (hb4.mono (by omega)))
        have HO4 := Lib.hid (own_below HO3.out hb4)
        clear hb4
        unfold gapsV
        go_wp2_with fail
        go_roundw
        case rel => exact ⟨k + 1, _, by omega, by go_num, rfl, by rw [HTK.out, HQ.out]; exact HO4.out, HW4.out⟩
        case measure => simp [intOf]; omega
      | some z =>
        obtain ⟨z1, z2⟩ := z
        obtain ⟨n, m, e2, e3, hn, hm⟩ := gaps_some_at hgp
        simp only at e2 e3
        subst e2 e3
        have HE : Hid (edgesAt L ⟨(n : Int), (m : Int)⟩ = [⟨numP L (m : Int), numP L (n : Int), z1, (n : Int), (m : Int), false⟩, ⟨numP L (n : Int), numP L (m : Int), z2, (n : Int), (m : Int), true⟩]) := by show _ = _; unfold edgesAt; rw [hgp]
        rw [HE.out] at HTK
        rw [hgp] at HG
        clear hgp HE
        refine HG.out.mono ?_
        rintro z w4 ⟨rfl, hb4⟩
        have q0 := (hb4.cell (p := ⟨W2.heap.size, 0, none⟩) hs3).trans q0
        have q1 := (hb4.cell (p := ⟨W2.heap.size, 1, none⟩) hs3).trans q1
        have HW4 := Lib.hid (HW3.out.trans (hb4.mono (by omega)))
        have HO4 := Lib.hid (own_below HO3.out hb4)
        have hs4 := hb4.size
        clear hb4
        obtain ⟨b5, o5, hb5, hlb5, d5⟩ := (HN.out.below HW4.out).num (i := n) (by rw [hlN]; exact hn)
        obtain ⟨b6, o6, hb6, _, d6⟩ := (HN.out.below HW4.out).num (i := m) (by rw [hlN]; exact hm)
        subst hb5
        obtain ⟨rfl, rfl⟩ := And.intro (Addr.mk.inj (Option.some.inj hb6)).1 (Addr.mk.inj (Option.some.inj hb6)).2.1
        rw [← numP_is (by rw [hlN]; exact hn)] at d5
        rw [← numP_is (by rw [hlN]; exact hm)] at d6
        generalize numP L (n : Int) = hn1 at *
        generalize numP L (m : Int) = hm1 at *
        unfold gapsV
        have hlw4 : W2.heap.size < w4.heap.size := by omega
        have hlb5' : b5 < w4.heap.size := by omega
        have j1 : (n : Int) < (L.length : Int) := by omega
        have j2 : (0 : Int) ≤ (n : Int) := by omega
        have j3 : (m : Int) < (L.length : Int) := by omega
        have j4 : (0 : Int) ≤ (m : Int) := by omega
        have hcg : ∀ d os m o, m < w4.heap.size → (grow (redrawn w4 d) os).cell? ⟨m, o, none⟩ = w4.cell? ⟨m, o, none⟩ := fun d os m o h => (below_regrown w4 d os).cell h
        clear hb6
        go_wp2_with fail
        refine wp_region_quiet_below (by kernel_rfl) (by kernel_rfl) ?_
        iterate 12 (first | go_big_quiet_step (fail) | fail)
        refine wpQuiet_nil ?_
        intro W5 hw5
        obtain ⟨⟨d5', os5⟩, hw5'⟩ := hw5
        have hb5 := below_regrown w4 d5' os5
        rw [← hw5'] at hb5
        have HB5 := Lib.hid hb5
        have hs5 := hb5.size
        have q0 := (hb5.cell (p := ⟨W2.heap.size, 0, none⟩) hlw4).trans q0
        have q1 := (hb5.cell (p := ⟨W2.heap.size, 1, none⟩) hlw4).trans q1
        clear hw5' hcg hb5 d5 d6
        have HO5 := Lib.hid (own_below HO4.out HB5.out)
        go_wp2_with (first
            | (at_builtin
               refine wpList_append_rd _ rfl (.tmp 41) (.tmp 52) 30 rfl w1.heap.size 37 i0 _ 6 48 Try.underlying30 hi0 hz0 hz1 HZ2.out rfl (by omega) (.slice va q vc) q _ rfl (own_below HO5.out (box1 _ _)) _ _ 2 2 (Array.toList #[.int .i64 hm1, .int .i64 hn1, .int .i64 z1, .int .i64 (n : Int), .int .i64 (m : Int), .bool false, .int .i64 hn1, .int .i64 hm1, .int .i64 z2, .int .i64 (n : Int), .int .i64 (m : Int), .bool true]) rfl rfl (lit_rd W5 #[.int .i64 hm1, .int .i64 hn1, .int .i64 z1, .int .i64 (n : Int), .int .i64 (m : Int), .bool false, .int .i64 hn1, .int .i64 hm1, .int .i64 z2, .int .i64 (n : Int), .int .i64 (m : Int), .bool true] _) (two_one ⟨hm1, hn1, z1, (n : Int), (m : Int), false⟩ ⟨hn1, hm1, z2, (n : Int), (m : Int), true⟩) (by unfold maxLen; omega) (by omega) (by simp; omega) ?_
               intro v7 w7 hown7 hg7 hat7
               have HG7 := Lib.hid ((HW4.out.trans (HB5.out.mono (by omega))).app hg7 (by omega) (fun g hg => (own_shape HO4.out hg).1))
               have HO7 := Lib.hid hown7
               clear hg7 hat7 hown7))
        go_roundw
        case rel =>
          refine ⟨k + 1, _, by omega, by go_num, rfl, ?_, HG7.out⟩
          rw [HTK.out, List.length_append, HQ.out, edsV_append]
          exact HO7.out
        case measure => simp [intOf]; omega
    · obtain rfl : k = ps.length := by omega
      rw [edgesN_all] at HO
      have HL := Lib.hid (edges_le L ps)
      go_wp2_with fail
      go_ret
      exact ⟨va, vc, by show Ending.returned (Value.slice va (edgesN L ps ps.length).length vc) = _; rw [edgesN_all], Rd.own HO.out, bel2 HB1.out HW.out⟩
end Go.Proofs.Yteaafjkgopmmdaa
