import Derived.Test.YtimlhpplhaoncaaEb
namespace Go.Proofs.Ytimlhpplhaoncaa
open Go Go.RowKit Go.Sort Go.Shelf
set_option linter.unusedVariables false

/-! The laws of stage 13, over what the landed code has to pay: the example, HostsOf. -/
theorem same13_is (a b : Option Addr) (c d n : Nat) (K : List Int) (w : World) (hn : K.length = n) (ha : Rd w w.heap.size a (intV K)) (hb : Rd w w.heap.size b (intV K)) (hl : n ≤ maxLen) :
    Calls Try.prog 10 #[.slice a n c, .slice b n d] w fun e w' => e = .returned (.bool true) ∧ Below w.heap.size w w' := by
  subst hn
  have := same10_any a b c d K K w ha hb hl hl
  rwa [decide_eq_true rfl] at this
theorem Rd.cell1 {w : World} {B : Nat} {a : Option Addr} {xs : List Value} (h : Rd w B a xs) {i : Nat} {u : Value} (hu : xs[i]? = some u) : ∃ b off, a = some ⟨b, off, none⟩ ∧ b < B ∧ w.cell? ⟨b, off + i, none⟩ = some u := by
  have hi : i < xs.length := (List.getElem?_eq_some_iff.1 hu).1
  obtain ⟨b, off, ha, hb, hc⟩ := h (by omega)
  exact ⟨b, off, ha, hb, hc i u hu⟩
def hS (b : UInt8) : Sp := ⟨0, 0, 0, 0, ⟨#[b]⟩, ⟨#[]⟩, 0, 0⟩
theorem ok13 : ∀ s ∈ [hS 98, hS 97, hS 98], s.Ok := by
  intro s hs
  simp only [List.mem_cons, List.not_mem_nil, or_false] at hs
  rcases hs with rfl | rfl | rfl <;>
    (refine ⟨?_, ?_, ?_, ?_, by simp [hS]; decide, by decide, ?_, ?_⟩ <;> (first | (unfold U64; simp [hS]) | (unfold U8; simp [hS]) | (unfold I64; simp [hS])))
theorem hosts13 : hostsL [hS 98, hS 97, hS 98] = [[97], [98]] := by
  symm
  refine Once.is ⟨?_, fun x => ?_⟩
  · refine List.pairwise_cons.2 ⟨fun y hy => ?_, List.pairwise_singleton ..⟩
    rw [List.mem_singleton.1 hy]
    show lexI [97] [98] = -1
    decide +kernel
  · simp only [hS, hostT, txt, List.map_cons, List.map_nil, List.mem_cons, List.not_mem_nil, or_false]
    constructor
    · rintro (rfl | rfl)
      · exact .inr (.inl rfl)
      · exact .inl rfl
    · rintro (rfl | rfl | rfl)
      · exact .inr rfl
      · exact .inl rfl
      · exact .inr rfl
theorem num13 : numL [hS 98, hS 97, hS 98] = [1, 0, 1] := by
  unfold numL
  rw [hosts13]
  decide +kernel
set_option maxHeartbeats 2000000 in
theorem fixed13_any (hnm : NumsPay 11) (w : World) : Calls Try.prog 7 #[] w fun e w' => e = .returned (.bool true) ∧ Below w.heap.size w w' := by
  have HNM := Lib.hid hnm; clear hnm
  have hr : Rd (w.alloc (.cells ((hS 98).c ++ (hS 97).c ++ (hS 98).c) 34)) (w.alloc (.cells ((hS 98).c ++ (hS 97).c ++ (hS 98).c) 34)).heap.size (some ⟨w.heap.size, 0, none⟩) (flatL [hS 98, hS 97, hS 98]) := by
    have h := lit_rd w ((hS 98).c ++ (hS 97).c ++ (hS 98).c) 34
    have e : flatL [hS 98, hS 97, hS 98] = ((hS 98).c ++ (hS 97).c ++ (hS 98).c).toList := by simp [flatL]
    rw [e]
    exact h.more (by simp)
  have HR := Lib.hid hr; clear hr
  go_enter Try.func7, Try.ntmps7
  go_wp2_with (first
    | (go_at_call 11
       refine (HNM.out (some ⟨w.heap.size, 0, none⟩) 3 [hS 98, hS 97, hS 98] _ HR.out (by decide) ok13).mono ?_
       rw [num13]
       rintro e w1 ⟨v, rfl, hown, hb⟩
       obtain ⟨va, vc, rfl, _, _, _⟩ := own_slice hown
       have HB := Lib.hid (bel2 (box1 w (.cells ((hS 98).c ++ (hS 97).c ++ (hS 98).c) 34)) hb)
       have HO := Lib.hid hown
       clear hb hown)
    | (go_at_call 10
       refine (same13_is va (some ⟨w1.heap.size, 0, none⟩) vc 3 3 [1, 0, 1] _ rfl (((Rd.own HO.out).below (box1 _ _)).more (by simp)) ((lit_rd w1 #[.int .i64 1, .int .i64 0, .int .i64 1] 3).more (by simp)) (by decide)).mono ?_
       rintro e w2 ⟨rfl, hb2⟩))
  go_ret
  exact ⟨rfl, bel2 (bel2 HB.out (box1 _ _)) hb2⟩
theorem great13_len {L : List Sp} (h : greatB L = false) : L.length ≤ 60 := by
  rcases Nat.lt_or_ge 60 L.length with h1 | h1
  · rw [great_many h1] at h; cases h
  · exact h1
set_option maxHeartbeats 8000000 in
theorem law_hosts13 (hnm : NumsPay 11) (hgp : GroupsPay 8) (a : Option Addr) (c : Nat) (L : List Sp) (w : World) (ha : Rd w w.heap.size a (flatL L)) (hc1 : L.length ≤ maxLen) (hok : ∀ s ∈ L, s.Ok) :
    Calls Try.prog 3 #[.slice a L.length c] w fun e w' => e = .returned (.bool true) ∧ Below w.heap.size w w' := by
  have HNM := Lib.hid hnm; have HGP := Lib.hid hgp; have HA := Lib.hid ha; have HOK := Lib.hid hok; clear hnm hgp ha hok
  have hgr := great_any a c L w HA.out hc1 HOK.out
  cases hG : greatB L with
  | true =>
    rw [hG] at hgr
    have HGR := Lib.hid hgr; clear hgr hG
    go_enter Try.func3, Try.ntmps3
    go_wp2_with (first
      | (go_at_call 6; refine HGR.out.mono ?_; rintro e w1 ⟨rfl, hb1⟩; have HB1 := Lib.hid hb1; clear hb1)
      | (go_at_call 7; refine (fixed13_any HNM.out _).mono ?_; rintro e w2 ⟨rfl, hb2⟩))
    go_ret
    exact ⟨rfl, bel2 HB1.out hb2⟩
  | false =>
  rw [hG] at hgr
  have HGR := Lib.hid hgr; clear hgr
  have hL60 := great13_len hG
  clear hG
  have HNL := Lib.hid (numL_length L)
  go_enter Try.func3, Try.ntmps3
  go_wp2_with (first
    | (go_at_call 6; refine HGR.out.mono ?_; rintro e w1 ⟨rfl, hb1⟩; have HB1 := Lib.hid hb1; clear hb1)
    | (go_at_call 8
       refine (HGP.out a c L w1 ((HA.out.below HB1.out).more HB1.out.size) (by omega) HOK.out).mono ?_; rintro e w2 ⟨v2, vs2, rfl, hr2, hb2⟩
       obtain ⟨a2, c2, rfl, _, _, _⟩ := own_slice hr2.own
       have HR2 := Lib.hid hr2; have HB2 := Lib.hid (bel2 HB1.out hb2); clear hr2 hb2)
    | (go_at_call 9
       refine (refGroups_any a c L w2 ((HA.out.below HB2.out).more HB2.out.size) (by omega) HOK.out).mono ?_; rintro e w3 ⟨v3, vs3, rfl, hr3, hb3⟩
       obtain ⟨a3, c3, rfl, _, _, _⟩ := own_slice hr3.own
       have HR3 := Lib.hid hr3; have HQ3 := Lib.hid (HR2.out.below hb3); have HB3 := Lib.hid (bel2 HB2.out hb3); clear hr3 hb3)
    | (go_at_call 11
       refine (HNM.out a c L w3 ((HA.out.below HB3.out).more HB3.out.size) (by omega) HOK.out).mono ?_; rintro e w4 ⟨v4, rfl, hown4, hb4⟩
       obtain ⟨a4, c4, rfl, _, _, _⟩ := own_slice hown4
       have HR4 := Lib.hid (HR3.out.below hb4); have HQ4 := Lib.hid (HQ3.out.below hb4); have HO4 := Lib.hid hown4; have HB4 := Lib.hid (bel2 HB3.out hb4); clear hown4 hb4)
    | (go_at_call 12
       refine (refNums_any a c L w4 ((HA.out.below HB4.out).more HB4.out.size) (by omega) HOK.out).mono ?_; rintro e w5 ⟨v5, rfl, hown5, hb5⟩
       obtain ⟨a5, c5, rfl, _, _, _⟩ := own_slice hown5
       have HR5 := Lib.hid (HR4.out.below hb5); have HQ5 := Lib.hid (HQ4.out.below hb5); have HO5 := Lib.hid hown5; have HP5 := Lib.hid (own_below HO4.out hb5); have HB5 := Lib.hid (bel2 HB4.out hb5); clear hown5 hb5)
    | (go_at_call 10
       refine (same13_is a4 a5 c4 c5 L.length (numL L) w5 HNL.out (Rd.own HP5.out) (Rd.own HO5.out) (by unfold maxLen; omega)).mono ?_; rintro e w6 ⟨rfl, hb6⟩
       have HR6 := Lib.hid (HR5.out.below hb6); have HQ6 := Lib.hid (HQ5.out.below hb6); have HB6 := Lib.hid (bel2 HB5.out hb6); clear hb6))
  have hgl : (groupsL L).length ≤ 60 := by rw [groups_length]; have := hosts_length L; omega
  have HGE : Hid (∀ i (h : i < (groupsL L).length), (groupsL L)[i].length ≤ 60) := fun i h => by
    have e : (groupsL L)[i] = grpL L ((hostsL L)[i]'(by rw [groups_length] at h; exact h)) := by simp [groupsL]
    rw [e]; have := grpN_le L ((hostsL L)[i]'(by rw [groups_length] at h; exact h)) L.length
    exact Nat.le_trans this hL60
  generalize groupsL L = G at *
  go_loopw [28] (fun i wr => ∃ n : Nat, n ≤ G.length ∧ i = .int .i64 n ∧ Below w6.heap.size w6 wr) (fun i _ => G.length - (intOf i).toNat)
  case atStart => exact ⟨0, Nat.zero_le _, rfl, Below.refl _ _⟩
  case round =>
    obtain ⟨n, hn, rfl, hb⟩ := hrel
    have HB := Lib.hid hb; clear hb
    generalize wr = W at *
    by_cases hlt : n < G.length
    · have HRW := Lib.hid (HR6.out.below HB.out); have HQW := Lib.hid (HQ6.out.below HB.out)
      obtain ⟨u2, x2, y2, _⟩ := HQW.out.at_ n hlt
      obtain ⟨u3, x3, y3, _⟩ := HRW.out.at_ n hlt
      obtain ⟨p2, q2, rfl, _, _, _⟩ := own_slice y2
      obtain ⟨p3, q3, rfl, _, _, _⟩ := own_slice y3
      obtain ⟨b2, o2, e2, hb2, c2'⟩ := (Rd.own HQW.out.own).cell1 x2
      obtain ⟨b3, o3, e3, hb3, c3'⟩ := (Rd.own HRW.out.own).cell1 x3
      subst e2 e3
      have HG := Lib.hid (HGE.out n hlt)
      have HY2 := Lib.hid y2; have HY3 := Lib.hid y3; clear y2 y3 x2 x3
      generalize G[n] = g at *
      have i3 : (n : Int) < (G.length : Int) := by omega
      have i4 : (0 : Int) ≤ (n : Int) := by omega
      have hcg : ∀ d os m o, m < W.heap.size → (grow (redrawn W d) os).cell? ⟨m, o, none⟩ = W.cell? ⟨m, o, none⟩ := fun d os m o h => (below_regrown W d os).cell h
      go_wp2_with fail
      refine wp_region_quiet_below (by kernel_rfl) (by kernel_rfl) ?_
      iterate 10 (first | go_big_quiet_step ((go_at_call 10; exact Calls.regrown_of (same13_is p2 p3 q2 q3 g.length g _ rfl (((Rd.own HY2.out).below (below_regrown W _ _)).more (below_regrown W _ _).size) (((Rd.own HY3.out).below (below_regrown W _ _)).more (below_regrown W _ _).size) (by have := HG.out; unfold maxLen; omega)))) | fail)
      refine wpQuiet_nil ?_
      intro w8 hw8
      obtain ⟨⟨d, os⟩, hw8'⟩ := hw8
      have hb8 := below_regrown W d os
      rw [← hw8'] at hb8
      have HB8 := Lib.hid (bel2 HB.out hb8)
      clear hw8' hcg hb8
      go_wp2_with fail
      go_roundw
      case rel => exact ⟨n + 1, by omega, by go_num, HB8.out⟩
      case measure => simp [intOf]; omega
    · go_wp2_with (go_at_call 7; refine (fixed13_any HNM.out _).mono ?_; rintro e w9 ⟨rfl, hb9⟩)
      go_ret
      exact ⟨rfl, bel2 (bel2 HB6.out HB.out) hb9⟩
end Go.Proofs.Ytimlhpplhaoncaa

