import Derived.Test.YteaafjkgopmmdaaIc
import Derived.Test.YteaafjkgopmmdaaSg
namespace Go.Proofs.Yteaafjkgopmmdaa
open Go Go.RowKit Go.Sort
set_option linter.unusedVariables false

/-! The laws of stage 14, over what the landed code has to pay: the example; edges are the document's. -/
theorem great_len14 {L : List Sp} (h : greatB L = false) : L.length ≤ 60 := by
  rcases Nat.lt_or_ge 60 L.length with h1 | h1
  · rw [great_many h1] at h; cases h
  · exact h1
theorem own_range14 {L : List Sp} (h : L.length ≤ 100000) : ∀ x ∈ cutP (parL L), -9223372036854775808 ≤ x ∧ x < 9223372036854775808 := fun x hx => by
  have := cutP_valid (parL_valid L) x hx
  rw [cutP_length, parL_length] at this
  omega
theorem cut_len14 (L : List Sp) : (cutP (parL L)).length = L.length := by rw [cutP_length, parL_length]
def sA14 : Sp := ⟨1, 1, 0, 1, ⟨#[97]⟩, ⟨#[98]⟩, 5, 15⟩
def sB14 : Sp := ⟨1, 2, 1, 2, ⟨#[98]⟩, ⟨#[98]⟩, 8, 4⟩
theorem ok14 : ∀ s ∈ [sA14, sB14], s.Ok := by
  intro s hs
  simp only [List.mem_cons, List.not_mem_nil, or_false] at hs
  rcases hs with rfl | rfl
  · refine ⟨?_, ?_, ?_, ?_, by decide, by decide, ?_, ?_⟩ <;> (first | (unfold U64; simp [sA14]) | (unfold U8; simp [sA14]) | (unfold I64; simp [sA14]))
  · refine ⟨?_, ?_, ?_, ?_, by decide, by decide, ?_, ?_⟩ <;> (first | (unfold U64; simp [sB14]) | (unfold U8; simp [sB14]) | (unfold I64; simp [sB14]))
theorem hosts14 : hostsL [sA14, sB14] = [[97], [98]] := by
  symm
  refine Once.is ⟨?_, fun x => ?_⟩
  · refine List.pairwise_cons.2 ⟨fun y hy => ?_, List.pairwise_singleton ..⟩
    rw [List.mem_singleton.1 hy]
    show lexI [97] [98] = -1
    decide +kernel
  · simp only [sA14, sB14, hostT, txt, List.map_cons, List.map_nil, List.mem_cons, List.not_mem_nil, or_false]
theorem num14 : numL [sA14, sB14] = [0, 1] := by
  unfold numL
  rw [hosts14]
  decide +kernel
theorem edges14 : edgesL [sA14, sB14] [⟨0, 1⟩] = [⟨1, 0, 3, 0, 1, false⟩, ⟨0, 1, 8, 0, 1, true⟩] := by
  have hg : gapsL [sA14, sB14] ⟨0, 1⟩ = some (3, 8) := by kernel_rfl
  unfold edgesL edgesAt
  simp only [List.flatMap_cons, List.flatMap_nil, List.append_nil, hg, numP, num14]
  decide +kernel
set_option maxHeartbeats 8000000 in
theorem fixed14_any (hof : EdgesPay 12) (w : World) : Calls Try.prog 8 #[] w fun e w' => e = .returned (.bool true) ∧ Below w.heap.size w w' := by
  have HOF := Lib.hid hof; clear hof
  have hr : Rd (w.alloc (.cells (sA14.c ++ sB14.c) 42)) (w.alloc (.cells (sA14.c ++ sB14.c) 42)).heap.size (some ⟨w.heap.size, 0, none⟩) (flatL [sA14, sB14]) := by
    have h := lit_rd w (sA14.c ++ sB14.c) 42
    have e : flatL [sA14, sB14] = (sA14.c ++ sB14.c).toList := by simp [flatL]
    rw [e]
    exact h.more (by simp)
  have HR := Lib.hid hr; clear hr
  have HBV := Lib.hid (box1 w (.cells (sA14.c ++ sB14.c) 42))
  go_enter Try.func8, Try.ntmps8
  go_wp2_with (first
    | (go_at_call 12
       refine (HOF.out (some ⟨w.heap.size, 0, none⟩) 2 [sA14, sB14] (some ⟨w.heap.size + 1, 0, none⟩) 1 [⟨0, 1⟩] _ ((HR.out.below (box1 _ (.cells #[.int .i64 0, .int .i64 1] 35))).more (by simp)) ((lit_at (w.alloc (.cells (sA14.c ++ sB14.c) 42)) #[.int .i64 0, .int .i64 1] 35 (w.heap.size + 1) (by simp)).more (by simp)) (by decide) (by decide) ok14).mono ?_
       rw [edges14]
       rintro e w2 ⟨va, vc, rfl, ho, hb⟩
       have HB2 := Lib.hid ((HBV.out.alloc (by simp) (.cells #[.int .i64 0, .int .i64 1] 35)).trans (hb.mono (by simp; omega)))
       obtain ⟨b0, o0, e0, _, hE0⟩ := ho.edge (i := 0) (by decide)
       obtain ⟨b1, o1, e1, _, hE1⟩ := ho.edge (i := 1) (by decide)
       subst e0
       obtain ⟨rfl, rfl⟩ := And.intro (Addr.mk.inj (Option.some.inj e1)).1 (Addr.mk.inj (Option.some.inj e1)).2.1
       obtain ⟨c0, c1, c2, c3, c4, c5⟩ := hE0
       obtain ⟨d0, d1, d2, d3, d4, d5⟩ := hE1
       simp only [Nat.zero_mul, Nat.one_mul, Nat.add_zero, List.getElem_cons_zero, List.getElem_cons_succ] at c0 c1 c2 c3 c4 c5 d0 d1 d2 d3 d4 d5
       clear hb ho e1))
  go_wp2_with fail
  go_ret
  exact ⟨rfl, HB2.out⟩
set_option maxHeartbeats 8000000 in
theorem law_of14 (hof : EdgesPay 12) (a : Option Addr) (c : Nat) (L : List Sp) (b : Option Addr) (d : Nat) (P : List Pr) (w : World) (ha : Rd w w.heap.size a (flatL L)) (hb : Rd w w.heap.size b (prsV P)) (hc1 : L.length ≤ maxLen) (hc2 : P.length ≤ maxLen) (hok : ∀ s ∈ L, s.Ok) :
    Calls Try.prog 3 #[.slice a L.length c, .slice b P.length d] w fun e w' => e = .returned (.bool true) ∧ Below w.heap.size w w' := by
  have HOF := Lib.hid hof; have HA := Lib.hid ha; have HB := Lib.hid hb; have HOK := Lib.hid hok; clear hof ha hb hok
  have hgr := great_any a c L w HA.out hc1 HOK.out
  cases hG : greatB L with
  | true =>
    rw [hG] at hgr
    have HGR := Lib.hid hgr; clear hgr hG
    go_enter Try.func3, Try.ntmps3
    go_wp2_with (first
      | (go_at_call 7; refine HGR.out.mono ?_; rintro e w1 ⟨rfl, hb1⟩; have HB1 := Lib.hid hb1; clear hb1)
      | (go_at_call 8; refine (fixed14_any HOF.out _).mono ?_; rintro e w2 ⟨rfl, hb2⟩))
    go_ret
    exact ⟨rfl, bel2 HB1.out hb2⟩
  | false =>
  rw [hG] at hgr
  have HGR := Lib.hid hgr; clear hgr
  have hL60 := great_len14 hG
  clear hG
  unfold maxLen at hc2
  by_cases hg : 60 < P.length
  · have q1 : decide (60 < (P.length : Int)) = true := decide_eq_true (by omega)
    go_enter Try.func3, Try.ntmps3
    go_wp2_with (first
      | (go_at_call 7; refine HGR.out.mono ?_; rintro e w1 ⟨rfl, hb1⟩; have HB1 := Lib.hid hb1; clear hb1)
      | (go_at_call 8; refine (fixed14_any HOF.out _).mono ?_; rintro e w2 ⟨rfl, hb2⟩))
    go_ret
    exact ⟨rfl, bel2 HB1.out hb2⟩
  have q1 : decide (60 < (P.length : Int)) = false := decide_eq_false (by omega)
  obtain ⟨Q, hQ, hql, hqr⟩ : ∃ Q, Q = cutP (parL L) ∧ Q.length = L.length ∧ ∀ x ∈ Q, -9223372036854775808 ≤ x ∧ x < 9223372036854775808 := ⟨_, rfl, cut_len14 L, own_range14 (by omega)⟩
  have HQE := Lib.hid hQ; have HQL := Lib.hid hql; have HQR := Lib.hid hqr; clear hQ hql hqr
  have hp2 := pairs_le L Q
  have hp3 := edges_le L P
  have hp4 := edges_le L (pairsL L Q)
  obtain ⟨O, hO⟩ : ∃ O, pairsL L Q = O := ⟨_, rfl⟩
  have HOE := Lib.hid hO
  rw [hO] at hp2 hp4
  clear hO
  go_enter Try.func3, Try.ntmps3
  go_wp2_with (first
    | (go_at_call 7; refine HGR.out.mono ?_; rintro e w1 ⟨rfl, hb1⟩; have HB1 := Lib.hid hb1; clear hb1)
    | (go_at_call 10
       refine (refOf10_any a c L w1 ((HA.out.below HB1.out).more HB1.out.size) (by omega)).mono ?_; rintro e w2 ⟨v2, rfl, hown2, hb2⟩
       rw [← HQE.out] at hown2
       obtain ⟨a2, c2, rfl, _, _, _⟩ := own_slice hown2
       have HP2 := Lib.hid (Rd.own hown2); have HB2 := Lib.hid (bel2 HB1.out hb2); clear hown2 hb2)
    | (go_at_call 9
       have hcall := refPairs_any a c L a2 c2 Q w2 ((HA.out.below HB2.out).more HB2.out.size) HP2.out (by omega) (by rw [HQL.out]; omega) HOK.out HQR.out
       rw [HQL.out, HOE.out] at hcall
       refine hcall.mono ?_; clear hcall; rintro e w3 ⟨v3, rfl, hown3, hb3⟩
       obtain ⟨a3, c3, rfl, _, _, _⟩ := own_slice hown3
       have HO3 := Lib.hid (Rd.own hown3); have HB3 := Lib.hid (bel2 HB2.out hb3); clear hown3 hb3)
    | (go_at_call 8; refine (fixed14_any HOF.out _).mono ?_; rintro e w4 ⟨rfl, hb4⟩
       have HO4 := Lib.hid ((HO3.out.below hb4).more hb4.size); have HB4 := Lib.hid (bel2 HB3.out hb4); clear hb4)
    | (go_at_call 12
       with_reducible (show Calls Try.prog 12 #[.slice a L.length c, .slice b P.length d] w4 _)
       refine (HOF.out a c L b d P w4 ((HA.out.below HB4.out).more HB4.out.size) ((HB.out.below HB4.out).more HB4.out.size) (by omega) (by omega) HOK.out).mono ?_; rintro e w5 ⟨a5, c5, rfl, hr5, hb5⟩
       have HR5 := Lib.hid hr5; have HO5 := Lib.hid ((HO4.out.below hb5).more hb5.size); have HB5 := Lib.hid (bel2 HB4.out hb5); clear hr5 hb5)
    | (go_at_call 13
       with_reducible (show Calls Try.prog 13 #[.slice a L.length c, .slice b P.length d] w5 _)
       refine (refEdges_any a c L b d P w5 ((HA.out.below HB5.out).more HB5.out.size) ((HB.out.below HB5.out).more HB5.out.size) (by omega) (by omega) HOK.out).mono ?_; rintro e w6 ⟨a6, c6, rfl, hr6, hb6⟩
       have HR6 := Lib.hid hr6; have HQ6 := Lib.hid ((HR5.out.below hb6).more hb6.size); have HO6 := Lib.hid ((HO5.out.below hb6).more hb6.size); have HB6 := Lib.hid (bel2 HB5.out hb6); clear hr6 hb6)
    | (go_at_call 11
       with_reducible (show Calls Try.prog 11 #[.slice a5 (edgesL L P).length c5, .slice a6 (edgesL L P).length c6] w6 _)
       refine (same14_is a5 a6 c5 c6 _ (edgesL L P) w6 rfl HQ6.out HR6.out (by unfold maxLen; omega)).mono ?_; rintro e w7 ⟨rfl, hb7⟩
       have HO7 := Lib.hid ((HO6.out.below hb7).more hb7.size); have HB7 := Lib.hid (bel2 HB6.out hb7); clear hb7)
    | (go_at_call 12
       refine (HOF.out a c L a3 c3 O w7 ((HA.out.below HB7.out).more HB7.out.size) HO7.out (by omega) (by omega) HOK.out).mono ?_; rintro e w8 ⟨a8, c8, rfl, hr8, hb8⟩
       have HR8 := Lib.hid hr8; have HO8 := Lib.hid ((HO7.out.below hb8).more hb8.size); have HB8 := Lib.hid (bel2 HB7.out hb8); clear hr8 hb8)
    | (go_at_call 13
       refine (refEdges_any a c L a3 c3 O w8 ((HA.out.below HB8.out).more HB8.out.size) HO8.out (by omega) (by omega) HOK.out).mono ?_; rintro e w9 ⟨a9, c9, rfl, hr9, hb9⟩
       have HR9 := Lib.hid hr9; have HQ9 := Lib.hid ((HR8.out.below hb9).more hb9.size); have HB9 := Lib.hid (bel2 HB8.out hb9); clear hr9 hb9)
    | (go_at_call 11
       refine (same14_is a8 a9 c8 c9 _ (edgesL L O) w9 rfl HQ9.out HR9.out (by unfold maxLen; omega)).mono ?_; rintro e w10 ⟨rfl, hb10⟩
       have HB10 := Lib.hid (bel2 HB9.out hb10); clear hb10))
  go_ret
  exact ⟨rfl, HB10.out⟩
end Go.Proofs.Yteaafjkgopmmdaa

