import Derived.Test.YtohbbjlkmglnmaaQg
namespace Go.Proofs.Ytohbbjlkmglnmaa
open Go Go.RowKit Go.Sort
set_option linter.unusedVariables false

/-! The laws of stage 15: RelaxLayers. -/
theorem solve_some {n : Int} {E : List Ed} {w : World} {F : Nat} {args : Array Value} {O : List Int} (h : Calls Try.prog F args w (SolveOut n E w)) (hs : solveL n E = some O) :
    Calls Try.prog F args w fun x w' => ∃ a1 c1, x = .returned (.tuple #[.slice a1 O.length c1, .bool true]) ∧ Rd w' w'.heap.size a1 (intV O) ∧ Below w.heap.size w w' := h.mono fun x w' h => by
  obtain ⟨h1, hb⟩ := h
  rcases h1 with ⟨O', a1, c1, e1, e2, e3⟩ | ⟨e1, _⟩
  · rw [hs] at e1
    obtain rfl := Option.some.inj e1
    exact ⟨a1, c1, e2, e3, hb⟩
  · rw [hs] at e1; cases e1
theorem solve_none {n : Int} {E : List Ed} {w : World} {F : Nat} {args : Array Value} (h : Calls Try.prog F args w (SolveOut n E w)) (hs : solveL n E = none) :
    Calls Try.prog F args w fun x w' => ∃ a1 c1, x = .returned (.tuple #[.slice a1 0 c1, .bool false]) ∧ Below w.heap.size w w' := h.mono fun x w' h => by
  obtain ⟨h1, hb⟩ := h
  rcases h1 with ⟨O', a1, c1, e1, _⟩ | ⟨_, a1, c1, e2⟩
  · rw [hs] at e1; cases e1
  · exact ⟨a1, c1, e2, hb⟩
def e15 : Ed := ⟨0, 1, -7, 0, 0, false⟩
theorem fixed15_solve : solveL 2 [e15] = some [0, -7] := by decide
theorem fixed15_any (hs : SolvePay 15) (w : World) : Calls Try.prog 8 #[] w fun e w' => e = .returned (.bool true) ∧ Below w.heap.size w w' := by
  have HR := Lib.hid (show Rd (w.alloc (.cells e15.c 44)) (w.alloc (.cells e15.c 44)).heap.size (some ⟨w.heap.size, 0, none⟩) (edsV [e15]) from by
    rw [edsV_single]; exact (lit_rd w e15.c 44).more (by simp))
  have HC := Lib.hid (solve_some (hs 2 (some ⟨w.heap.size, 0, none⟩) 1 [e15] _ HR.out (by simp) (fun e he => by
    obtain rfl := List.mem_singleton.1 he
    refine ⟨?_, ?_, ?_, ?_, ?_⟩ <;> (unfold I64; simp [e15])) (by unfold I64; omega)) fixed15_solve)
  unfold Ed.c e15 at HC
  clear hs HR
  go_enter Try.func8, Try.ntmps8
  go_wp2_with (go_at_call 15
               refine HC.out.mono ?_
               rintro x w1 ⟨a1, c1, rfl, hr1, hb1⟩
               have HR1 := Lib.hid hr1
               have HB1 := Lib.hid (bel2 (box1 w _) hb1); clear hb1 hr1)
  have HRW := Lib.hid (HR1.out.below (box1 w1 (.cells #[.int .i64 0, .int .i64 (-7)] 2)))
  refine (same15_any a1 (some ⟨w1.heap.size, 0, none⟩) c1 2 [0, -7] [0, -7] _ (HRW.out.more (by simp)) ((lit_rd w1 #[.int .i64 0, .int .i64 (-7)] 2).more (by simp)) (by decide) (by decide)).mono ?_
  rintro x w2 ⟨rfl, hb2⟩
  have HB2 := Lib.hid (bel2 (bel2 HB1.out (box1 w1 _)) hb2)
  clear hb2
  go_wp2_with fail
  go_ret
  exact ⟨rfl, HB2.out⟩
theorem solve_is {n : Int} {E : List Ed} {O : List Int} (h : solveL n E = some O) : mayE n E = true ∧ metL n.toNat E = true ∧ O = rowQ n.toNat E n.toNat := by
  unfold solveL at h
  split at h
  · rename_i hc
    rw [Bool.and_eq_true] at hc
    exact ⟨hc.1, hc.2, (Option.some.inj h).symm⟩
  · cases h
theorem solve_len {n : Int} {E : List Ed} {O : List Int} (h : solveL n E = some O) : O.length ≤ 32 := by
  obtain ⟨h1, _, rfl⟩ := solve_is h
  have := mayE_iff.1 h1
  rw [rowQ_length]; omega
theorem same10_self (a b : Option Addr) (c d : Nat) (K : List Int) (w : World) (ha : Rd w w.heap.size a (intV K)) (hb : Rd w w.heap.size b (intV K)) (hl : K.length ≤ maxLen) :
    Calls Try.prog 14 #[.slice a K.length c, .slice b K.length d] w fun e w' => e = .returned (.bool true) ∧ Below w.heap.size w w' :=
  (same10_any a b c d K K w ha hb hl hl).mono fun e w' h => ⟨by rw [h.1, decide_eq_true rfl], h.2⟩
theorem bys_len (n : Int) (E : List Ed) : (bysL n E).length = (laysL n E).length := by
  unfold bysL laysL; split <;> simp
theorem lays_len (n : Int) (E : List Ed) : (laysL n E).length ≤ 33 := by
  unfold laysL
  split
  · rename_i h
    have := mayE_iff.1 h
    simp; omega
  · exact Nat.zero_le _
theorem lays_small (n : Int) (E : List Ed) : ∀ g ∈ laysL n E, g.length ≤ maxLen := by
  unfold laysL
  split
  · rename_i h
    have := mayE_iff.1 h
    intro g hg
    obtain ⟨k, _, rfl⟩ := List.mem_map.1 hg
    rw [rowQ_length]; unfold maxLen; omega
  · intro g hg; cases hg
theorem bys_small (n : Int) (E : List Ed) : ∀ g ∈ bysL n E, g.length ≤ maxLen := by
  unfold bysL
  split
  · rename_i h
    have := mayE_iff.1 h
    intro g hg
    obtain ⟨k, _, rfl⟩ := List.mem_map.1 hg
    rw [byL_length]; unfold maxLen; omega
  · intro g hg; cases hg
set_option maxHeartbeats 8000000 in
theorem law_layers15 (hm : MayPay 11) (hla : LayersPay 9) (hs : SolvePay 15) (n : Int) (a : Option Addr) (c : Nat) (E : List Ed) (w : World) (ha : Rd w w.heap.size a (edsV E)) (hc1 : E.length ≤ maxLen) (hok : ∀ e ∈ E, e.Ok) (hn : I64 n) :
    Calls Try.prog 3 #[.int .i64 n, .slice a E.length c] w fun e w' => e = .returned (.bool true) ∧ Below w.heap.size w w' := by
  have HF := Lib.hid (fun w => fixed15_any hs w)
  have HM := Lib.hid hm; have HLA := Lib.hid hla; have HS := Lib.hid hs; have HA := Lib.hid ha; have HOK := Lib.hid hok; have HN := Lib.hid hn
  clear hm hla hs ha hok hn
  unfold maxLen at hc1
  by_cases hg : 100 < E.length
  · have i1 : (100 : Int) < (E.length : Int) := by omega
    go_enter Try.func3, Try.ntmps3
    go_wp2_with (go_at_call 8; refine (HF.out _).mono ?_; rintro x w1 ⟨rfl, hb1⟩; have HB1 := Lib.hid hb1; clear hb1)
    go_ret
    exact ⟨rfl, HB1.out⟩
  have i1 : ¬ (100 : Int) < (E.length : Int) := by omega
  have hl : E.length ≤ 100000 := by omega
  go_enter Try.func3, Try.ntmps3
  go_wp2_with (first
    | (go_at_call 9
       refine (HLA.out n a c E w HA.out hl HOK.out HN.out).mono ?_
       rintro x w1 ⟨a1, c1, a2, c2, rfl, hr1, hr2, hb1⟩
       have HR1 := Lib.hid hr1; have HR2 := Lib.hid hr2; have HB1 := Lib.hid hb1
       have HA1 := Lib.hid ((HA.out.below hb1).more hb1.size)
       clear hr1 hr2 hb1)
    | (go_at_call 10
       refine (refLayers_any n a c E w1 HA1.out hl HOK.out HN.out).mono ?_
       rintro x w2 ⟨a3, c3, a4, c4, rfl, hr3, hr4, hb2⟩
       have HR3 := Lib.hid hr3; have HR4 := Lib.hid hr4; have HB2 := Lib.hid hb2
       have HA2 := Lib.hid ((HA1.out.below hb2).more hb2.size)
       clear hr3 hr4 hb2)
    | (go_at_call 11
       refine (HM.out n a c E w2 HA2.out hl HOK.out HN.out).mono ?_
       rintro x w3 ⟨rfl, hb3⟩
       have HB3 := Lib.hid hb3
       have HA3 := Lib.hid ((HA2.out.below hb3).more hb3.size)
       clear hb3)
    | (go_at_call 12
       refine (refMay_any15 n a c E w3 HA3.out hl HOK.out HN.out).mono ?_
       rintro x w4 ⟨rfl, hb4⟩
       have HB4 := Lib.hid hb4
       have HA4 := Lib.hid ((HA3.out.below hb4).more hb4.size)
       clear hb4))
  have HBW := Lib.hid (bel2 (bel2 (bel2 HB1.out HB2.out) HB3.out) HB4.out)
  have hs2 := HB2.out.size
  have hs3 := HB3.out.size
  have hs4 := HB4.out.size
  have HB24 := Lib.hid (bel2 HB3.out HB4.out)
  have HB14 := Lib.hid (bel2 HB2.out HB24.out)
  have HR1' := Lib.hid ((HR1.out.below HB14.out).more (by omega : w1.heap.size ≤ w4.heap.size))
  have HR2' := Lib.hid ((HR2.out.below HB14.out).more (by omega : w1.heap.size ≤ w4.heap.size))
  have HR3' := Lib.hid ((HR3.out.below HB24.out).more (by omega : w2.heap.size ≤ w4.heap.size))
  have HR4' := Lib.hid ((HR4.out.below HB24.out).more (by omega : w2.heap.size ≤ w4.heap.size))
  have HRL := Lib.hid (lays_small n E)
  have HBL := Lib.hid (bys_small n E)
  clear HR1 HR2 HR3 HR4 HB1 HB2 HB3 HB4 HB24 HB14 HA1 HA2 HA3 hs2 hs3 hs4
  have hGL := bys_len n E
  rw [hGL]
  have HGL := Lib.hid hGL; clear hGL
  have hp33 := lays_len n E
  generalize mayE n E = r
  generalize laysL n E = G1 at *
  generalize bysL n E = G2 at *
  obtain ⟨p, hp⟩ : ∃ p, G1.length = p := ⟨_, rfl⟩
  rw [hp] at HGL hp33 ⊢
  have HP := Lib.hid hp; clear hp
  go_wp2_with fail
  go_loopw [53] (fun vi wr => ∃ k : Nat, k ≤ p ∧ vi = .int .i64 (k : Int) ∧ Below w4.heap.size w4 wr) (fun vi _ => p - (intOf vi).toNat)
  case atStart => exact ⟨0, Nat.zero_le _, rfl, Below.refl _ _⟩
  case round =>
    obtain ⟨k, hk, rfl, hb⟩ := hrel
    have HW := Lib.hid hb
    have hBs := hb.size
    clear hb
    generalize wr = W5 at *
    by_cases hlt : k < p
    · have h1 : k < G1.length := by rw [HP.out]; exact hlt
      have h2 : k < G2.length := by rw [HGL.out, ]; exact hlt
      obtain ⟨b1, o1, ha1, hl1, u1, d1, c5, hu1⟩ := (HR1'.out.below HW.out).get h1 rfl
      obtain ⟨b2, o2, ha2, hl2, u2, d2, c6, hu2⟩ := (HR2'.out.below HW.out).get h2 rfl
      obtain ⟨b3, o3, ha3, hl3, u3, d3, c7, hu3⟩ := (HR3'.out.below HW.out).get h1 rfl
      obtain ⟨b4, o4, ha4, hl4, u4, d4, c8, hu4⟩ := (HR4'.out.below HW.out).get h2 rfl
      subst ha1 ha2 ha3 ha4
      have g1 := HRL.out G1[k] (List.getElem_mem _)
      have g2 := HBL.out G2[k] (List.getElem_mem _)
      generalize G1[k] = x1 at *
      generalize G2[k] = x2 at *
      have HU1 := Lib.hid (hu1.more hBs); have HU2 := Lib.hid (hu2.more hBs); have HU3 := Lib.hid (hu3.more hBs); have HU4 := Lib.hid (hu4.more hBs)
      have j1 : b1 < W5.heap.size := by omega
      have j2 : b2 < W5.heap.size := by omega
      have j3 : b3 < W5.heap.size := by omega
      have j4 : b4 < W5.heap.size := by omega
      have j5 : (k : Int) < (p : Int) := by omega
      have j6 : (0 : Int) ≤ (k : Int) := by omega
      have hcg : ∀ d os m o, m < W5.heap.size → (grow (redrawn W5 d) os).cell? ⟨m, o, none⟩ = W5.cell? ⟨m, o, none⟩ := fun d os m o h => (below_regrown W5 d os).cell h
      clear hu1 hu2 hu3 hu4
      go_wp2_with fail
      refine wp_region_quiet_below (by kernel_rfl) (by kernel_rfl) ?_
      iterate 22 (first | go_big_quiet_step (first
        | (go_at_call 13; exact Calls.regrown_of (same15_self u1 u3 d1 d3 x1 _ ((HU1.out.below (below_regrown W5 _ _)).more (below_regrown W5 _ _).size) ((HU3.out.below (below_regrown W5 _ _)).more (below_regrown W5 _ _).size) g1))
        | (go_at_call 14; exact Calls.regrown_of (same10_self u2 u4 d2 d4 x2 _ ((HU2.out.below (below_regrown W5 _ _)).more (below_regrown W5 _ _).size) ((HU4.out.below (below_regrown W5 _ _)).more (below_regrown W5 _ _).size) g2))) | fail)
      refine wpQuiet_nil ?_
      intro W6 hw6
      obtain ⟨⟨d6, os⟩, hw6'⟩ := hw6
      have hb6 := below_regrown W5 d6 os
      rw [← hw6'] at hb6
      have HW6 := Lib.hid (bel2 HW.out hb6)
      clear hw6' hcg hb6
      go_wp2_with fail
      go_roundw
      case rel => exact ⟨k + 1, by omega, by go_num, HW6.out⟩
      case measure => simp [intOf]; omega
    · obtain rfl : p = k := by omega
      clear HR1' HR2' HR3' HR4' HRL HBL HP HGL
      have HB5 := Lib.hid (bel2 HBW.out HW.out)
      have HA5 := Lib.hid ((HA4.out.below HW.out).more HW.out.size)
      cases hso : solveL n E with
      | none =>
        go_wp2_with (first
          | (go_at_call 15
             refine (solve_none (HS.out n a c E W5 HA5.out hl HOK.out HN.out) hso).mono ?_
             rintro x w6 ⟨a5, c5, rfl, hb6⟩
             have HB6 := Lib.hid (bel2 HB5.out hb6)
             have HA6 := Lib.hid ((HA5.out.below hb6).more hb6.size)
             clear hb6)
          | (go_at_call 16
             refine (solve_none (refSolve_any n a c E w6 HA6.out hl HOK.out HN.out) hso).mono ?_
             rintro x w7 ⟨a6, c6, rfl, hb7⟩
             have HB7 := Lib.hid (bel2 HB6.out hb7)
             clear hb7)
          | (go_at_call 8; refine (HF.out _).mono ?_; rintro x w8 ⟨rfl, hb8⟩; have HB8 := Lib.hid (bel2 HB7.out hb8); clear hb8)
          | (go_at_call 13
             refine (same15_self a5 a6 c5 c6 [] w8 (Rd.nil _ _ _) (Rd.nil _ _ _) (by decide)).mono ?_
             rintro x w9 ⟨rfl, hb9⟩
             have HB9 := Lib.hid (bel2 HB8.out hb9); clear hb9))
        go_ret
        exact ⟨rfl, HB9.out⟩
      | some O =>
        have hO := solve_len hso
        go_wp2_with (first
          | (go_at_call 15
             refine (solve_some (HS.out n a c E W5 HA5.out hl HOK.out HN.out) hso).mono ?_
             rintro x w6 ⟨a5, c5, rfl, hr6, hb6⟩
             have HB6 := Lib.hid (bel2 HB5.out hb6)
             have HA6 := Lib.hid ((HA5.out.below hb6).more hb6.size)
             have HR6 := Lib.hid hr6
             clear hb6 hr6)
          | (go_at_call 16
             refine (solve_some (refSolve_any n a c E w6 HA6.out hl HOK.out HN.out) hso).mono ?_
             rintro x w7 ⟨a6, c6, rfl, hr7, hb7⟩
             have HB7 := Lib.hid (bel2 HB6.out hb7)
             have HR67 := Lib.hid ((HR6.out.below hb7).more hb7.size)
             have HR7 := Lib.hid hr7
             clear hb7 hr7)
          | (go_at_call 8; refine (HF.out _).mono ?_; rintro x w8 ⟨rfl, hb8⟩; have HB8 := Lib.hid (bel2 HB7.out hb8); have HR68 := Lib.hid ((HR67.out.below hb8).more hb8.size); have HR78 := Lib.hid ((HR7.out.below hb8).more hb8.size); clear hb8)
          | (go_at_call 13
             refine (same15_self a5 a6 c5 c6 O w8 HR68.out HR78.out (by unfold maxLen; omega)).mono ?_
             rintro x w9 ⟨rfl, hb9⟩
             have HB9 := Lib.hid (bel2 HB8.out hb9); clear hb9))
        go_ret
        exact ⟨rfl, HB9.out⟩
end Go.Proofs.Ytohbbjlkmglnmaa

