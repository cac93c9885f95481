import Derived.Test.YteaafjkgopmmdaaIe
namespace Go.Proofs.Yteaafjkgopmmdaa
open Go Go.RowKit Go.Sort
set_option linter.unusedVariables false

/-! One number added to all offsets (stage 14). -/
def movL (O : List Int) (y : Int) : List Int := O.map (· + y)
theorem movL_length (O : List Int) (y : Int) : (movL O y).length = O.length := by simp [movL]
theorem numAt_mov (O : List Int) (y x : Int) : numAt (movL O y) x = (numAt O x).map (· + y) := by
  unfold numAt movL
  split <;> simp
theorem holds_mov (e : Ed) (O : List Int) (y : Int) : holdsL e (movL O y) = holdsL e O := by
  unfold holdsL
  rw [numAt_mov, numAt_mov]
  cases numAt O e.fr with
  | none => rfl
  | some a =>
    cases numAt O e.to_ with
    | none => rfl
    | some b =>
      show decide (b + y ≤ a + y + e.wt) = decide (b ≤ a + e.wt)
      rw [Bool.eq_iff_iff, decide_eq_true_iff, decide_eq_true_iff]
      omega
theorem all_mov (E : List Ed) (O : List Int) (y : Int) : allL E (movL O y) = allL E O := by
  unfold allL
  simp only [holds_mov]
theorem mov_take {O : List Int} {y : Int} {n : Nat} (h : n < O.length) : intV (movL (O.take (n + 1)) y) = intV (movL (O.take n) y) ++ [.int .i64 (O[n] + y)] := by
  unfold movL intV
  rw [List.take_succ_eq_append_getElem h, List.map_append, List.map_append]; rfl
theorem info_i6414 : (Try.prog.info? 2).map (fun i => (i.zero, i.size, i.bytes)) = some (some (.int .i64 0), 1, 8) := by kernel_rfl
theorem wrap_small {x : Int} (h : -9223372036854775808 ≤ x ∧ x < 9223372036854775808) : IntKind.i64.wrap x = x := by
  rw [wrap64]; split <;> omega
set_option maxHeartbeats 16000000 in
theorem law_moved14 (hof : EdgesPay 12) (hho : HoldsPay 14) (hal : AllPay 16) (b : Option Addr) (d : Nat) (E : List Ed) (a : Option Addr) (c : Nat) (O : List Int) (y : Int) (w : World) (hb : Rd w w.heap.size b (edsV E)) (hok : ∀ e ∈ E, e.Ok) (hc1 : E.length ≤ maxLen) (ha : Rd w w.heap.size a (intV O)) (hn : Nums O) (hc2 : O.length ≤ maxLen) (hy : -2147483648 ≤ y ∧ y < 2147483648) :
    Calls Try.prog 6 #[.slice b E.length d, .slice a O.length c, .int .i32 y] w fun e w' => e = .returned (.bool true) ∧ Below w.heap.size w w' := by
  obtain ⟨i0, hi0, hz0, hz1, hz2⟩ := info_parts info_i6414
  have HZ2 := Lib.hid hz2; clear hz2
  have HOF := Lib.hid hof; have HHO := Lib.hid hho; have HAL := Lib.hid hal; have HA := Lib.hid ha; have HB := Lib.hid hb; have HOK := Lib.hid hok; have HN := Lib.hid hn; have HY := Lib.hid hy; clear hof hho hal ha hb hok hn
  unfold maxLen at hc1 hc2
  obtain ⟨z, hwy, hzy⟩ : ∃ z, IntKind.i64.wrap y = z ∧ z = y := ⟨y, wrap_small (by omega), rfl⟩
  have HZY := Lib.hid hzy
  clear hy hzy
  by_cases hg : 100 < E.length
  · have q1 : decide (100 < (E.length : Int)) = true := decide_eq_true (by omega)
    go_enter Try.func6, Try.ntmps6
    go_wp2_with (go_at_call 8; refine (fixed14_any HOF.out _).mono ?_; rintro e w2 ⟨rfl, hb2⟩)
    go_ret
    exact ⟨rfl, hb2⟩
  have q1 : decide (100 < (E.length : Int)) = false := decide_eq_false (by omega)
  by_cases hg2 : 100 < O.length
  · have q2 : decide (100 < (O.length : Int)) = true := decide_eq_true (by omega)
    go_enter Try.func6, Try.ntmps6
    go_wp2_with (go_at_call 8; refine (fixed14_any HOF.out _).mono ?_; rintro e w2 ⟨rfl, hb2⟩)
    go_ret
    exact ⟨rfl, hb2⟩
  have q2 : decide (100 < (O.length : Int)) = false := decide_eq_false (by omega)
  go_enter Try.func6, Try.ntmps6
  go_wp2_with fail
  go_loopw [7, 23] (fun v i wr => ∃ (n : Nat) (v' : Value), n ≤ O.length ∧ i = .int .i64 n ∧ v' = v ∧ wr.ownsRow w.heap.size 2 1 v' n (intV (movL (O.take n) y)) ∧ Nums (movL (O.take n) y) ∧ Below w.heap.size w wr) (fun _ i _ => O.length - (intOf i).toNat)
  case atStart => exact ⟨0, _, Nat.zero_le _, rfl, rfl, World.ownsRow_nil _ _ _ _, by intro x hx; simp [movL] at hx, Below.refl _ _⟩
  case round =>
    obtain ⟨n, v, hn, rfl, hv, hown, hnm, hbw⟩ := hrel
    subst hv
    have HO := Lib.hid hown; have HW := Lib.hid hbw; have HNM := Lib.hid hnm; clear hown hbw hnm
    obtain ⟨va, vc, rfl, _, _, _⟩ := own_slice HO.out
    generalize wr = W1 at *
    by_cases hlt : n < O.length
    · obtain ⟨b1, o1, ha2, _, e0⟩ := (HA.out.below HW.out).num hlt
      subst ha2
      have HTK := Lib.hid (mov_take (y := y) hlt)
      have HSN : Hid (∀ x, I64 x → x = O[n] + y → Nums (movL (O.take (n + 1)) y)) := by
        intro x hx e z hz
        have hz' : z ∈ movL (O.take n ++ [O[n]]) y := by rw [← List.take_succ_eq_append_getElem hlt]; exact hz
        unfold movL at hz'
        rw [List.map_append, List.mem_append] at hz'
        rcases hz' with h | h
        · exact HNM.out z h
        · rw [List.map_singleton, List.mem_singleton] at h; subst h; rw [← e]; exact hx
      have NX := Lib.hid (HN.out O[n] (List.getElem_mem _))
      generalize O[n] = x at *
      have i3 : (n : Int) < (O.length : Int) := by omega
      have i4 : (0 : Int) ≤ (n : Int) := by omega
      by_cases h1 : 4611686018427387904 < x
      · have e1 : decide (4611686018427387904 < x) = true := decide_eq_true h1
        clear h1
        go_wp2_with (go_at_call 8; refine (fixed14_any HOF.out _).mono ?_; rintro e w2 ⟨rfl, hb2⟩)
        go_ret
        exact ⟨rfl, bel2 HW.out hb2⟩
      have e1 : decide (4611686018427387904 < x) = false := decide_eq_false h1
      by_cases h2 : x < -4611686018427387904
      · have e2 : decide (x < -4611686018427387904) = true := decide_eq_true h2
        clear h1 h2
        go_wp2_with (go_at_call 8; refine (fixed14_any HOF.out _).mono ?_; rintro e w2 ⟨rfl, hb2⟩)
        go_ret
        exact ⟨rfl, bel2 HW.out hb2⟩
      have e2 : decide (x < -4611686018427387904) = false := decide_eq_false h2
      have hy := HY.out
      obtain ⟨s, hwx, hs⟩ : ∃ s, IntKind.i64.wrap (x + z) = s ∧ s = x + y := ⟨x + y, by rw [HZY.out]; exact wrap_small (by omega), rfl⟩
      have HS := Lib.hid hs
      have HX2 : Hid (I64 s) := by show I64 _; unfold I64; omega
      rw [← hs] at HTK
      clear hs
      clear h1 h2 hy
      go_wp2_with (at_builtin; refine wpList_append_rd _ rfl (.tmp 34) (.tmp 39) 33 rfl w.heap.size 2 i0 _ 1 8 Try.underlying33 hi0 hz0 hz1 HZ2.out rfl (by omega) (.slice va n vc) n _ rfl (own_below HO.out (box1 _ _)) _ _ 1 1 [.int .i64 s] rfl rfl (lit_rd W1 #[.int .i64 s] _) (by intro u hu; obtain rfl := List.mem_singleton.1 hu; rfl) (by unfold maxLen; omega) (by omega) (by have := HW.out.size; simp; omega) ?_
                   intro v4 w4 hown4 hg4 _
                   have HO4 := Lib.hid hown4; have HG4 := Lib.hid (HW.out.app hg4 HW.out.size (fun g hg => (own_shape HO.out hg).1)); clear hown4 hg4)
      go_roundw
      case rel => exact ⟨n + 1, _, by omega, by clear hwy hwx; go_num, rfl, by rw [HTK.out]; exact HO4.out, HSN.out _ HX2.out HS.out, HG4.out⟩
      case measure => simp [intOf]; omega
    · obtain rfl : n = O.length := by omega
      have hof := HO.out
      have hnf := HNM.out
      rw [List.take_length] at hof hnf
      have HM := Lib.hid hof; have HNF := Lib.hid hnf; have HML := Lib.hid (movL_length O y)
      have HAM := Lib.hid (all_mov E O y)
      have HHM := Lib.hid (fun e => holds_mov e O y)
      clear hof hnf HO HNM
      have hWs := HW.out.size
      clear hwy
      go_wp2_with fail
      generalize hMO : movL O y = M at *
      go_loopw [44] (fun i wr => ∃ n : Nat, n ≤ E.length ∧ i = .int .i64 n ∧ Below W1.heap.size W1 wr) (fun i _ => E.length - (intOf i).toNat)
      case atStart => exact ⟨0, Nat.zero_le _, rfl, Below.refl _ _⟩
      case round =>
        obtain ⟨n, hn, rfl, hbw⟩ := hrel
        have HW2 := Lib.hid hbw; clear hbw
        have HWW := Lib.hid (HW.out.trans (HW2.out.mono hWs))
        generalize wr = W2 at *
        have hWs2 := HW2.out.size
        by_cases hlt : n < E.length
        · obtain ⟨b1, o1, hb1, _, hE⟩ := (HB.out.below HWW.out).edge hlt
          subst hb1
          have OK1 := Lib.hid (HOK.out E[n] (List.getElem_mem _))
          generalize E[n] = e at *
          have i3 : (n : Int) < (E.length : Int) := by omega
          have i4 : (0 : Int) ≤ (n : Int) := by omega
          obtain ⟨c0, c1, c2, c3, c4, c5⟩ := hE
          have HE := Lib.hid (EdAt.new W2 e 37)
          go_wp2_with fail
          obtain ⟨V, hV⟩ : ∃ V, W2.alloc (.cells e.c 37) = V := ⟨_, rfl⟩
          have HBV : Hid (Below W2.heap.size W2 V) := by rw [← hV]; exact box1 _ _
          have hVs : W2.heap.size < V.heap.size := by rw [← hV]; simp
          have HAV := Lib.hid (((HA.out.below HWW.out).below (HBV.out.mono (by omega))).more (show w.heap.size ≤ V.heap.size by omega))
          have HMV := Lib.hid (Rd.own (own_below (own_below HM.out HW2.out) HBV.out))
          have HC := Lib.hid (fun d os => HHO.out e a c O (grow (redrawn V d) os) OK1.out ((HAV.out.below (below_regrown V d os)).more (below_regrown V d os).size) HN.out (by unfold maxLen; omega))
          have hd := fun d os => HHO.out e va vc M (grow (redrawn V d) os) OK1.out ((HMV.out.below (below_regrown V d os)).more (below_regrown V d os).size) HNF.out (by unfold maxLen; have := HML.out; omega)
          rw [HML.out, HHM.out] at hd
          have HD := Lib.hid hd
          clear hd
          rw [hV] at HE
          clear c0 c1 c2 c3 c4 c5
          obtain ⟨c0, c1, c2, c3, c4, c5⟩ := HE.out
          unfold Ed.c at hV
          rw [hV]
          clear hV HE
          unfold Ed.v at HC HD
          generalize holdsL e O = r at *
          simp only [Nat.zero_add] at c1 c2 c3 c4 c5
          have hcg : ∀ d os m o, m < V.heap.size → (grow (redrawn V d) os).cell? ⟨m, o, none⟩ = V.cell? ⟨m, o, none⟩ := fun d os m o h => (below_regrown V d os).cell h
          refine wp_region_quiet_below (by kernel_rfl) (by kernel_rfl) ?_
          iterate 7 (first | go_big_quiet_step (first
              | (go_at_call 14; with_reducible (show Calls Try.prog _ #[_, .slice a O.length c] _ _); exact Calls.regrown_of (HC.out _ _))
              | (go_at_call 14; with_reducible (show Calls Try.prog _ #[_, .slice va O.length vc] _ _); exact Calls.regrown_of (HD.out _ _))) | fail)
          refine wpQuiet_nil ?_
          intro W3 hw3
          obtain ⟨⟨d3, os⟩, hw3'⟩ := hw3
          have hb3 := below_regrown V d3 os
          rw [← hw3'] at hb3
          have HW3 := Lib.hid (HW2.out.trans ((bel2 HBV.out hb3).mono hWs2))
          clear hw3' hcg hb3
          go_wp2_with fail
          go_roundw
          case rel => exact ⟨n + 1, by omega, by go_num, HW3.out⟩
          case measure => simp [intOf]; omega
        · obtain rfl : n = E.length := by omega
          have HM2 := Lib.hid (Rd.own (own_below HM.out HW2.out))
          go_wp2_with (first
            | (go_at_call 8; refine (fixed14_any HOF.out _).mono ?_; rintro e w2 ⟨rfl, hb2⟩; have HB2 := Lib.hid (bel2 HWW.out hb2); have HM3 := Lib.hid ((HM2.out.below hb2).more hb2.size); clear hb2)
            | (go_at_call 16
               with_reducible (show Calls Try.prog 16 #[.slice b E.length d, .slice a O.length c] w2 _)
               refine (HAL.out b d E a c O w2 ((HB.out.below HB2.out).more HB2.out.size) HOK.out (by omega) ((HA.out.below HB2.out).more HB2.out.size) HN.out (by unfold maxLen; omega)).mono ?_
               rintro e w3 ⟨rfl, hb3⟩; have HB3 := Lib.hid (bel2 HB2.out hb3); have HM4 := Lib.hid ((HM3.out.below hb3).more hb3.size); clear hb3)
            | (go_at_call 16
               have hcall := HAL.out b d E va vc M w3 ((HB.out.below HB3.out).more HB3.out.size) HOK.out (by omega) HM4.out HNF.out (by unfold maxLen; have := HML.out; omega)
               rw [HML.out, HAM.out] at hcall
               refine hcall.mono ?_; clear hcall
               rintro e w4 ⟨rfl, hb4⟩; have HB4 := Lib.hid (bel2 HB3.out hb4); clear hb4))
          go_ret
          exact ⟨ret_bool (by simp), HB4.out⟩
end Go.Proofs.Yteaafjkgopmmdaa
