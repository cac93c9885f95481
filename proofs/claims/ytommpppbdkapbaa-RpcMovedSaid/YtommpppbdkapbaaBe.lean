import Derived.Test.YtommpppbdkapbaaBd
namespace Go.Proofs.Ytommpppbdkapbaa
open Go Go.RowKit Go.Sort
set_option linter.unusedVariables false

/-! The law RpcFits. -/
/-- What stands behind a lead and a rest. -/
theorem gaps_some {L : List Sp} {p : Pr} {x y : Int} (h : gapsL L p = some (x, y)) : ∃ n m : Nat, ∃ hn : n < L.length, ∃ hm : m < L.length, p.client = (n : Int) ∧ p.server = (m : Int) ∧ mayB L[n] = true ∧ mayB L[m] = true ∧
    x = L[m].start - L[n].start ∧ y = L[n].start + L[n].dur - L[m].start - L[m].dur := by
  cases hc : atP L p.client with
  | none => rw [gaps_c hc] at h; cases h
  | some c =>
    cases hs : atP L p.server with
    | none => rw [gaps_s hs] at h; cases h
    | some s =>
      obtain ⟨n, hn, e1, e2⟩ := atP_some hc
      obtain ⟨m, hm, e3, e4⟩ := atP_some hs
      rw [gaps_is hc hs] at h
      split at h
      · rename_i hb
        rw [Bool.and_eq_true] at hb
        have h := Option.some.inj h
        have h1 := congrArg Prod.fst h; have h2 := congrArg Prod.snd h
        refine ⟨n, m, hn, hm, e1, e3, by rw [e2]; exact hb.1, by rw [e4]; exact hb.2, ?_, ?_⟩
        · rw [e2, e4]; exact h1.symm
        · rw [e2, e4]; exact h2.symm
      · cases h
set_option maxHeartbeats 8000000 in
set_option maxRecDepth 20000 in
theorem law_fits12 (hof : PairsPay 11) (hgp : GapsPay 13) (hwi : WithinPay 15) (a : Option Addr) (c : Nat) (L : List Sp) (p : Pr) (w : World) (ha : Rd w w.heap.size a (flatL L)) (hc1 : L.length ≤ maxLen) (hok : ∀ s ∈ L, s.Ok) :
    Calls Try.prog 5 #[.slice a L.length c, p.v] w fun e w' => e = .returned (.bool true) ∧ Below w.heap.size w w' := by
  have HOF := Lib.hid hof; have HGP := Lib.hid hgp; have HWI := Lib.hid hwi; have HA := Lib.hid ha; have HOK := Lib.hid hok; clear hof hgp hwi ha hok
  have hgr := great_any a c L (w.alloc (.cells #[.int .i64 p.client, .int .i64 p.server] 32)) ((HA.out.below (box1 w _)).more (by simp)) hc1 HOK.out
  have HBV := Lib.hid (box1 w (.cells #[.int .i64 p.client, .int .i64 p.server] 32))
  have hbz : w.heap.size < (w.alloc (.cells #[.int .i64 p.client, .int .i64 p.server] 32)).heap.size := by simp
  have hx0 : (w.alloc (.cells #[.int .i64 p.client, .int .i64 p.server] 32)).cell? ⟨w.heap.size, 0, none⟩ = some (.int .i64 p.client) := by simp
  have hx1 : (w.alloc (.cells #[.int .i64 p.client, .int .i64 p.server] 32)).cell? ⟨w.heap.size, 1, none⟩ = some (.int .i64 p.server) := by simp
  simp only [Pr.v]
  cases hG : greatB L with
  | true =>
    rw [hG] at hgr
    have HGR := Lib.hid hgr; clear hgr hG
    go_enter Try.func5, Try.ntmps5
    go_wp2_with (first
      | (go_at_call 7; refine HGR.out.mono ?_; rintro e w1 ⟨rfl, hb1⟩; have HB1 := Lib.hid (bel2 HBV.out hb1); clear hb1)
      | (go_at_call 8; refine (fixed12_any HOF.out HGP.out _).mono ?_; rintro e w2 ⟨rfl, hb2⟩))
    go_ret
    exact ⟨rfl, bel2 HB1.out hb2⟩
  | false =>
  rw [hG] at hgr
  have HGR := Lib.hid hgr; clear hgr
  have hL60 := great_len hG
  clear hG
  obtain ⟨r, hr⟩ : ∃ r, r = gapsL L p := ⟨_, rfl⟩
  have HPG : Hid (∀ w', Rd w' w'.heap.size a (flatL L) → Calls Try.prog 13 #[.slice a L.length c, .agg #[.int .i64 p.client, .int .i64 p.server]] w' fun e w'' => e = .returned (gapsV r) ∧ Below w'.heap.size w' w'') := fun w' h => by rw [hr]; exact HGP.out a c L p w' h (by omega) HOK.out
  have HWG : Hid (∀ w', Rd w' w'.heap.size a (flatL L) → Calls Try.prog 15 #[.slice a L.length c, .agg #[.int .i64 p.client, .int .i64 p.server]] w' fun e w'' => e = .returned (.bool (withinB r)) ∧ Below w'.heap.size w' w'') := fun w' h => by rw [hr]; exact HWI.out a c L p w' h (by omega) HOK.out
  cases r with
  | none =>
    clear hr
    simp only [gapsV, withinB] at HPG HWG
    go_enter Try.func5, Try.ntmps5
    go_wp2_with (first
      | (go_at_call 7; refine HGR.out.mono ?_; rintro e w1 ⟨rfl, hb1⟩; have HB1 := Lib.hid (bel2 HBV.out hb1)
         have d0 := (hb1.cell (p := ⟨w.heap.size, 0, none⟩) hbz).trans hx0
         have d1 := (hb1.cell (p := ⟨w.heap.size, 1, none⟩) hbz).trans hx1
         clear hb1)
      | (go_at_call 13
         refine (HPG.out w1 ((HA.out.below HB1.out).more HB1.out.size)).mono ?_; rintro e w2 ⟨rfl, hb2⟩
         have HB2 := Lib.hid (bel2 HB1.out hb2)
         have d0 := (hb2.cell (p := ⟨w.heap.size, 0, none⟩) (block_lt_of_cell d0)).trans d0
         have d1 := (hb2.cell (p := ⟨w.heap.size, 1, none⟩) (block_lt_of_cell d1)).trans d1
         clear hb2)
      | (go_at_call 8; refine (fixed12_any HOF.out HGP.out _).mono ?_; rintro e w4 ⟨rfl, hb4⟩
         have HB4 := Lib.hid (bel2 HB2.out hb4)
         have d0 := (hb4.cell (p := ⟨w.heap.size, 0, none⟩) (block_lt_of_cell d0)).trans d0
         have d1 := (hb4.cell (p := ⟨w.heap.size, 1, none⟩) (block_lt_of_cell d1)).trans d1
         clear hb4)
      | (go_at_call 15
         refine (HWG.out w4 ((HA.out.below HB4.out).more HB4.out.size)).mono ?_; rintro e w5 ⟨rfl, hb5⟩
         have HB5 := Lib.hid (bel2 HB4.out hb5); clear hb5))
    go_ret
    exact ⟨rfl, HB5.out⟩
  | some q =>
    obtain ⟨x, y⟩ := q
    obtain ⟨n, m, hn, hm, hcl, hse, hmn, hmm, hx, hy⟩ := gaps_some hr.symm
    clear hr
    obtain ⟨s1, s2, s3, s4⟩ := mayB_times hmn
    obtain ⟨t1, t2, t3, t4⟩ := mayB_times hmm
    have HEN := Lib.hid (fun W' (h : Rd W' W'.heap.size a (flatL L)) => h.elem hn)
    have HEM := Lib.hid (fun W' (h : Rd W' W'.heap.size a (flatL L)) => h.elem hm)
    generalize L[n] = s at *
    generalize L[m] = t at *
    obtain ⟨pc, ps⟩ := p
    simp only at hcl hse
    subst hcl hse
    simp only at hx0 hx1 HBV hbz HGR HPG HWG ⊢
    obtain ⟨z, hz⟩ : ∃ z, z = x + y := ⟨_, rfl⟩
    have g1 : IntKind.i64.wrap (x + y) = z := by rw [hz]; exact IntWalk.i64_in _ (by omega)
    have g2 : IntKind.i64.wrap (z + t.dur) = s.dur := by rw [show z + t.dur = s.dur by omega]; exact IntWalk.i64_in _ (by omega)
    have g3 : (s.dur == s.dur) = true := by simp
    have g4 : decide (x < 1125899906842624) = true := decide_eq_true (by omega)
    have g5 : decide (-1125899906842624 < x) = true := decide_eq_true (by omega)
    have g6 : decide (y < 4503599627370496) = true := decide_eq_true (by omega)
    have g7 : decide (-4503599627370496 < y) = true := decide_eq_true (by omega)
    have i1 : (n : Int) < (L.length : Int) := by omega
    have i2 : (m : Int) < (L.length : Int) := by omega
    have i3 : (0 : Int) ≤ (n : Int) := by omega
    have i4 : (0 : Int) ≤ (m : Int) := by omega
    have HW : Hid (withinB (some (x, y)) = true → t.dur ≤ s.dur) := fun h => by
      unfold withinB at h
      rw [Bool.and_eq_true, decide_eq_true_eq, decide_eq_true_eq] at h
      omega
    clear hx hy hz s1 s2 s3 s4 t1 t2 t3 t4 hmn hmm
    obtain ⟨wb, hwb⟩ : ∃ wb, wb = withinB (some (x, y)) := ⟨_, rfl⟩
    rw [← hwb] at HWG HW
    clear hwb
    simp only [gapsV] at HPG
    go_enter Try.func5, Try.ntmps5
    go_wp2_with (first
      | (go_at_call 7; refine HGR.out.mono ?_; rintro e w1 ⟨rfl, hb1⟩; have HB1 := Lib.hid (bel2 HBV.out hb1)
         have d0 := (hb1.cell (p := ⟨w.heap.size, 0, none⟩) hbz).trans hx0
         have d1 := (hb1.cell (p := ⟨w.heap.size, 1, none⟩) hbz).trans hx1
         clear hb1)
      | (go_at_call 13
         refine (HPG.out w1 ((HA.out.below HB1.out).more HB1.out.size)).mono ?_; rintro e w2 ⟨rfl, hb2⟩
         have HB2 := Lib.hid (bel2 HB1.out hb2)
         have d0 := (hb2.cell (p := ⟨w.heap.size, 0, none⟩) (block_lt_of_cell d0)).trans d0
         have d1 := (hb2.cell (p := ⟨w.heap.size, 1, none⟩) (block_lt_of_cell d1)).trans d1
         clear hb2))
    have HA2 := Lib.hid ((HA.out.below HB2.out).more HB2.out.size)
    obtain ⟨b1, o1, ha1, hb1, _, _, _, _, _, _, _, e7⟩ := HEN.out w2 HA2.out
    obtain ⟨b2, o2, ha2, hb2, _, _, _, _, _, _, _, f7⟩ := HEM.out w2 HA2.out
    subst ha1
    obtain ⟨rfl, rfl⟩ := And.intro (Addr.mk.inj (Option.some.inj ha2)).1 (Addr.mk.inj (Option.some.inj ha2)).2.1
    have hz0 := block_lt_of_cell d0
    simp only at hz0
    have hcg : ∀ d os m o, m < w2.heap.size → (grow (redrawn w2 d) os).cell? ⟨m, o, none⟩ = w2.cell? ⟨m, o, none⟩ := fun d os m o h => (below_regrown w2 d os).cell h
    clear ha2 hb2 hx0 hx1 hbz HEN HEM
    cases wb with
    | false =>
      clear HW
      refine wp_region_quiet_below (by kernel_rfl) (by kernel_rfl) ?_
      iterate 58 (first | go_big_quiet_step (first
        | (go_at_call 8; exact Calls.regrown_of (fixed12_any HOF.out HGP.out _))
        | (go_at_call 15; exact Calls.regrown_of (HWG.out _ ((HA2.out.below (below_regrown w2 _ _)).more (below_regrown w2 _ _).size)))) | fail)
      refine wpQuiet_nil ?_
      intro w3 hw3
      obtain ⟨⟨d, os⟩, hw3'⟩ := hw3
      have hb3 := below_regrown w2 d os
      rw [← hw3'] at hb3
      have HB3 := Lib.hid (bel2 HB2.out hb3)
      clear hw3' hcg hb3
      go_wp2_with fail
      go_ret
      exact ⟨rfl, HB3.out⟩
    | true =>
      have hle := HW.out rfl
      have e8 : decide (t.dur ≤ s.dur) = true := decide_eq_true hle
      clear HW
      refine wp_region_quiet_below (by kernel_rfl) (by kernel_rfl) ?_
      iterate 58 (first | go_big_quiet_step (first
        | (go_at_call 8; exact Calls.regrown_of (fixed12_any HOF.out HGP.out _))
        | (go_at_call 15; exact Calls.regrown_of (HWG.out _ ((HA2.out.below (below_regrown w2 _ _)).more (below_regrown w2 _ _).size)))) | fail)
      refine wpQuiet_nil ?_
      intro w3 hw3
      obtain ⟨⟨d, os⟩, hw3'⟩ := hw3
      have hb3 := below_regrown w2 d os
      rw [← hw3'] at hb3
      have HB3 := Lib.hid (bel2 HB2.out hb3)
      clear hw3' hcg hb3
      go_wp2_with fail
      go_ret
      exact ⟨rfl, HB3.out⟩
end Go.Proofs.Ytommpppbdkapbaa

