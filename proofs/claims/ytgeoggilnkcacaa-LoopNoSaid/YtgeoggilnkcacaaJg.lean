import Derived.Test.YtgeoggilnkcacaaJf
namespace Go.Proofs.Ytgeoggilnkcacaa
open Go Go.RowKit Go.Sort
set_option linter.unusedVariables false

/-! The laws of stage 16: LoopNo. -/
theorem chain_mem {n : Int} {E K : List Ed} (h : ChainIs n E K) : ∀ e ∈ K, e ∈ E := by
  rcases h with ⟨h1, h2, h3⟩ | ⟨_, rfl⟩
  · exact (chain_is (.inl ⟨h1, h2, h3⟩) h1 h2).1.mem
  · intro e he; cases he
theorem chain_none {n : Int} {E : List Ed} (h : ChainIs n E []) (hm : mayE n E = true) : metL n.toNat E = true := by
  cases hn : metL n.toNat E with
  | true => rfl
  | false => exact absurd (chain_is h hm hn).1.pos (by simp)
theorem chain_cyc {n : Int} {E K : List Ed} (h : ChainIs n E K) (hk : 0 < K.length) : CycIs n.toNat E K := by
  rcases h with ⟨h1, h2, h3⟩ | ⟨_, rfl⟩
  · exact (chain_is (.inl ⟨h1, h2, h3⟩) h1 h2).1
  · simp at hk
theorem solved16_any (n : Int) (a : Option Addr) (c : Nat) (E : List Ed) (O : List Int) (w : World) (ha : Rd w w.heap.size a (edsV E)) (hl : E.length ≤ 100000) (hok : ∀ e ∈ E, e.Ok) (hn : I64 n) (hs : solveL n E = some O) :
    Calls Try.prog 13 #[.int .i64 n, .slice a E.length c] w fun x w' => ∃ a1 c1, x = .returned (.slice a1 O.length c1) ∧ Rd w' w'.heap.size a1 (intV O) ∧ Below w.heap.size w w' := by
  have HC := Lib.hid (solve_some (refSolve_any n a c E w ha hl hok hn) hs)
  clear ha hok hn hs
  go_enter Try.func13, Try.ntmps13
  go_wp2_with (go_at_call 10; refine HC.out.mono ?_; rintro x w1 ⟨a1, c1, rfl, hr1, hb1⟩)
  go_ret
  exact ⟨a1, c1, rfl, hr1, hb1⟩
set_option maxHeartbeats 16000000 in
theorem law_no16 (hlp : LoopPay 8) (n : Int) (a : Option Addr) (c : Nat) (E : List Ed) (b : Option Addr) (d : Nat) (Y : List Int) (w : World) (ha : Rd w w.heap.size a (edsV E)) (hc1 : E.length ≤ maxLen) (hok : ∀ e ∈ E, e.Ok) (hn : I64 n)
    (hb : Rd w w.heap.size b (intV Y)) (hc2 : Y.length ≤ maxLen) (hY : Nums Y) :
    Calls Try.prog 5 #[.int .i64 n, .slice a E.length c, .slice b Y.length d] w fun e w' => e = .returned (.bool true) ∧ Below w.heap.size w w' := by
  have HF := Lib.hid (fun w => fixed16_any hlp w)
  have HLP := Lib.hid hlp; have HA := Lib.hid ha; have HOK := Lib.hid hok; have HN := Lib.hid hn; have HB := Lib.hid hb; have HY := Lib.hid hY; have HML := Lib.hid hc2
  clear hlp ha hok hn hb hY
  unfold maxLen at hc1 hc2
  by_cases hg : 100 < E.length
  · have i1 : (100 : Int) < (E.length : Int) := by omega
    have i2 : decide ((100 : Int) < (E.length : Int)) = true := decide_eq_true i1
    go_enter Try.func5, Try.ntmps5
    go_wp2_with (go_at_call 6; refine (HF.out _).mono ?_; rintro x w1 ⟨rfl, hb1⟩; have HB1 := Lib.hid hb1; clear hb1)
    go_ret
    exact ⟨rfl, HB1.out⟩
  have i1 : ¬ (100 : Int) < (E.length : Int) := by omega
  have i2 : decide ((100 : Int) < (E.length : Int)) = false := decide_eq_false i1
  have i2' : decide (100 < E.length) = false := decide_eq_false hg
  by_cases hg2 : 40 < Y.length
  · have j1 : (40 : Int) < (Y.length : Int) := by omega
    have j2 : decide ((40 : Int) < (Y.length : Int)) = true := decide_eq_true j1
    have j2' : decide (40 < Y.length) = true := decide_eq_true hg2
    go_enter Try.func5, Try.ntmps5
    go_wp2_with (go_at_call 6; refine (HF.out _).mono ?_; rintro x w1 ⟨rfl, hb1⟩; have HB1 := Lib.hid hb1; clear hb1)
    go_ret
    exact ⟨rfl, HB1.out⟩
  have j1 : ¬ (40 : Int) < (Y.length : Int) := by omega
  have j2 : decide ((40 : Int) < (Y.length : Int)) = false := decide_eq_false j1
  have j2' : decide (40 < Y.length) = false := decide_eq_false hg2
  have hle : E.length ≤ 100000 := by omega
  go_enter Try.func5, Try.ntmps5
  go_wp2_with fail
  go_loopw [21] (fun vi wr => ∃ k : Nat, k ≤ Y.length ∧ vi = .int .i64 (k : Int) ∧ Below w.heap.size w wr) (fun vi _ => Y.length - (intOf vi).toNat)
  case atStart => exact ⟨0, Nat.zero_le _, rfl, Below.refl _ _⟩
  case round =>
    obtain ⟨k, hk, rfl, hbw⟩ := hrel
    have HW := Lib.hid hbw; clear hbw
    generalize wr = W1 at *
    by_cases hlt : k < Y.length
    · obtain ⟨b1, o1, ha1, _, d1⟩ := (HB.out.below HW.out).num hlt
      subst ha1
      have z1 : (k : Int) < (Y.length : Int) := by omega
      have z2 : (0 : Int) ≤ (k : Int) := by omega
      generalize Y[k] = x at *
      by_cases h1 : 144115188075855872 < x
      · have q1 : decide ((144115188075855872 : Int) < x) = true := decide_eq_true h1
        go_wp2_with (go_at_call 6; refine (HF.out _).mono ?_; rintro x w2 ⟨rfl, hb2⟩; have HB2 := Lib.hid (bel2 HW.out hb2); clear hb2)
        go_ret
        exact ⟨rfl, HB2.out⟩
      have q1 : decide ((144115188075855872 : Int) < x) = false := decide_eq_false h1
      by_cases h2 : x < -144115188075855872
      · have q2 : decide (x < (-144115188075855872 : Int)) = true := decide_eq_true h2
        go_wp2_with (go_at_call 6; refine (HF.out _).mono ?_; rintro x w2 ⟨rfl, hb2⟩; have HB2 := Lib.hid (bel2 HW.out hb2); clear hb2)
        go_ret
        exact ⟨rfl, HB2.out⟩
      have q2 : decide (x < (-144115188075855872 : Int)) = false := decide_eq_false h2
      go_wp2_with fail
      go_roundw
      case rel => exact ⟨k + 1, by omega, by go_num, HW.out⟩
      case measure => simp [intOf]; omega
    · obtain rfl : k = Y.length := by omega
      have hcal := HLP.out n a c E W1 ((HA.out.below HW.out).more HW.out.size) hle HOK.out HN.out
      have HCAL := Lib.hid hcal; clear hcal
      go_wp2_with fail
      refine HCAL.out.mono ?_
      rintro x w2 ⟨v, K, rfl, hch, hown, hb2⟩
      obtain ⟨va, vc, rfl, -, -, -⟩ := own_slice hown
      have HCH := Lib.hid hch; have HO := Lib.hid (Rd.own hown); have HB2 := Lib.hid (bel2 HW.out hb2)
      have HA2 := Lib.hid ((HA.out.below (bel2 HW.out hb2)).more (bel2 HW.out hb2).size)
      have HY2 := Lib.hid ((HB.out.below (bel2 HW.out hb2)).more (bel2 HW.out hb2).size)
      have hkl := (chain_len hch).1
      clear hb2 hown hch HCAL HLP
      by_cases hk0 : K.length = 0
      case neg =>
        have HAL : Hid (allL K Y = false) := cyc_no (chain_cyc HCH.out (by omega)) Y
        have e1 : ((K.length : Int) == 0) = false := by simpa using hk0
        have e1' : (K.length == 0) = false := by simpa using hk0
        have e2 : decide ((0 : Int) < (K.length : Int)) = true := decide_eq_true (by omega)
        have e2' : decide (0 < K.length) = true := decide_eq_true (by omega)
        have e3 : ¬ (K.length : Int) = 0 := by omega
        go_wp2_with (first
          | (go_at_call 6; refine (HF.out _).mono ?_; rintro x w3 ⟨rfl, hb3⟩
             have HO3 := Lib.hid ((HO.out.below hb3).more hb3.size); have HY3 := Lib.hid ((HY2.out.below hb3).more hb3.size); have HB3 := Lib.hid (bel2 HB2.out hb3); clear hb3)
          | (go_at_call 12
             have hcall := refAll_any va vc K b d Y w3 HO3.out (fun e he => HOK.out e (chain_mem HCH.out e he)) (by omega) HY3.out HY.out HML.out
             rw [HAL.out] at hcall
             refine hcall.mono ?_; clear hcall; rintro x w4 ⟨rfl, hb4⟩; have HB4 := Lib.hid (bel2 HB3.out hb4); clear hb4))
        go_ret
        exact ⟨rfl, HB4.out⟩
      · obtain rfl : K = [] := List.length_eq_zero_iff.1 hk0
        simp only [List.length_nil]
        by_cases hn1 : n < 1
        · have f1 : decide (n < 1) = true := decide_eq_true hn1
          go_wp2_with (go_at_call 6; refine (HF.out _).mono ?_; rintro x w3 ⟨rfl, hb3⟩; have HB3 := Lib.hid (bel2 HB2.out hb3); clear hb3)
          go_ret
          exact ⟨rfl, HB3.out⟩
        have f1 : decide (n < 1) = false := decide_eq_false hn1
        have HMC := Lib.hid (fun w1 h => refMay_any15 n a c E w1 h hle HOK.out HN.out)
        cases hr : mayE n E with
        | false =>
          rw [hr] at HMC
          go_wp2_with (first
            | (go_at_call 6; refine (HF.out _).mono ?_; rintro x w3 ⟨rfl, hb3⟩
               have HA3 := Lib.hid ((HA2.out.below hb3).more hb3.size); have HB3 := Lib.hid (bel2 HB2.out hb3); clear hb3)
            | (go_at_call 11; refine (HMC.out w3 HA3.out).mono ?_; rintro x w4 ⟨rfl, hb4⟩; have HB4 := Lib.hid (bel2 HB3.out hb4); clear hb4))
          go_ret
          exact ⟨rfl, HB4.out⟩
        | true =>
          rw [hr] at HMC
          have hs : solveL n E = some (rowQ n.toNat E n.toNat) := by unfold solveL; rw [hr, chain_none HCH.out hr]; rfl
          obtain ⟨m, hsv⟩ := solved_is hs
          have HSV := Lib.hid hsv
          have HS := Lib.hid hs
          generalize rowQ n.toNat E n.toNat = O at *
          clear hs hsv hr
          go_wp2_with (first
            | (go_at_call 6; refine (HF.out _).mono ?_; rintro x w3 ⟨rfl, hb3⟩
               have HA3 := Lib.hid ((HA2.out.below hb3).more hb3.size); have HB3 := Lib.hid (bel2 HB2.out hb3); clear hb3)
            | (go_at_call 11; refine (HMC.out w3 HA3.out).mono ?_; rintro x w4 ⟨rfl, hb4⟩
               have HA4 := Lib.hid ((HA3.out.below hb4).more hb4.size); have HB4 := Lib.hid (bel2 HB3.out hb4); clear hb4)
            | (go_at_call 13; refine (solved16_any n a c E O w4 HA4.out hle HOK.out HN.out HS.out).mono ?_; rintro x w5 ⟨a5, c5, rfl, hr5, hb5⟩
               have HR5 := Lib.hid hr5
               have HA5 := Lib.hid ((HA4.out.below hb5).more hb5.size); have HB5 := Lib.hid (bel2 HB4.out hb5); clear hb5 hr5)
            | (go_at_call 12
               have hcall := refAll_any a c E a5 c5 O w5 HA5.out HOK.out hle HR5.out (fun x hx => by have := HSV.out.top x hx; unfold I64; omega) (by rw [HSV.out.len]; have := HSV.out.le; unfold maxLen; omega)
               rw [HSV.out.all] at hcall
               refine hcall.mono ?_; clear hcall; rintro x w6 ⟨rfl, hb6⟩; have HB6 := Lib.hid (bel2 HB5.out hb6); clear hb6))
          go_ret
          exact ⟨rfl, HB6.out⟩
end Go.Proofs.Ytgeoggilnkcacaa

