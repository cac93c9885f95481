import Derived.Test.YtohbbjlkmglnmaaQj
namespace Go.Proofs.Ytohbbjlkmglnmaa
open Go Go.RowKit Go.Sort
set_option linter.unusedVariables false

/-! The laws of stage 15: RelaxGreatest. -/
set_option maxHeartbeats 16000000 in
theorem law_great15 (hs : SolvePay 15) (n : Int) (a : Option Addr) (c : Nat) (E : List Ed) (b : Option Addr) (d : Nat) (Y : List Int) (w : World) (ha : Rd w w.heap.size a (edsV E)) (hc1 : E.length ≤ maxLen) (hok : ∀ e ∈ E, e.Ok) (hn : I64 n)
    (hb : Rd w w.heap.size b (intV Y)) (hc2 : Y.length ≤ maxLen) (hY : Nums Y) :
    Calls Try.prog 5 #[.int .i64 n, .slice a E.length c, .slice b Y.length d] w fun e w' => e = .returned (.bool true) ∧ Below w.heap.size w w' := by
  have HF := Lib.hid (fun w => fixed15_any hs w)
  have HS := Lib.hid hs; have HA := Lib.hid ha; have HOK := Lib.hid hok; have HN := Lib.hid hn; have HB := Lib.hid hb; have HY := Lib.hid hY
  clear hs ha hok hn hb hY
  unfold maxLen at hc1 hc2
  by_cases hg : 100 < E.length
  · have i1 : (100 : Int) < (E.length : Int) := by omega
    go_enter Try.func5, Try.ntmps5
    go_wp2_with (go_at_call 8; refine (HF.out _).mono ?_; rintro x w1 ⟨rfl, hb1⟩; have HB1 := Lib.hid hb1; clear hb1)
    go_ret
    exact ⟨rfl, HB1.out⟩
  have i1 : ¬ (100 : Int) < (E.length : Int) := by omega
  have hl : E.length ≤ 100000 := by omega
  obtain ⟨m, hm⟩ : ∃ m, Y.length = m := ⟨_, rfl⟩
  have HM := Lib.hid hm
  rw [hm] at hc2 ⊢
  clear hm
  by_cases hq : (m : Int) = n
  case neg =>
    have q1 : ((m : Int) != n) = true := by simpa using hq
    have q2 : ((m : Int) == n) = false := by simpa using hq
    clear hq
    go_enter Try.func5, Try.ntmps5
    go_wp2_with (go_at_call 8; refine (HF.out _).mono ?_; rintro x w1 ⟨rfl, hb1⟩; have HB1 := Lib.hid hb1; clear hb1)
    go_ret
    exact ⟨rfl, HB1.out⟩
  subst hq
  have HMC := Lib.hid (fun w1 h => refMay_any15 (m : Int) a c E w1 h hl HOK.out HN.out)
  obtain ⟨r, hr⟩ : ∃ r, mayE (m : Int) E = r := ⟨_, rfl⟩
  rw [hr] at HMC
  cases r with
  | false =>
    clear hr
    go_enter Try.func5, Try.ntmps5
    go_wp2_with fail
    refine (HMC.out w HA.out).mono ?_
    rintro x w1 ⟨rfl, hb1⟩
    have HB1 := Lib.hid hb1; clear hb1
    go_wp2_with fail
    refine (HF.out _).mono ?_
    rintro x w2 ⟨rfl, hb2⟩
    have HB2 := Lib.hid (bel2 HB1.out hb2); clear hb2
    go_wp2_with fail
    go_ret
    exact ⟨rfl, HB2.out⟩
  | true =>
    have HMAY := Lib.hid hr
    have hk := mayE_iff.1 hr
    have hm32 : m ≤ 32 := by omega
    clear hr hk
    go_enter Try.func5, Try.ntmps5
    go_wp2_with fail
    refine (HMC.out w HA.out).mono ?_
    rintro x w1 ⟨rfl, hb1⟩
    have HB1 := Lib.hid hb1
    have HA1 := Lib.hid ((HA.out.below hb1).more hb1.size)
    have HBY1 := Lib.hid ((HB.out.below hb1).more hb1.size)
    clear hb1 HMC
    go_wp2_with fail
    go_loopw [7, 32] (fun vt vi wr => ∃ (k : Nat) (t : Int), k ≤ m ∧ vi = .int .i64 (k : Int) ∧ vt = .int .i64 t ∧ 0 ≤ t ∧ t ≤ 144115188075855872 ∧ (∀ x ∈ Y.take k, x ≤ t ∧ -144115188075855872 ≤ x) ∧ Below w1.heap.size w1 wr) (fun _ vi _ => m - (intOf vi).toNat)
    case atStart => exact ⟨0, 0, Nat.zero_le _, rfl, rfl, Int.le_refl _, by omega, fun x hx => by simp at hx, Below.refl _ _⟩
    case round =>
      obtain ⟨k, t, hk, rfl, rfl, ht0, ht1, ht, hbw⟩ := hrel
      have HT := Lib.hid ht; have HW := Lib.hid hbw; clear ht hbw
      generalize wr = W2 at *
      by_cases hlt : k < m
      · have hk' : k < Y.length := by rw [HM.out]; exact hlt
        obtain ⟨b1, o1, hb1, _, d1⟩ := (HBY1.out.below HW.out).num hk'
        subst hb1
        have hTK := List.take_succ_eq_append_getElem hk'
        have HNX : Hid (∀ t', t ≤ t' → Y[k] ≤ t' → -144115188075855872 ≤ Y[k] → ∀ x ∈ Y.take (k + 1), x ≤ t' ∧ -144115188075855872 ≤ x) := fun t' h1 h2 h3 x hx => by
          rw [hTK, List.mem_append] at hx
          rcases hx with hx | hx
          · have := HT.out x hx; omega
          · obtain rfl := List.mem_singleton.1 hx; exact ⟨h2, h3⟩
        clear hTK
        generalize Y[k] = y at *
        have j1 : (k : Int) < (m : Int) := by omega
        have j2 : (0 : Int) ≤ (k : Int) := by omega
        have HBW := Lib.hid (bel2 HB1.out HW.out)
        by_cases y1 : 144115188075855872 < y
        · go_wp2_with fail
          refine (HF.out _).mono ?_
          rintro x w3 ⟨rfl, hb3⟩
          have HB3 := Lib.hid (bel2 HBW.out hb3); clear hb3
          go_wp2_with fail
          go_ret
          exact ⟨rfl, HB3.out⟩
        by_cases y2 : y < -144115188075855872
        · go_wp2_with fail
          refine (HF.out _).mono ?_
          rintro x w3 ⟨rfl, hb3⟩
          have HB3 := Lib.hid (bel2 HBW.out hb3); clear hb3
          go_wp2_with fail
          go_ret
          exact ⟨rfl, HB3.out⟩
        by_cases y3 : t < y
        · have HNY := Lib.hid (HNX.out y (by omega) (Int.le_refl _) (by omega))
          go_wp2_with fail
          go_roundw
          case rel => exact ⟨k + 1, y, by omega, by go_num, by rw [Int.max_eq_right (by omega)], by omega, by omega, HNY.out, HW.out⟩
          case measure => simp [intOf]; omega
        · have HNY := Lib.hid (HNX.out t (by omega) (by omega) (by omega))
          go_wp2_with fail
          go_roundw
          case rel => exact ⟨k + 1, t, by omega, by go_num, by rw [Int.max_eq_left (by omega)], by omega, by omega, HNY.out, HW.out⟩
          case measure => simp [intOf]; omega
      · obtain rfl : m = k := by omega
        have HTA : Hid (∀ x ∈ Y, x ≤ t ∧ -144115188075855872 ≤ x) := fun x hx => HT.out x (by rw [List.take_of_length_le (by rw [HM.out]; exact Nat.le_refl _)]; exact hx)
        have HB2 := Lib.hid (bel2 HB1.out HW.out)
        have HA2 := Lib.hid ((HA1.out.below HW.out).more HW.out.size)
        have HBY2 := Lib.hid ((HBY1.out.below HW.out).more HW.out.size)
        have HAC : ∀ w', Rd w' w'.heap.size a (edsV E) → Rd w' w'.heap.size b (intV Y) → Calls Try.prog 17 #[.slice a E.length c, .slice b m d] w' fun x w'' => x = .returned (.bool (allL E Y)) ∧ Below w'.heap.size w' w'' := fun w' h1 h2 => by
          have := refAll_any a c E b d Y w' h1 HOK.out hl h2 HY.out (by unfold maxLen; rw [HM.out]; omega)
          rw [HM.out] at this; exact this
        obtain ⟨r, hr⟩ : ∃ r, allL E Y = r := ⟨_, rfl⟩
        rw [hr] at HAC
        have HACC := Lib.hid HAC
        clear HAC HT
        cases hso : solveL (m : Int) E with
        | none =>
          cases r with
          | true => have := solve_sure HMAY.out HM.out hr; rw [this] at hso; cases hso
          | false =>
            have HC := Lib.hid (solve_none (HS.out (m : Int) a c E W2 HA2.out hl HOK.out HN.out) hso)
            clear hr hso
            go_wp2_with fail
            refine HC.out.mono ?_
            rintro x w3 ⟨a3, c3, rfl, hb3⟩
            have HB3 := Lib.hid (bel2 HB2.out hb3)
            have HA3 := Lib.hid ((HA2.out.below hb3).more hb3.size)
            have HBY3 := Lib.hid ((HBY2.out.below hb3).more hb3.size)
            clear hb3
            go_wp2_with fail
            refine (HACC.out w3 HA3.out HBY3.out).mono ?_
            rintro x w4 ⟨rfl, hb4⟩
            have HB4 := Lib.hid (bel2 HB3.out hb4); clear hb4
            go_wp2_with fail
            refine (HF.out _).mono ?_
            rintro x w5 ⟨rfl, hb5⟩
            have HB5 := Lib.hid (bel2 HB4.out hb5); clear hb5
            go_wp2_with fail
            go_ret
            exact ⟨rfl, HB5.out⟩
        | some O =>
          obtain ⟨m', hS⟩ := solved_is hso
          obtain rfl : m = m' := by have := hS.eq; omega
          have HSV := Lib.hid hS
          have HC : Calls Try.prog 15 #[.int .i64 (m : Int), .slice a E.length c] W2 fun x w' => ∃ a1 c1, x = .returned (.tuple #[.slice a1 m c1, .bool true]) ∧ Rd w' w'.heap.size a1 (intV O) ∧ Below W2.heap.size W2 w' := by
            have := solve_some (HS.out (m : Int) a c E W2 HA2.out hl HOK.out HN.out) hso
            rw [hS.len] at this; exact this
          have HCC := Lib.hid HC
          have HR := Lib.hid hr
          clear HC hS hso hr
          go_wp2_with fail
          refine HCC.out.mono ?_
          rintro x w3 ⟨a3, c3, rfl, hr3, hb3⟩
          have HB3 := Lib.hid (bel2 HB2.out hb3)
          have HR3 := Lib.hid hr3
          have HA3 := Lib.hid ((HA2.out.below hb3).more hb3.size)
          have HBY3 := Lib.hid ((HBY2.out.below hb3).more hb3.size)
          clear hb3 hr3 HCC
          go_wp2_with fail
          refine (HACC.out w3 HA3.out HBY3.out).mono ?_
          rintro x w4 ⟨rfl, hb4⟩
          have HB4 := Lib.hid (bel2 HB3.out hb4)
          have HR4 := Lib.hid ((HR3.out.below hb4).more hb4.size)
          have HBY4 := Lib.hid ((HBY3.out.below hb4).more hb4.size)
          clear hb4 HACC
          cases r with
          | false =>
            go_wp2_with fail
            refine (HF.out _).mono ?_
            rintro x w5 ⟨rfl, hb5⟩
            have HB5 := Lib.hid (bel2 HB4.out hb5); clear hb5
            go_wp2_with fail
            go_ret
            exact ⟨rfl, HB5.out⟩
          | true =>
            have HAB := Lib.hid (fun h hh => HSV.out.above Y t HM.out HR.out (fun x hx => (HTA.out x hx).1) h hh)
            go_wp2_with fail
            go_loopw [68] (fun vi wr => ∃ h : Nat, h ≤ m ∧ vi = .int .i64 (h : Int) ∧ Below w4.heap.size w4 wr) (fun vi _ => m - (intOf vi).toNat)
            case atStart => exact ⟨0, Nat.zero_le _, rfl, Below.refl _ _⟩
            case round =>
              obtain ⟨h, hh, rfl, hb5⟩ := hrel
              have HW5 := Lib.hid hb5; clear hb5
              generalize wr = W5 at *
              by_cases hlt5 : h < m
              · have hy' : h < Y.length := by rw [HM.out]; exact hlt5
                have ho' : h < O.length := by rw [HSV.out.len]; exact hlt5
                obtain ⟨b1, o1, hb1, _, d1⟩ := (HBY4.out.below HW5.out).num hy'
                obtain ⟨b2, o2, hb2, _, d2⟩ := (HR4.out.below HW5.out).num ho'
                subst hb1 hb2
                have hab := HAB.out h hlt5
                have g1 : Y.getD h 0 = Y[h] := by simp [List.getD, hy']
                have g2 : O.getD h 0 = O[h] := by simp [List.getD, ho']
                rw [g1, g2] at hab
                have hy := HTA.out Y[h] (List.getElem_mem _)
                generalize Y[h] = y at *
                generalize O[h] = o at *
                have k1 : (h : Int) < (m : Int) := by omega
                have k2 : (0 : Int) ≤ (h : Int) := by omega
                have k3 : IntKind.i64.wrap (y - t) = y - t := IntWalk.i64_in _ (by omega)
                have k4 : ¬ (o < y - t) := by omega
                clear g1 g2 hy' ho'
                go_wp2_with fail
                go_roundw
                case rel => exact ⟨h + 1, by omega, by go_num, HW5.out⟩
                case measure => simp [intOf]; omega
              · obtain rfl : m = h := by omega
                have HB5 := Lib.hid (bel2 HB4.out HW5.out)
                go_wp2_with fail
                refine (HF.out _).mono ?_
                rintro x w6 ⟨rfl, hb6⟩
                have HB6 := Lib.hid (bel2 HB5.out hb6); clear hb6
                go_wp2_with fail
                go_ret
                exact ⟨rfl, HB6.out⟩
end Go.Proofs.Ytohbbjlkmglnmaa

