import Derived.Test.YtkjngmlebflffaaAe
namespace Go.Proofs.Ytkjngmlebflffaa
open Go Go.RowKit Go.Sort
set_option linter.unusedVariables false

/-! The law ForestOrder. -/
theorem row_order {P : List Int} {i j : Nat} (hij : i < j) (hj : j < (rowL P).length) : (rowL P)[i].place ≠ (rowL P)[j].place ∧ ((rowL P)[i].parent = (rowL P)[j].parent → (rowL P)[i].place < (rowL P)[j].place) := by
  have key : (rowL P).Pairwise Apartly := by
    cases hr : rightL P with
    | true => rw [row_yes hr]; exact sub_apart hr _ _ (at_root P)
    | false => rw [row_no hr]; exact List.Pairwise.nil
  exact List.pairwise_iff_getElem.1 key i j (by omega) hj hij
theorem row_full (P : List Int) : (((rowL P).length : Int) == (P.length : Int)) = rightL P := by
  cases hr : rightL P with
  | true => rw [row_yes hr, row_length hr]; simp
  | false =>
    rw [row_no hr]
    have h0 : P.length ≠ 0 := by
      intro h
      rw [List.eq_nil_of_length_eq_zero h] at hr
      have : rightL [] = true := by decide
      rw [this] at hr; cases hr
    simp only [List.length_nil]
    rw [beq_eq_false_iff_ne]
    omega
theorem row_none (P : List Int) : (((rowL P).length : Int) == 0) = (depthL P == -1) := by
  have h := depthT_none (rowL P) (rowL P).length
  rw [List.take_length] at h
  by_cases hd : depthL P = -1
  · have h1 := h.1 hd
    rw [hd, h1]; rfl
  · have h1 : ¬ rowL P = [] := fun e => hd (h.2 e)
    have h2 : (rowL P).length ≠ 0 := fun e => h1 (List.eq_nil_of_length_eq_zero e)
    have e1 : (((rowL P).length : Int) == 0) = false := by rw [beq_eq_false_iff_ne]; omega
    have e2 : (depthL P == -1) = false := by rw [beq_eq_false_iff_ne]; exact hd
    rw [e1, e2]
set_option maxHeartbeats 4000000 in
set_option maxRecDepth 20000 in
theorem law_order11 (hrow : RowPay 9) (hdep : DepthPay 11) (hrt : RightPays) (a : Option Addr) (c : Nat) (P : List Int) (w : World) (ha : Rd w w.heap.size a (intV P)) (hc1 : P.length ≤ maxLen) (hok : ∀ x ∈ P, -9223372036854775808 ≤ x ∧ x < 9223372036854775808) :
    Calls Try.prog 6 #[.slice a P.length c] w fun e w' => e = .returned (.bool true) ∧ Below w.heap.size w w' := by
  have HROW := Lib.hid hrow; have HDEP := Lib.hid hdep; have HRT := Lib.hid hrt; have HA := Lib.hid ha; have HOK := Lib.hid hok; clear hrow hdep hrt ha hok
  unfold maxLen at hc1
  by_cases hg : 60 < P.length
  · go_enter Try.func6, Try.ntmps6
    go_wp2_with (go_at_call 7; refine (fixed11_any HROW.out _).mono ?_; rintro e w2 ⟨rfl, hb2⟩)
    go_ret
    exact ⟨rfl, hb2⟩
  obtain ⟨R, hR, hrl, hor, hq1, hq2⟩ : ∃ R, R = rowL P ∧ R.length ≤ P.length ∧ (∀ i j (hij : i < j) (hj : j < R.length), R[i].place ≠ R[j].place ∧ (R[i].parent = R[j].parent → R[i].place < R[j].place)) ∧
      ((R.length : Int) == (P.length : Int)) = rightL P ∧ ((R.length : Int) == 0) = (depthL P == -1) := ⟨rowL P, rfl, row_le P, fun i j hij hj => row_order hij hj, row_full P, row_none P⟩
  have HOR := Lib.hid hor; have HQ1 := Lib.hid hq1; have HQ2 := Lib.hid hq2; clear hor hq1 hq2
  go_enter Try.func6, Try.ntmps6
  go_wp2_with (go_at_call 9
               refine (HROW.out a c P w HA.out (by omega) HOK.out).mono ?_; rintro e w3 ⟨v3, rfl, hown3, hb3⟩
               rw [← hR] at hown3
               clear hR
               obtain ⟨a3, c3, rfl, hlc1, hlc2, hlg⟩ := own_slice hown3
               have HO3 := Lib.hid hown3; have HB3 := Lib.hid hb3; clear hown3 hb3)
  go_loopw [16] (fun i wr => ∃ n : Nat, n ≤ R.length ∧ i = .int .i64 n ∧ Below w3.heap.size w3 wr) (fun i _ => R.length - (intOf i).toNat)
  case atStart => exact ⟨0, Nat.zero_le _, rfl, Below.refl _ _⟩
  case round =>
    obtain ⟨n, hn, rfl, hb⟩ := hrel
    have HB := Lib.hid hb; clear hb
    generalize wr = W1 at *
    by_cases hlt : n < R.length
    · obtain ⟨g, rfl, hg1, hg2⟩ := hlg (by omega)
      clear hlg
      have HO1 := Lib.hid (own_below HO3.out HB.out)
      obtain ⟨b1, o1, ha1, hb1, c0, c1, c2⟩ := (Rd.own HO1.out).item hlt
      obtain ⟨rfl, rfl⟩ := And.intro (Addr.mk.inj (Option.some.inj ha1)).1 (Addr.mk.inj (Option.some.inj ha1)).2.1
      simp only [Nat.zero_add] at c0 c1 c2
      have HORN := Lib.hid (fun j hj => HOR.out j n hj hlt)
      have i3 : (n : Int) < (R.length : Int) := by omega
      have i4 : (0 : Int) ≤ (n : Int) := by omega
      obtain ⟨x, hx⟩ : ∃ x, x = R[n] := ⟨_, rfl⟩
      rw [← hx] at c0 c1 c2 HORN
      clear ha1 hx
      have HBX := Lib.hid (BxI.new W1 x 35)
      have HB1 := Lib.hid (HB.out.alloc HB.out.size (.cells x.c 35))
      have HOV := Lib.hid (own_below HO1.out (box1 W1 (.cells x.c 35)))
      simp only [It.c] at HBX HB1 HOV
      go_wp2_with fail
      clear c0 c1 c2 HO1
      generalize (W1.alloc (.cells #[.int .i64 (x.place : Int), .int .i64 (x.depth : Int), .int .i64 x.parent] 35)) = V1 at *
      generalize W1.heap.size = bx at *
      go_loopw [25] (fun j wr2 => ∃ m : Nat, m ≤ n ∧ j = .int .i64 (m : Int) ∧ Below V1.heap.size V1 wr2) (fun j _ => n - (intOf j).toNat)
      case atStart => exact ⟨0, Nat.zero_le _, rfl, Below.refl _ _⟩
      case round =>
        obtain ⟨m, hm, rfl, hb2⟩ := hrel
        have HB2 := Lib.hid hb2; clear hb2
        generalize wr = W2 at *
        by_cases hml : m < n
        · have hmR : m < R.length := by omega
          have HO2 := Lib.hid (own_below HOV.out HB2.out)
          obtain ⟨b1, o1, ha1, hb1', c0, c1, c2⟩ := (Rd.own HO2.out).item hmR
          obtain ⟨rfl, rfl⟩ := And.intro (Addr.mk.inj (Option.some.inj ha1)).1 (Addr.mk.inj (Option.some.inj ha1)).2.1
          simp only [Nat.zero_add] at c0 c1 c2
          have HY := Lib.hid (HORN.out m hml)
          obtain ⟨y, hy⟩ : ∃ y, y = R[m] := ⟨_, rfl⟩
          rw [← hy] at c0 c1 c2 HY
          clear ha1 hy
          have j3 : (m : Int) < (n : Int) := by omega
          have j4 : (0 : Int) ≤ (m : Int) := by omega
          obtain ⟨_, d0, d1, d2⟩ := (HBX.out.below HB2.out HBX.out.1).below (box1 W2 (.cells y.c 35)) (Nat.lt_of_lt_of_le HBX.out.1 HB2.out.size)
          simp only [It.c] at d0 d1 d2
          have HB3 := Lib.hid (HB2.out.alloc HB2.out.size (.cells y.c 35))
          by_cases hp : y.parent = x.parent
          · have q1 : (y.parent == x.parent) = true := by simpa using hp
            have hlt2 := HY.out.2 hp
            have q2 : decide ((x.place : Int) ≤ (y.place : Int)) = false := decide_eq_false (by omega)
            have q3 : decide (x.place ≤ y.place) = false := decide_eq_false (by omega)
            clear hp
            go_wp2_with fail
            go_roundw
            case rel => exact ⟨m + 1, by omega, by go_num, HB3.out⟩
            case measure => simp [intOf]; omega
          · have q1 : (y.parent == x.parent) = false := by simpa using hp
            clear hp
            go_wp2_with fail
            go_roundw
            case rel => exact ⟨m + 1, by omega, by go_num, HB3.out⟩
            case measure => simp [intOf]; omega
        · have HBE := Lib.hid (HB1.out.trans (HB2.out.mono HB1.out.size))
          go_wp2_with fail
          go_roundw
          case rel => exact ⟨n + 1, by omega, by go_num, HBE.out⟩
          case measure => simp [intOf]; omega
    · obtain ⟨rb, hrb⟩ : ∃ rb, rb = rightL P := ⟨_, rfl⟩
      obtain ⟨D, hD⟩ : ∃ D, D = depthL P := ⟨_, rfl⟩
      obtain ⟨zb, hzb⟩ : ∃ zb, zb = (D == -1) := ⟨_, rfl⟩
      have q1 := HQ1.out
      have q2 := HQ2.out
      rw [← hrb] at q1
      rw [← hD, ← hzb] at q2
      have q3 := hzb.symm
      have HRB := Lib.hid hrb; have HDD := Lib.hid hD; clear hrb hD hzb
      have HBW := Lib.hid (bel2 HB3.out HB.out)
      clear HQ1 HQ2
      go_wp2_with (first
        | (go_at_call 7
           refine (fixed11_any HROW.out _).mono ?_; rintro e w5 ⟨rfl, hb5⟩
           have HB5 := Lib.hid (bel2 HBW.out hb5); clear hb5)
        | (go_at_call 17
           refine (HRT.out a c P w5 ((HA.out.below HB5.out).more HB5.out.size) (by omega) HOK.out).mono ?_; rintro e w6 ⟨rfl, hb6⟩
           rw [← HRB.out]
           have HB6 := Lib.hid (bel2 HB5.out hb6); clear hb6)
        | (go_at_call 11
           refine (HDEP.out a c P w6 ((HA.out.below HB6.out).more HB6.out.size) (by omega) HOK.out).mono ?_; rintro e w7 ⟨rfl, hb7⟩
           rw [← HDD.out]
           have HB7 := Lib.hid (bel2 HB6.out hb7); clear hb7))
      go_ret
      exact ⟨ret_bool (by simp), HB7.out⟩
end Go.Proofs.Ytkjngmlebflffaa
