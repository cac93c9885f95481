import Derived.Test.YtohbbjlkmglnmaaQi
namespace Go.Proofs.Ytohbbjlkmglnmaa
open Go Go.RowKit Go.Sort
set_option linter.unusedVariables false

/-! The laws of stage 15: RelaxHolds, RelaxTight. -/
set_option maxHeartbeats 8000000 in
theorem law_holds15 (hs : SolvePay 15) (n : Int) (a : Option Addr) (c : Nat) (E : List Ed) (w : World) (ha : Rd w w.heap.size a (edsV E)) (hc1 : E.length ≤ maxLen) (hok : ∀ e ∈ E, e.Ok) (hn : I64 n) :
    Calls Try.prog 4 #[.int .i64 n, .slice a E.length c] w fun e w' => e = .returned (.bool true) ∧ Below w.heap.size w w' := by
  have HF := Lib.hid (fun w => fixed15_any hs w)
  have HS := Lib.hid hs; have HA := Lib.hid ha; have HOK := Lib.hid hok; have HN := Lib.hid hn
  clear hs ha hok hn
  unfold maxLen at hc1
  by_cases hg : 100 < E.length
  · have i1 : (100 : Int) < (E.length : Int) := by omega
    go_enter Try.func4, Try.ntmps4
    go_wp2_with (go_at_call 8; refine (HF.out _).mono ?_; rintro x w1 ⟨rfl, hb1⟩; have HB1 := Lib.hid hb1; clear hb1)
    go_ret
    exact ⟨rfl, HB1.out⟩
  have i1 : ¬ (100 : Int) < (E.length : Int) := by omega
  have hl : E.length ≤ 100000 := by omega
  cases hso : solveL n E with
  | none =>
    go_enter Try.func4, Try.ntmps4
    go_wp2_with (first
      | (go_at_call 15
         refine (solve_none (HS.out n a c E w HA.out hl HOK.out HN.out) hso).mono ?_
         rintro x w1 ⟨a1, c1, rfl, hb1⟩
         have HB1 := Lib.hid hb1; clear hb1)
      | (go_at_call 8; refine (HF.out _).mono ?_; rintro x w2 ⟨rfl, hb2⟩; have HB2 := Lib.hid (bel2 HB1.out hb2); clear hb2))
    go_ret
    exact ⟨rfl, HB2.out⟩
  | some O =>
    obtain ⟨m, hS⟩ := solved_is hso
    have HSV := Lib.hid hS
    obtain rfl := hS.eq
    have hm32 := hS.le
    have HLEN := Lib.hid hS.len
    have HC : ∀ w, Rd w w.heap.size a (edsV E) → Calls Try.prog 15 #[.int .i64 (m : Int), .slice a E.length c] w fun x w' => ∃ a1 c1, x = .returned (.tuple #[.slice a1 m c1, .bool true]) ∧ Rd w' w'.heap.size a1 (intV O) ∧ Below w.heap.size w w' := fun w h => by
      have := solve_some (HS.out (m : Int) a c E w h hl HOK.out HN.out) hso
      rw [HLEN.out] at this; exact this
    have HCC := Lib.hid HC
    clear HC hS hso HS
    go_enter Try.func4, Try.ntmps4
    go_wp2_with fail
    refine (HCC.out w HA.out).mono ?_
    rintro x w1 ⟨a1, c1, rfl, hr1, hb1⟩
    have HB1 := Lib.hid hb1; have HR1 := Lib.hid hr1
    have HA1 := Lib.hid ((HA.out.below hb1).more hb1.size)
    clear hb1 hr1
    go_wp2_with fail
    go_loopw [29] (fun vi wr => ∃ k : Nat, k ≤ m ∧ vi = .int .i64 (k : Int) ∧ Below w1.heap.size w1 wr) (fun vi _ => m - (intOf vi).toNat)
    case atStart => exact ⟨0, Nat.zero_le _, rfl, Below.refl _ _⟩
    case round =>
      obtain ⟨k, hk, rfl, hb⟩ := hrel
      have HW := Lib.hid hb; clear hb
      generalize wr = W2 at *
      by_cases hlt : k < m
      · have hk' : k < O.length := by rw [HLEN.out]; exact hlt
        obtain ⟨b1, o1, ha1, _, d1⟩ := (HR1.out.below HW.out).num hk'
        subst ha1
        have ht := HSV.out.top O[k] (List.getElem_mem _)
        generalize O[k] = x at *
        have j1 : (k : Int) < (m : Int) := by omega
        have j2 : (0 : Int) ≤ (k : Int) := by omega
        have j3 : ¬ (0 < x) := by omega
        have j4 : ¬ (x < -288230376151711744) := by omega
        have j5 : x ≤ 0 := by omega
        have j6 : -288230376151711744 ≤ x := by omega
        go_wp2_with fail
        go_roundw
        case rel => exact ⟨k + 1, by omega, by go_num, HW.out⟩
        case measure => simp [intOf]; omega
      · obtain rfl : m = k := by omega
        have HB2 := Lib.hid (bel2 HB1.out HW.out)
        have HR2 := Lib.hid ((HR1.out.below HW.out).more HW.out.size)
        have HA2 := Lib.hid ((HA1.out.below HW.out).more HW.out.size)
        have hall := HSV.out.all
        have hnum : Nums O := fun x hx => by have := HSV.out.top x hx; unfold I64; omega
        have HAC : ∀ w', Rd w' w'.heap.size a (edsV E) → Rd w' w'.heap.size a1 (intV O) → Calls Try.prog 17 #[.slice a E.length c, .slice a1 m c1] w' fun x w'' => x = .returned (.bool true) ∧ Below w'.heap.size w' w'' := fun w' h1 h2 => by
          have := refAll_any a c E a1 c1 O w' h1 HOK.out hl h2 hnum (by unfold maxLen; rw [HLEN.out]; omega)
          rw [HLEN.out, hall] at this; exact this
        have HACC := Lib.hid HAC
        clear HAC hall hnum HCC
        go_wp2_with fail
        refine (HF.out _).mono ?_
        rintro x w3 ⟨rfl, hb3⟩
        have HB3 := Lib.hid (bel2 HB2.out hb3); have HR3 := Lib.hid ((HR2.out.below hb3).more hb3.size); have HA3 := Lib.hid ((HA2.out.below hb3).more hb3.size)
        clear hb3
        go_wp2_with fail
        refine (HACC.out w3 HA3.out HR3.out).mono ?_
        rintro x w4 ⟨rfl, hb4⟩
        have HB4 := Lib.hid (bel2 HB3.out hb4)
        clear hb4
        go_wp2_with fail
        go_ret
        exact ⟨rfl, HB4.out⟩
end Go.Proofs.Ytohbbjlkmglnmaa

