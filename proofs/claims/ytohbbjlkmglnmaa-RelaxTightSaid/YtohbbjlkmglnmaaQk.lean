import Derived.Test.YtohbbjlkmglnmaaQj
namespace Go.Proofs.Ytohbbjlkmglnmaa
open Go Go.RowKit Go.Sort
set_option linter.unusedVariables false

/-! The laws of stage 15: RelaxTight. -/
def tightB (O : List Int) (h : Nat) (x : Int) (e : Ed) : Bool := decide (e.to_ = (h : Int)) && decide (e.fr ≠ (h : Int)) && decide (O.getD e.fr.toNat 0 + e.wt = x)
theorem tight_take {O : List Int} {h j : Nat} {x : Int} {E : List Ed} (hj : j < E.length) : (E.take (j + 1)).any (tightB O h x) = ((E.take j).any (tightB O h x) || tightB O h x E[j]) := by
  rw [List.take_succ_eq_append_getElem hj, List.any_append]; simp
theorem tight_end {n : Int} {m : Nat} {E : List Ed} {O : List Int} (hS : Solved n E m O) {h : Nat} (hh : h < m) : (decide (O.getD h 0 = 0) || E.any (tightB O h (O.getD h 0))) = true := by
  by_cases h0 : O.getD h 0 = 0
  · rw [decide_eq_true h0]; rfl
  · have hlen := hS.len
    have hm : O.getD h 0 ∈ O := by
      have : O.getD h 0 = O[h] := by simp [List.getD, hlen, hh]
      rw [this]; exact List.getElem_mem _
    have := hS.top _ hm
    obtain ⟨e, he, e1, e2, e3⟩ := hS.tight h hh (by omega)
    rw [Bool.or_eq_true]
    refine .inr (List.any_eq_true.2 ⟨e, he, ?_⟩)
    unfold tightB
    rw [decide_eq_true e1, decide_eq_true e2, decide_eq_true e3]; rfl
set_option maxHeartbeats 16000000 in
theorem law_tight15 (hs : SolvePay 15) (n : Int) (a : Option Addr) (c : Nat) (E : List Ed) (w : World) (ha : Rd w w.heap.size a (edsV E)) (hc1 : E.length ≤ maxLen) (hok : ∀ e ∈ E, e.Ok) (hn : I64 n) :
    Calls Try.prog 7 #[.int .i64 n, .slice a E.length c] w fun e w' => e = .returned (.bool true) ∧ Below w.heap.size w w' := by
  have HF := Lib.hid (fun w => fixed15_any hs w)
  have HS := Lib.hid hs; have HA := Lib.hid ha; have HOK := Lib.hid hok; have HN := Lib.hid hn
  clear hs ha hok hn
  unfold maxLen at hc1
  by_cases hg : 100 < E.length
  · have i1 : (100 : Int) < (E.length : Int) := by omega
    go_enter Try.func7, Try.ntmps7
    go_wp2_with (go_at_call 8; refine (HF.out _).mono ?_; rintro x w1 ⟨rfl, hb1⟩; have HB1 := Lib.hid hb1; clear hb1)
    go_ret
    exact ⟨rfl, HB1.out⟩
  have i1 : ¬ (100 : Int) < (E.length : Int) := by omega
  have hl : E.length ≤ 100000 := by omega
  cases hso : solveL n E with
  | none =>
    go_enter Try.func7, Try.ntmps7
    go_wp2_with (first
      | (go_at_call 15
         refine (solve_none (HS.out n a c E w HA.out hl HOK.out HN.out) hso).mono ?_
         rintro x w1 ⟨a1, c1, rfl, hb1⟩
         have HB1 := Lib.hid hb1; clear hb1)
      | (go_at_call 8; refine (HF.out _).mono ?_; rintro x w2 ⟨rfl, hb2⟩; have HB2 := Lib.hid (bel2 HB1.out hb2); clear hb2))
    go_ret
    exact ⟨rfl, HB2.out⟩
  | some O =>
    obtain ⟨m, hS⟩ := solved_is hso
    have HSV := Lib.hid hS
    obtain rfl := hS.eq
    have hm32 := hS.le
    have HLEN := Lib.hid hS.len
    have HC : ∀ w, Rd w w.heap.size a (edsV E) → Calls Try.prog 15 #[.int .i64 (m : Int), .slice a E.length c] w fun x w' => ∃ a1 c1, x = .returned (.tuple #[.slice a1 m c1, .bool true]) ∧ Rd w' w'.heap.size a1 (intV O) ∧ Below w.heap.size w w' := fun w h => by
      have := solve_some (HS.out (m : Int) a c E w h hl HOK.out HN.out) hso
      rw [HLEN.out] at this; exact this
    have HCC := Lib.hid HC
    clear HC hS hso HS
    go_enter Try.func7, Try.ntmps7
    go_wp2_with fail
    refine (HCC.out w HA.out).mono ?_
    rintro x w1 ⟨a1, c1, rfl, hr1, hb1⟩
    have HB1 := Lib.hid hb1; have HR1 := Lib.hid hr1
    have HA1 := Lib.hid ((HA.out.below hb1).more hb1.size)
    clear hb1 hr1 HCC
    go_wp2_with fail
    go_loopw [27] (fun vi wr => ∃ k : Nat, k ≤ m ∧ vi = .int .i64 (k : Int) ∧ Below w1.heap.size w1 wr) (fun vi _ => m - (intOf vi).toNat)
    case atStart => exact ⟨0, Nat.zero_le _, rfl, Below.refl _ _⟩
    case round =>
      obtain ⟨h, hk, rfl, hb⟩ := hrel
      have HW := Lib.hid hb
      have hBs := hb.size
      clear hb
      generalize wr = W2 at *
      by_cases hlt : h < m
      · have hk' : h < O.length := by rw [HLEN.out]; exact hlt
        obtain ⟨b1, o1, ha1, hlb1, d1⟩ := (HR1.out.below HW.out).num hk'
        subst ha1
        have HEND := Lib.hid (tight_end HSV.out hlt)
        have g1 : O.getD h 0 = O[h] := by simp [List.getD, hk']
        rw [g1] at HEND
        have hx := HSV.out.top O[h] (List.getElem_mem _)
        have HTK := Lib.hid (fun j (hj : j < E.length) => tight_take (O := O) (h := h) (x := O[h]) hj)
        generalize O[h] = x at *
        have j1 : (h : Int) < (m : Int) := by omega
        have j2 : (0 : Int) ≤ (h : Int) := by omega
        obtain ⟨t0, ht0⟩ : ∃ t0, (x == 0) = t0 := ⟨_, rfl⟩
        have HT0 : Hid (decide (x = 0) = t0) := by show _ = _; rw [← ht0]; simp [BEq.beq]
        go_wp2_with fail
        go_loopw [9, 36] (fun vt vi wr => ∃ (j : Nat) (t : Bool), j ≤ E.length ∧ vi = .int .i64 (j : Int) ∧ vt = .bool t ∧ (decide (x = 0) || (E.take j).any (tightB O h x)) = t ∧ Below w1.heap.size w1 wr) (fun _ vi _ => E.length - (intOf vi).toNat)
        case atStart => exact ⟨0, t0, Nat.zero_le _, rfl, rfl, by rw [HT0.out]; simp, HW.out⟩
        clear d1 g1 ht0 HT0
        case round =>
          obtain ⟨j, t, hj, rfl, rfl, ht, hb5⟩ := hrel
          have HT := Lib.hid ht; have HW5 := Lib.hid hb5
          have hB5 := hb5.size
          clear ht hb5
          generalize wr = W5 at *
          by_cases hlt2 : j < E.length
          · obtain ⟨b2, o2, ha2, hlb2, hEd⟩ := (HA1.out.below HW5.out).edge hlt2
            subst ha2
            have HTJ := Lib.hid (HTK.out j hlt2)
            have hok := edOk_iff.1 (HSV.out.ok E[j] (List.getElem_mem _))
            generalize E[j] = e at *
            obtain ⟨c0, c1', c2, c3, c4, c5⟩ := hEd
            obtain ⟨ef, y, z, p, q, en⟩ := e
            simp only at c0 c1' c2 c3 c4 c5 hok
            obtain ⟨f, rfl⟩ : ∃ f : Nat, ef = (f : Int) := ⟨ef.toNat, by omega⟩
            have hf : f < O.length := by rw [HLEN.out]; omega
            obtain ⟨b3, o3, hb3, hlb3, c6⟩ := (HR1.out.below HW5.out).num hf
            obtain ⟨rfl, rfl⟩ := And.intro (Addr.mk.inj (Option.some.inj hb3)).1 (Addr.mk.inj (Option.some.inj hb3)).2.1
            have gf : O.getD (f : Int).toNat 0 = O[f] := by simp [List.getD, hf]
            have hlow := HSV.out.top O[f] (List.getElem_mem _)
            have HV : Hid (tightB O h x ⟨(f : Int), y, z, p, q, en⟩ = (decide (y = (h : Int)) && decide ((f : Int) ≠ (h : Int)) && decide (O[f] + z = x))) := by
              show _ = _
              unfold tightB
              simp only []
              rw [gf]
            generalize O[f] = u at *
            generalize tightB O h x ⟨(f : Int), y, z, p, q, en⟩ = tb at *
            have k1 : (j : Int) < (E.length : Int) := by omega
            have k2 : (0 : Int) ≤ (j : Int) := by omega
            have k3 : (f : Int) < (m : Int) := by omega
            have k4 : (0 : Int) ≤ (f : Int) := by omega
            have k6 : b1 < W5.heap.size := by omega
            have k7 : ¬ (b1 = W5.heap.size) := by omega
            have k8 : f < m := by omega
            have k5 : IntKind.i64.wrap (u + z) = u + z := IntWalk.i64_in _ (by omega)
            obtain ⟨q1, hq1⟩ : ∃ q1, (y == (h : Int)) = q1 := ⟨_, rfl⟩
            obtain ⟨q2, hq2⟩ : ∃ q2, ((f : Int) == (h : Int)) = q2 := ⟨_, rfl⟩
            have hq2' : ((f : Int) != (h : Int)) = !q2 := by rw [← hq2]; rfl
            obtain ⟨q3, hq3⟩ : ∃ q3, (u + z == x) = q3 := ⟨_, rfl⟩
            have HV2 : Hid (tb = (q1 && !q2 && q3)) := by
              show _ = _
              rw [HV.out, ← hq1, ← hq2, ← hq3]
              simp [BEq.beq]
            have HGO : Hid (∀ t', t' = (t || tb) → (decide (x = 0) || (E.take (j + 1)).any (tightB O h x)) = t') := fun t' e => by
              rw [HTJ.out, ← Bool.or_assoc, HT.out, e]
            clear hb3 gf HV HTJ HTK
            cases t with
            | true =>
              go_wp2_with fail
              go_quiet (fail)
              go_wp2_with fail
              go_roundw
              case rel => exact ⟨j + 1, _, by omega, by go_num, rfl, HGO.out _ (by rw [HV2.out]; simp), Below_drewN (HW5.out.alloc hB5 _) _⟩
              case measure => simp [intOf]; omega
            | false =>
              cases q1 with
              | false =>
                go_wp2_with fail
                go_quiet (fail)
                go_wp2_with fail
                go_roundw
                case rel => exact ⟨j + 1, _, by omega, by go_num, rfl, HGO.out _ (by rw [HV2.out]; rfl), Below_drewN (HW5.out.alloc hB5 _) _⟩
                case measure => simp [intOf]; omega
              | true =>
                cases q2 with
                | true =>
                  go_wp2_with fail
                  go_quiet (fail)
                  go_wp2_with fail
                  go_roundw
                  case rel => exact ⟨j + 1, _, by omega, by go_num, rfl, HGO.out _ (by rw [HV2.out]; rfl), Below_drewN (HW5.out.alloc hB5 _) _⟩
                  case measure => simp [intOf]; omega
                | false =>
                  cases q3 with
                  | false =>
                    go_wp2_with fail
                    go_quiet (fail)
                    go_wp2_with fail
                    go_roundw
                    case rel => exact ⟨j + 1, _, by omega, by go_num, rfl, HGO.out _ (by rw [HV2.out]; rfl), Below_drewN (HW5.out.alloc hB5 _) _⟩
                    case measure => simp [intOf]; omega
                  | true =>
                    go_wp2_with fail
                    go_quiet (fail)
                    go_wp2_with fail
                    go_roundw
                    case rel => exact ⟨j + 1, _, by omega, by go_num, rfl, HGO.out _ (by rw [HV2.out]; rfl), Below_drewN (HW5.out.alloc hB5 _) _⟩
                    case measure => simp [intOf]; omega
          · obtain rfl : j = E.length := by omega
            have HE := HT.out
            rw [List.take_length, HEND.out] at HE
            subst HE
            go_wp2_with fail
            go_roundw
            case rel => exact ⟨h + 1, by omega, by go_num, HW5.out⟩
            case measure => simp [intOf]; omega
      · obtain rfl : m = h := by omega
        have HB2 := Lib.hid (bel2 HB1.out HW.out)
        go_wp2_with fail
        refine (HF.out _).mono ?_
        rintro x w3 ⟨rfl, hb3⟩
        have HB3 := Lib.hid (bel2 HB2.out hb3)
        clear hb3
        go_wp2_with fail
        go_ret
        exact ⟨rfl, HB3.out⟩
end Go.Proofs.Ytohbbjlkmglnmaa

