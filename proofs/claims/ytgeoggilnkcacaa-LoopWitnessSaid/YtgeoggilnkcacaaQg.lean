import Derived.Test.YtgeoggilnkcacaaQf
namespace Go.Proofs.Ytgeoggilnkcacaa
open Go Go.RowKit Go.Sort
set_option linter.unusedVariables false

/-! The document's Solve, Same (stage 15). -/
/-- What Solve answers. -/
def SolveOut (n : Int) (E : List Ed) (w : World) (x : Ending) (w' : World) : Prop :=
  ((∃ (O : List Int) (a1 : Option Addr) (c1 : Nat), solveL n E = some O ∧ x = .returned (.tuple #[.slice a1 O.length c1, .bool true]) ∧ Rd w' w'.heap.size a1 (intV O)) ∨
    (solveL n E = none ∧ ∃ (a1 : Option Addr) (c1 : Nat), x = .returned (.tuple #[.slice a1 0 c1, .bool false]))) ∧ Below w.heap.size w w'
/-- .. and the offsets lie in blocks from the call on. -/
def SolveOutF (n : Int) (E : List Ed) (w : World) (x : Ending) (w' : World) : Prop :=
  ((∃ (O : List Int) (a1 : Option Addr) (c1 : Nat), solveL n E = some O ∧ x = .returned (.tuple #[.slice a1 O.length c1, .bool true]) ∧ Rd w' w'.heap.size a1 (intV O) ∧ From w.heap.size a1) ∨
    (solveL n E = none ∧ ∃ (a1 : Option Addr) (c1 : Nat), x = .returned (.tuple #[.slice a1 0 c1, .bool false]))) ∧ Below w.heap.size w w'
def SolvePay (F : Nat) : Prop := ∀ (n : Int) (a : Option Addr) (c : Nat) (E : List Ed) (w : World), Rd w w.heap.size a (edsV E) → E.length ≤ 100000 → (∀ e ∈ E, e.Ok) → I64 n →
  Calls Try.prog F #[.int .i64 n, .slice a E.length c] w (SolveOut n E w)
theorem lays_get {m k : Nat} {E : List Ed} (hr : mayE (m : Int) E = true) (hk : k ≤ m) (h : k < (laysL (m : Int) E).length) : (laysL (m : Int) E)[k] = rowQ m E k := by
  have e : laysL (m : Int) E = (List.range (m + 1)).map (rowQ m E) := by unfold laysL; rw [hr]; rfl
  simp [e]
theorem met_no {m h : Nat} {E : List Ed} (hh : h < m) (hlt : (rowQ m E m).getD h 0 < (rowQ m E (m - 1)).getD h 0) : metL m E = false := by
  unfold metL
  rw [List.all_eq_false]
  exact ⟨h, List.mem_range.2 hh, by rw [decide_eq_true_iff]; omega⟩
theorem met_yes {m : Nat} {E : List Ed} (h : ∀ h, h < m → (rowQ m E (m - 1)).getD h 0 ≤ (rowQ m E m).getD h 0) : metL m E = true := by
  unfold metL
  rw [List.all_eq_true]
  exact fun x hx => by simpa using h x (List.mem_range.1 hx)
set_option maxHeartbeats 8000000 in
theorem refSolve_from (n : Int) (a : Option Addr) (c : Nat) (E : List Ed) (w : World) (ha : Rd w w.heap.size a (edsV E)) (hl : E.length ≤ 100000) (hok : ∀ e ∈ E, e.Ok) (hn : I64 n) : Calls Try.prog 10 #[.int .i64 n, .slice a E.length c] w (SolveOutF n E w) := by
  have HC := Lib.hid (refLayers_from n a c E w ha hl hok hn); clear ha hok hn
  obtain ⟨r, hr⟩ : ∃ r, mayE n E = r := ⟨_, rfl⟩
  cases r with
  | false =>
    have e1 : laysL n E = [] := by unfold laysL; rw [hr]; rfl
    have HE : Hid (solveL n E = none) := by show _ = _; unfold solveL; rw [hr]; rfl
    rw [e1] at HC
    clear e1 hr
    go_enter Try.func10, Try.ntmps10
    go_wp2_with (go_at_call 18
                 refine HC.out.mono ?_
                 rintro x w1 ⟨a1, c1, a2, c2, rfl, _, _, hb1⟩
                 have HB1 := Lib.hid hb1; clear hb1)
    go_ret2
    exact ⟨.inr ⟨HE.out, none, 0, rfl⟩, HB1.out⟩
  | true =>
    obtain ⟨h0, h32, hE⟩ := mayE_iff.1 hr
    obtain ⟨m, rfl⟩ : ∃ m : Nat, n = (m : Int) := ⟨n.toNat, by omega⟩
    have hL1 : (laysL (m : Int) E).length = m + 1 := by unfold laysL; rw [hr]; simp
    have HLG := Lib.hid (fun k hk (h : k < (laysL (m : Int) E).length) => lays_get (E := E) (k := k) hr hk h)
    have HNO : Hid (metL m E = false → solveL (m : Int) E = none) := fun h => by unfold solveL; rw [hr, Int.toNat_natCast, h]; rfl
    have HYES : Hid (metL m E = true → solveL (m : Int) E = some (rowQ m E m)) := fun h => by unfold solveL; rw [hr, Int.toNat_natCast, h]; rfl
    have HL1 := Lib.hid hL1
    rw [hL1] at HC
    obtain ⟨y, hy⟩ : ∃ y, m + 1 = y := ⟨_, rfl⟩
    rw [hy] at HC HL1
    have hm32 : m ≤ 32 := by omega
    have i1 : ¬ ((y : Int) = 0) := by omega
    have i1' : ¬ (y = 0) := by omega
    have i1'' : ((y : Int) == 0) = false := by simp; omega
    have i2 : (m : Int) < (y : Int) := by omega
    clear hL1 hr hE
    go_enter Try.func10, Try.ntmps10
    go_wp2_with (go_at_call 18
                 refine HC.out.mono ?_
                 rintro x w1 ⟨a1, c1, a2, c2, rfl, hr1, _, hb1⟩
                 have HR1 := Lib.hid hr1
                 have HB1 := Lib.hid hb1; clear hb1 hr1)
    obtain ⟨b1, o1, ha1, hlt1, u1, d1, hc1, hu1, hfu1⟩ := HR1.out.get (i := m) (g := rowQ m E m) (by rw [HL1.out]; omega) (HLG.out m (Nat.le_refl _) (by rw [HL1.out]; omega))
    subst ha1
    rw [rowQ_length] at hc1
    have HU1 := Lib.hid hu1; have HFU := Lib.hid hfu1; clear hu1 hfu1
    go_loopw [8] (fun vi wr => ∃ h : Nat, h ≤ m ∧ vi = .int .i64 (h : Int) ∧ (∀ j, j < h → (rowQ m E (m - 1)).getD j 0 ≤ (rowQ m E m).getD j 0) ∧ Below w1.heap.size w1 wr) (fun vi _ => m - (intOf vi).toNat)
    case atStart => exact ⟨0, Nat.zero_le _, rfl, fun j hj => absurd hj (Nat.not_lt_zero _), Below.refl _ _⟩
    case round =>
      obtain ⟨h, hh, rfl, ht, hb⟩ := hrel
      have HT := Lib.hid ht; have HW := Lib.hid hb
      have hc2 := (hb.cell (p := ⟨b1, o1 + m, none⟩) hlt1).trans hc1
      clear ht hb
      generalize wr = W2 at *
      by_cases hlt : h < m
      · obtain ⟨k, hk⟩ : ∃ k, m - 1 = k := ⟨_, rfl⟩
        rw [hk] at HT
        obtain ⟨b2, o2, ha2, hlt2, u2, d2, hc3, hu2, _⟩ := HR1.out.get (i := k) (g := rowQ m E k) (by rw [HL1.out]; omega) (HLG.out k (by omega) (by rw [HL1.out]; omega))
        obtain ⟨rfl, rfl⟩ := And.intro (Addr.mk.inj (Option.some.inj ha2)).1 (Addr.mk.inj (Option.some.inj ha2)).2.1
        rw [rowQ_length] at hc3
        have hc4 := (HW.out.cell (p := ⟨b1, o1 + k, none⟩) hlt2).trans hc3
        obtain ⟨b3, o3, hb3, _, e3⟩ := (HU1.out.below HW.out).num (i := h) (by rw [rowQ_length]; exact hlt)
        obtain ⟨b4, o4, hb4, _, e4⟩ := (hu2.below HW.out).num (i := h) (by rw [rowQ_length]; exact hlt)
        subst hb3 hb4
        have g1 : (rowQ m E m).getD h 0 = (rowQ m E m)[h]'(by rw [rowQ_length]; exact hlt) := by rw [List.getD_eq_getElem?_getD, List.getElem?_eq_getElem]; rfl
        have g2 : (rowQ m E k).getD h 0 = (rowQ m E k)[h]'(by rw [rowQ_length]; exact hlt) := by rw [List.getD_eq_getElem?_getD, List.getElem?_eq_getElem]; rfl
        rw [← g1] at e3
        rw [← g2] at e4
        have HNO1 := Lib.hid (fun c => HNO.out (met_no (E := E) hlt (by rw [hk]; exact c)))
        have HT1 : Hid ((rowQ m E k).getD h 0 ≤ (rowQ m E m).getD h 0 → ∀ j, j < h + 1 → (rowQ m E (m - 1)).getD j 0 ≤ (rowQ m E m).getD j 0) := fun c j hj => by
          rw [hk]
          by_cases e : j = h
          · subst e; exact c
          · exact HT.out j (by omega)
        generalize (rowQ m E m).getD h 0 = x1 at *
        generalize (rowQ m E k).getD h 0 = x2 at *
        have j1 : (h : Int) < (m : Int) := by omega
        have j2 : (0 : Int) ≤ (h : Int) := by omega
        have j3 : IntKind.i64.wrap ((m : Int) - 1) = (k : Int) := by rw [IntWalk.i64_in _ (by omega)]; omega
        have j4 : (k : Int) < (y : Int) := by omega
        have j5 : (0 : Int) ≤ (k : Int) := by omega
        clear ha2 hu2 hc3 g1 g2
        by_cases hx : x1 < x2
        · have HE := Lib.hid (HNO1.out hx)
          go_wp2_with fail
          go_quiet (fail)
          go_wp2_with fail
          go_ret2
          exact ⟨.inr ⟨HE.out, none, 0, rfl⟩, Below_drewN (bel2 HB1.out HW.out) _⟩
        · have HE := Lib.hid (HT1.out (by omega))
          go_wp2_with fail
          go_quiet (fail)
          go_wp2_with fail
          go_roundw
          case rel => exact ⟨h + 1, by omega, by go_num, HE.out, Below_drewN HW.out _⟩
          case measure => simp [intOf]; omega
      · obtain rfl : m = h := by omega
        have HE := Lib.hid (HYES.out (met_yes HT.out))
        have HU2 := Lib.hid ((HU1.out.below HW.out).more HW.out.size)
        have HB2 := Lib.hid (bel2 HB1.out HW.out)
        have HRL : Hid ((rowQ m E m).length = m) := rowQ_length _ _ _
        generalize rowQ m E m = O at *
        go_wp2_with fail
        go_ret2
        refine ⟨.inl ⟨O, u1, d1, HE.out, ?_, HU2.out, HFU.out⟩, HB2.out⟩
        rw [HRL.out]; rfl
theorem refSolve_any : SolvePay 10 := fun n a c E w ha hl hok hn => (refSolve_from n a c E w ha hl hok hn).mono fun _ _ h => by
  obtain ⟨h1, h2⟩ := h
  refine ⟨h1.imp (fun h => ?_) id, h2⟩
  obtain ⟨O, a1, c1, e1, e2, e3, _⟩ := h
  exact ⟨O, a1, c1, e1, e2, e3⟩
end Go.Proofs.Ytgeoggilnkcacaa

