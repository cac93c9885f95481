import Derived.Test.YteaafjkgopmmdaaIb
import Derived.Test.YteaafjkgopmmdaaGe
import Derived.Laws.Externs
import Derived.Deep.RegionHeldLaw
namespace Go.Proofs.Yteaafjkgopmmdaa
open Go Go.RowKit Go.Sort
set_option linter.unusedVariables false

/-! Numbers of 128 bits: the landed code's (stage 14). -/
/-- A whole number as its high and its low 64 bits. -/
def wd (n : Int) : Value := .agg #[.int .i64 (n / 18446744073709551616), .int .u64 (n % 18446744073709551616)]
theorem add64_run (x y : Int) (hx : 0 ≤ x) (hy : 0 ≤ y) (w : World) :
    (callFunc 37 #[.int .u64 x, .int .u64 y, .int .u64 0]).run Try.prog w =
      .ok (.value (.tuple #[.int .u64 ((x + y) % 18446744073709551616), .int .u64 ((x + y) / 18446744073709551616)])) w := by
  rw [run_callFunc_extern Try.func37 (by kernel_rfl) (by kernel_rfl) (by kernel_rfl) (e := add64Entry) (by kernel_rfl), run_add64 x y 0 hx hy (by omega) (by omega)]
  simp only [Result.andThen, Int.add_zero]
theorem u64_wrap14 (x : Int) : IntKind.u64.wrap x = x % 18446744073709551616 := by
  simp [IntKind.wrap, IntKind.bits, IntKind.signed]
theorem load_wd (w : World) (x y : Int) (n : Nat) (hn : n = w.heap.size) : (loadVar 51 ⟨n, 0, none⟩).run Try.prog (w.alloc (.cells #[.int .i64 x, .int .u64 y] 51)) = .ok (.agg #[.int .i64 x, .int .u64 y]) (w.alloc (.cells #[.int .i64 x, .int .u64 y] 51)) :=
  run_loadVar_mid (P := Try.prog) _ _ 0 51 _ _ (rangeAt_last w #[.int .i64 x, .int .u64 y] 51 _ hn) Try.underlying51 rfl (by kernel_rfl)
set_option maxHeartbeats 2000000 in
theorem widened_any (n : Int) (w : World) (h : I64 n) :
    Calls Try.prog 25 #[.int .i64 n] w fun e w' => e = .returned (wd n) ∧ Below w.heap.size w w' := by
  unfold I64 at h
  have e0 : n / 9223372036854775808 = n / 18446744073709551616 := by omega
  have e1 := u64_wrap14 n
  go_enter Try.func25, Try.ntmps25
  go_wp2_with fail
  exact bodyPost_ret (v := wd n) (results_cell (p := 2) (ty := 51) (b := w.heap.size) rfl rfl (load_wd w _ _ _ rfl)) rfl ⟨rfl, box1 _ _⟩
set_option maxHeartbeats 2000000 in
theorem below_any (a b : Int) (w : World) :
    Calls Try.prog 27 #[wd a, wd b] w fun e w' => e = .returned (.bool (decide (a < b))) ∧ Below w.heap.size w w' := by
  unfold wd
  obtain ⟨x, hx⟩ : ∃ x, a / 18446744073709551616 = x := ⟨_, rfl⟩
  obtain ⟨y, hy⟩ : ∃ y, a % 18446744073709551616 = y := ⟨_, rfl⟩
  obtain ⟨u, hu⟩ : ∃ u, b / 18446744073709551616 = u := ⟨_, rfl⟩
  obtain ⟨v, hv⟩ : ∃ v, b % 18446744073709551616 = v := ⟨_, rfl⟩
  rw [hx, hy, hu, hv]
  by_cases e : x = u
  · subst e
    have HE : Hid (decide (a < b) = decide (y < v)) := by show _ = _; rw [Bool.eq_iff_iff, decide_eq_true_iff, decide_eq_true_iff]; omega
    clear hx hy hu hv
    rw [HE.out]
    go_enter Try.func27, Try.ntmps27
    go_wp2_with fail
    go_ret
    exact ⟨rfl, bel2 (box1 _ _) (box1 _ _)⟩
  · have HE : Hid (decide (a < b) = decide (x < u)) := by show _ = _; rw [Bool.eq_iff_iff, decide_eq_true_iff, decide_eq_true_iff]; omega
    clear hx hy hu hv
    rw [HE.out]
    go_enter Try.func27, Try.ntmps27
    go_wp2_with fail
    go_ret
    exact ⟨rfl, bel2 (box1 _ _) (box1 _ _)⟩
set_option maxHeartbeats 2000000 in
theorem plus_any (a b : Int) (w : World) (ha : I64 a) (hb : I64 b) :
    Calls Try.prog 26 #[wd a, wd b] w fun e w' => e = .returned (wd (a + b)) ∧ Below w.heap.size w w' := by
  unfold I64 at ha hb
  have HA := fun x y hx hy w => add64_run x y hx hy w
  unfold wd
  obtain ⟨x, hx⟩ : ∃ x, a / 18446744073709551616 = x := ⟨_, rfl⟩
  obtain ⟨y, hy⟩ : ∃ y, a % 18446744073709551616 = y := ⟨_, rfl⟩
  obtain ⟨u, hu⟩ : ∃ u, b / 18446744073709551616 = u := ⟨_, rfl⟩
  obtain ⟨v, hv⟩ : ∃ v, b % 18446744073709551616 = v := ⟨_, rfl⟩
  have y0 : 0 ≤ y := by omega
  have v0 : 0 ≤ v := by omega
  obtain ⟨l, hl⟩ : ∃ l, (y + v) % 18446744073709551616 = l := ⟨_, rfl⟩
  obtain ⟨c, hc⟩ : ∃ c, (y + v) / 18446744073709551616 = c := ⟨_, rfl⟩
  have hadd := HA y v y0 v0
  rw [hl, hc] at hadd
  have e1 : (a + b) / 18446744073709551616 = x + u + c := by omega
  have e2 : (a + b) % 18446744073709551616 = l := by omega
  rw [hx, hy, hu, hv, e1, e2]
  have r1 : -9223372036854775808 ≤ x + u ∧ x + u < 9223372036854775808 := by omega
  have r2 : -9223372036854775808 ≤ x + u + c ∧ x + u + c < 9223372036854775808 := by omega
  have r3 : -9223372036854775808 ≤ c ∧ c < 9223372036854775808 := by omega
  have r4 : 0 ≤ c ∧ c < 18446744073709551616 := by omega
  clear hx hy hu hv e1 e2 hl hc HA
  go_enter Try.func26, Try.ntmps26
  go_wp2_with (simp only [hadd])
  refine bodyPost_ret (v := .agg #[.int .i64 (x + u + c), .int .u64 l]) (results_cell (p := 4) (ty := 51) (b := w.heap.size + 1 + 1) rfl rfl (load_wd _ _ _ _ (by simp))) rfl ⟨rfl, bel2 (bel2 (box1 _ _) (box1 _ _)) (box1 _ _)⟩
set_option maxHeartbeats 2000000 in
theorem isPlace_any (x : Int) (a : Option Addr) (n c : Nat) (w : World) :
    Calls Try.prog 24 #[.int .i64 x, .slice a n c] w fun e w' => e = .returned (.bool (decide (0 ≤ x ∧ x < (n : Int)))) ∧ w = w' := by
  by_cases h0 : 0 ≤ x
  · by_cases h1 : x < (n : Int)
    · have HE : Hid (decide (0 ≤ x ∧ x < (n : Int)) = true) := decide_eq_true ⟨h0, h1⟩
      rw [HE.out]
      go_enter Try.func24, Try.ntmps24
      go_wp2
      go_ret
      exact ⟨rfl, rfl⟩
    · have HE : Hid (decide (0 ≤ x ∧ x < (n : Int)) = false) := decide_eq_false (fun h => h1 h.2)
      rw [HE.out]
      go_enter Try.func24, Try.ntmps24
      go_wp2
      go_ret
      exact ⟨rfl, rfl⟩
  · have HE : Hid (decide (0 ≤ x ∧ x < (n : Int)) = false) := decide_eq_false (fun h => h0 h.1)
    rw [HE.out]
    go_enter Try.func24, Try.ntmps24
    go_wp2
    go_ret
    exact ⟨rfl, rfl⟩
/-- Where the numbers of 'most' lie. -/
def MB (V w : World) (s : Value) (hi lo : Int) : Prop := ∃ b, s = .pointer (some ⟨b, 0, none⟩) ∧ V.heap.size ≤ b ∧ b < w.heap.size ∧ w.cell? ⟨b, 0, none⟩ = some (.int .i64 hi) ∧ w.cell? ⟨b, 1, none⟩ = some (.int .u64 lo) ∧ RowKit.Below V.heap.size V w
theorem MB.mk {V w : World} {b : Nat} {hi lo : Int} (h1 : V.heap.size ≤ b) (h2 : b < w.heap.size) (hb : RowKit.Below V.heap.size V w) (h : (∃ w0 : World, b = w0.heap.size ∧ w = w0.alloc (.cells #[.int .i64 hi, .int .u64 lo] 51)) ∨ ∃ w0 : World, w = (w0.setCell ⟨b, 0, none⟩ (.int .i64 hi)).setCell ⟨b, 1, none⟩ (.int .u64 lo) ∧ w0.cell? ⟨b, 0, none⟩ = some (.int .i64 0) ∧ w0.cell? ⟨b, 1, none⟩ = some (.int .u64 0)) : MB V w (.pointer (some ⟨b, 0, none⟩)) hi lo := by
  rcases h with ⟨w0, rfl, rfl⟩ | ⟨w0, rfl, h3, h4⟩
  · exact ⟨_, rfl, h1, h2, by simp, by simp, hb⟩
  · refine ⟨_, rfl, h1, h2, ?_, ?_, hb⟩
    · have hne : (⟨b, 1, none⟩ : Addr) ≠ ⟨b, 0, none⟩ := by intro h; cases h
      rw [World.cell?_setCell_other (h := hne)]; exact World.cell?_setCell_same (h := h3) ..
    · have hne : (⟨b, 0, none⟩ : Addr) ≠ ⟨b, 1, none⟩ := by intro h; cases h
      exact World.cell?_setCell_same (u := .int .u64 0) (h := by rw [World.cell?_setCell_other (h := hne)]; exact h4) ..
/-- A box of two numbers, all zero. -/
structure WB (w : World) (b : Nat) : Prop where
  lt : b < w.heap.size
  c0 : w.cell? ⟨b, 0, none⟩ = some (.int .i64 0)
  c1 : w.cell? ⟨b, 1, none⟩ = some (.int .u64 0)
  f0 : w.frozen? ⟨b, 0, none⟩ = false
  f1 : w.frozen? ⟨b, 1, none⟩ = false
theorem WB.below {w w' : World} {b : Nat} (h : WB w b) (hb : RowKit.Below w.heap.size w w') : WB w' b :=
  ⟨Nat.lt_of_lt_of_le h.lt hb.size, (hb.cell (p := ⟨b, 0, none⟩) h.lt).trans h.c0, (hb.cell (p := ⟨b, 1, none⟩) h.lt).trans h.c1, (hb.frozen (p := ⟨b, 0, none⟩) h.lt).trans h.f0, (hb.frozen (p := ⟨b, 1, none⟩) h.lt).trans h.f1⟩
theorem WB.new (w : World) (n : Nat) (hn : n = w.heap.size) : WB (w.alloc (.cells #[.int .i64 0, .int .u64 0] 51)) n := by
  subst hn
  exact ⟨by simp, by simp, by simp, by simp, by simp⟩
set_option maxHeartbeats 4000000 in
theorem holds_pays14 : HoldsPay 14 := by
  intro e a c O w hok ha hn hl
  have hl0 := hl; unfold maxLen at hl
  have HA := Lib.hid ha; have HN := Lib.hid hn; have HOK := Lib.hid hok; clear ha hn hok
  have HF := Lib.hid (fun h => holds_fr (e := e) (O := O) h)
  have HT := Lib.hid (fun h => holds_to (e := e) (O := O) h)
  have HI := Lib.hid (fun a b ha hb => holds_is (e := e) (O := O) (a := a) (b := b) ha hb)
  obtain ⟨x, y, z, p, q, t⟩ := e
  simp only [Ed.v] at HF HT HI ⊢
  by_cases hx : 0 ≤ x ∧ x < (O.length : Int)
  case neg =>
    have HX : Hid (decide (0 ≤ x ∧ x < (O.length : Int)) = false) := decide_eq_false hx
    have HE := Lib.hid (HF.out (by
      by_cases h0 : x < 0
      · exact numAt_neg h0
      · exact numAt_far (by omega)))
    clear hx
    go_enter Try.func14, Try.ntmps14
    go_wp2_with fail
    refine (isPlace_any x a O.length c _).mono ?_
    rintro e w1 ⟨rfl, rfl⟩
    rw [HX.out]
    go_wp2_with fail
    go_ret
    exact ⟨ret_bool HE.out.symm, box1 _ _⟩
  have HX : Hid (decide (0 ≤ x ∧ x < (O.length : Int)) = true) := decide_eq_true hx
  by_cases hy : 0 ≤ y ∧ y < (O.length : Int)
  case neg =>
    have HY : Hid (decide (0 ≤ y ∧ y < (O.length : Int)) = false) := decide_eq_false hy
    have HE := Lib.hid (HT.out (by
      by_cases h0 : y < 0
      · exact numAt_neg h0
      · exact numAt_far (by omega)))
    clear hx hy
    go_enter Try.func14, Try.ntmps14
    go_wp2_with fail
    refine (isPlace_any x a O.length c _).mono ?_
    rintro e w1 ⟨rfl, rfl⟩
    rw [HX.out]
    go_wp2_with fail
    refine (isPlace_any y a O.length c _).mono ?_
    rintro e w1 ⟨rfl, rfl⟩
    rw [HY.out]
    go_wp2_with fail
    go_ret
    exact ⟨ret_bool HE.out.symm, box1 _ _⟩
  have HY : Hid (decide (0 ≤ y ∧ y < (O.length : Int)) = true) := decide_eq_true hy
  obtain ⟨n, rfl⟩ : ∃ n : Nat, x = (n : Int) := ⟨x.toNat, by omega⟩
  obtain ⟨m, rfl⟩ : ∃ m : Nat, y = (m : Int) := ⟨y.toNat, by omega⟩
  have hn : n < O.length := by omega
  have hm : m < O.length := by omega
  have HE := Lib.hid (HI.out _ _ (numAt_is hn) (numAt_is hm))
  have N1 := Lib.hid (HN.out O[n] (List.getElem_mem _))
  have N2 := Lib.hid (HN.out O[m] (List.getElem_mem _))
  have HW := Lib.hid (HOK.out.wt)
  have HAV := Lib.hid (HA.out.below (box1 w (.cells #[.int .i64 (n : Int), .int .i64 (m : Int), .int .i64 z, .int .i64 p, .int .i64 q, .bool t] 37)))
  obtain ⟨b1, o1, ha1, hb1, d1⟩ := HAV.out.num hn
  obtain ⟨b2, o2, ha2, hb2, d2⟩ := HAV.out.num hm
  subst ha1
  obtain ⟨rfl, rfl⟩ := And.intro (Addr.mk.inj (Option.some.inj ha2)).1 (Addr.mk.inj (Option.some.inj ha2)).2.1
  generalize O[n] = s at *
  generalize O[m] = u at *
  have i1 : (n : Int) < (O.length : Int) := by omega
  have i2 : (m : Int) < (O.length : Int) := by omega
  have i3 : (0 : Int) ≤ (n : Int) := by omega
  have i4 : (0 : Int) ≤ (m : Int) := by omega
  clear ha2 hb2 hx hy
  go_enter Try.func14, Try.ntmps14
  go_wp2_with fail
  obtain ⟨V, hV⟩ : ∃ V, w.alloc (.cells #[.int .i64 (n : Int), .int .i64 (m : Int), .int .i64 z, .int .i64 p, .int .i64 q, .bool t] 37) = V := ⟨_, rfl⟩
  have e0 : V.cell? ⟨w.heap.size, 0, none⟩ = some (.int .i64 (n : Int)) := by rw [← hV]; simp
  have e1 : V.cell? ⟨w.heap.size, 1, none⟩ = some (.int .i64 (m : Int)) := by rw [← hV]; simp
  have e2 : V.cell? ⟨w.heap.size, 2, none⟩ = some (.int .i64 z) := by rw [← hV]; simp
  have hVs : w.heap.size < V.heap.size := by rw [← hV]; simp
  have HBV : Hid (Below w.heap.size w V) := by rw [← hV]; exact box1 _ _
  rw [hV] at d1 d2 ⊢
  have hb1V : b1 < V.heap.size := by omega
  clear hV HAV
  refine (isPlace_any (n : Int) _ O.length c _).mono ?_
  rintro e w1 ⟨rfl, rfl⟩
  rw [HX.out]
  go_wp2_with fail
  refine (isPlace_any (m : Int) _ O.length c _).mono ?_
  rintro e w1 ⟨rfl, rfl⟩
  rw [HY.out]
  go_wp2_with fail
  have k0 : ∀ w', RowKit.Below V.heap.size V w' → w'.cell? ⟨w.heap.size, 0, none⟩ = some (.int .i64 (n : Int)) := fun w' h => (h.cell (p := ⟨w.heap.size, 0, none⟩) hVs).trans e0
  have k2 : ∀ w', RowKit.Below V.heap.size V w' → w'.cell? ⟨w.heap.size, 2, none⟩ = some (.int .i64 z) := fun w' h => (h.cell (p := ⟨w.heap.size, 2, none⟩) hVs).trans e2
  have k3 : ∀ w', RowKit.Below V.heap.size V w' → w'.cell? ⟨b1, o1 + n, none⟩ = some (.int .i64 s) := fun w' h => (h.cell (p := ⟨b1, o1 + n, none⟩) hb1V).trans d1
  have HC1 := Lib.hid (fun w => widened_any s w N1.out)
  have HC2 := Lib.hid (fun w => widened_any z w HW.out)
  have HC3 := Lib.hid (fun w => plus_any s z w N1.out HW.out)
  obtain ⟨hi, hhi⟩ : ∃ x, (s + z) / 18446744073709551616 = x := ⟨_, rfl⟩
  obtain ⟨lo, hlo⟩ : ∃ x, (s + z) % 18446744073709551616 = x := ⟨_, rfl⟩
  have HSZ : Hid (wd (s + z) = .agg #[.int .i64 hi, .int .u64 lo]) := by show _ = _; unfold wd; rw [hhi, hlo]
  rw [HSZ.out] at HC3
  have HHI := Lib.hid hhi; have HLO := Lib.hid hlo
  clear hhi hlo
  go_cut [5] from 19 to 28 (fun s5 wx => MB V wx s5 hi lo)
  case first =>
   go_region_held_law (fun w' => RowKit.Below V.heap.size V w') (first | assumption | exact Below_drew (Below.refl _ _) | exact (Below_drew (Below.refl _ _)).alloc (by simp) _ | exact RowKit.Below.alloc (by assumption) (by omega) _ | exact RowKit.Below.setCell (RowKit.Below.setCell (by assumption) (by first | exact Nat.le_refl _ | (simp only; omega)) _) (by first | exact Nat.le_refl _ | (simp only; omega)) _) (first
      | (go_simp
         go_at_call 25
         with_reducible (show Calls Try.prog _ #[.int .i64 s] _ _)
         refine (HC1.out _).mono ?_
         rintro e w5 ⟨rfl, hb5⟩
         have hs5 : RowKit.Below V.heap.size V w5 := (by first | exact Below_drew (Below.refl _ _) | exact (Below_drew (Below.refl _ _)).alloc (by simp) _ : RowKit.Below V.heap.size V _).trans (hb5.mono (by simp))
         have hz5 := hs5.size
         try (have mb : WB w5 V.heap.size := WB.below (WB.new V.drew _ rfl) hb5)
         clear hb5)
      | (go_simp
         go_at_call 25
         with_reducible (show Calls Try.prog _ #[.int .i64 z] _ _)
         refine (HC2.out _).mono ?_
         rintro e w6 ⟨rfl, hb6⟩
         have hs6 : RowKit.Below V.heap.size V w6 := (by first | assumption | exact RowKit.Below.alloc (by assumption) (by omega) _ : RowKit.Below V.heap.size V _).trans (hb6.mono (by (try simp); omega))
         have hz6 := hs6.size
         first | (have mb := WB.below (WB.new _ _ rfl) hb6) | (have mb := WB.below (by assumption) hb6) | skip
         clear hb6)
      | (go_simp
         go_at_call 26
         refine (HC3.out _).mono ?_
         rintro e w7 ⟨rfl, hb7⟩
         have hs7 : RowKit.Below V.heap.size V w7 := (by first | assumption | exact RowKit.Below.alloc (by assumption) (by omega) _ : RowKit.Below V.heap.size V _).trans (hb7.mono (by (try simp); omega))
         have hz7 := hs7.size
         first | (have mb := WB.below (WB.new _ _ rfl) hb7; have g0 := mb.lt; have g1 := mb.c0; have g2 := mb.c1; have g3 := mb.f0; have g4 := mb.f1) | (have mb := WB.below (by assumption) hb7; have g0 := mb.lt; have g1 := mb.c0; have g2 := mb.c1; have g3 := mb.f0; have g4 := mb.f1) | (have mb := WB.new w7 _ rfl; have g0 := mb.lt; have g1 := mb.c0; have g2 := mb.c1; have g3 := mb.f0; have g4 := mb.f1)
         clear hb7))
   all_goals
     go_wp2_with fail
     go_meet
     case rel => exact MB.mk (by omega) (by first | assumption | (simp; done) | (simp; assumption)) (by assumption) (by first | exact .inl ⟨_, rfl, rfl⟩ | exact .inr ⟨_, rfl, by assumption, by assumption⟩)
  case rest =>
    obtain ⟨b5, rfl, hle5, hlt5, m0, m1, hbel⟩ := hcut
    have HB5 := Lib.hid hbel
    have e1 := (hbel.cell (p := ⟨w.heap.size, 1, none⟩) hVs).trans e1
    have d2 := (hbel.cell (p := ⟨b1, o1 + m, none⟩) hb1V).trans d2
    have hsz5 := hbel.size
    clear hbel k0 k2 k3 HC1 HC2 HC3 d1 e0 e2
    obtain ⟨hu, hhu⟩ : ∃ x, u / 18446744073709551616 = x := ⟨_, rfl⟩
    obtain ⟨lu, hlu⟩ : ∃ x, u % 18446744073709551616 = x := ⟨_, rfl⟩
    have HSU : Hid (wd u = .agg #[.int .i64 hu, .int .u64 lu]) := by show _ = _; unfold wd; rw [hhu, hlu]
    have HC4 := Lib.hid (widened_any u wc N2.out)
    have HC5 := Lib.hid (fun w => below_any u (s + z) w)
    rw [HSU.out] at HC4 HC5
    rw [HSZ.out] at HC5
    have hHI := HHI.out; have hLO := HLO.out
    obtain ⟨w6, hw6⟩ : ∃ w6 : World, w6 = wc := ⟨_, rfl⟩
    have arm : ∀ w6, RowKit.Below wc.heap.size wc w6 → (∀ o, (w6.alloc o).cell? ⟨b5, 0, none⟩ = some (.int .i64 hi)) ∧ (∀ o, (w6.alloc o).cell? ⟨b5, 1, none⟩ = some (.int .u64 lo)) := fun w6 hb6 =>
      ⟨fun o => by rw [World.cell?_alloc_lt (h := Nat.lt_of_lt_of_le hlt5 hb6.size)]; exact (hb6.cell (p := ⟨b5, 0, none⟩) hlt5).trans m0,
       fun o => by rw [World.cell?_alloc_lt (h := Nat.lt_of_lt_of_le hlt5 hb6.size)]; exact (hb6.cell (p := ⟨b5, 1, none⟩) hlt5).trans m1⟩
    have HARM := Lib.hid arm
    clear arm m0 m1 hw6
    by_cases hq : hu = hi ∧ lu = lo
    · obtain ⟨rfl, rfl⟩ := hq
      have HEE : Hid (u ≤ s + z) := by show _ ≤ _; omega
      clear hhu hlu hHI hLO HHI HLO
      go_wp2_with (go_at_call 25; refine HC4.out.mono ?_; rintro e w6 ⟨rfl, hb6⟩; have HB6 := Lib.hid hb6; obtain ⟨m0, m1⟩ := HARM.out w6 hb6; have hsz6 := hb6.size; clear hb6)
      go_ret
      exact ⟨ret_bool (by rw [HE.out, decide_eq_true HEE.out]), bel2 HBV.out (HB5.out.trans ((bel2 HB6.out (box1 _ _)).mono hsz5))⟩
    · by_cases hq0 : hu = hi
      · subst hq0
        have hq1 : ¬ lu = lo := fun h => hq ⟨rfl, h⟩
        have HEE : Hid (decide (u ≤ s + z) = decide (u < s + z)) := by show _ = _; rw [Bool.eq_iff_iff, decide_eq_true_iff, decide_eq_true_iff]; omega
        clear hhu hlu hHI hLO HHI HLO hq
        go_wp2_with (go_at_call 25; refine HC4.out.mono ?_; rintro e w6 ⟨rfl, hb6⟩; have HB6 := Lib.hid hb6; obtain ⟨m0, m1⟩ := HARM.out w6 hb6; have hsz6 := hb6.size; clear hb6)
        refine (HC5.out _).mono ?_
        rintro e w7 ⟨rfl, hb7⟩
        go_wp2_with fail
        go_ret
        exact ⟨ret_bool (by rw [HE.out, HEE.out]), bel2 HBV.out (HB5.out.trans ((bel2 (bel2 HB6.out (box1 _ _)) hb7).mono hsz5))⟩
      · have HEE : Hid (decide (u ≤ s + z) = decide (u < s + z)) := by show _ = _; rw [Bool.eq_iff_iff, decide_eq_true_iff, decide_eq_true_iff]; omega
        clear hhu hlu hHI hLO HHI HLO hq
        go_wp2_with (go_at_call 25; refine HC4.out.mono ?_; rintro e w6 ⟨rfl, hb6⟩; have HB6 := Lib.hid hb6; obtain ⟨m0, m1⟩ := HARM.out w6 hb6; have hsz6 := hb6.size; clear hb6)
        refine (HC5.out _).mono ?_
        rintro e w7 ⟨rfl, hb7⟩
        go_wp2_with fail
        go_ret
        exact ⟨ret_bool (by rw [HE.out, HEE.out]), bel2 HBV.out (HB5.out.trans ((bel2 (bel2 HB6.out (box1 _ _)) hb7).mono hsz5))⟩
end Go.Proofs.Yteaafjkgopmmdaa