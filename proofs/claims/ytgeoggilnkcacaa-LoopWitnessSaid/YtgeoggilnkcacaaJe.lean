import Derived.Test.YtgeoggilnkcacaaJd
import Derived.Test.YtgeoggilnkcacaaGn
import Derived.Test.YtgeoggilnkcacaaGi
namespace Go.Proofs.Ytgeoggilnkcacaa
open Go Go.RowKit Go.Sort
set_option maxRecDepth 20000
set_option linter.unusedVariables false

/-! The document's Of (stage 16). -/
/-- What an Of pays. -/
def LoopPay (F : Nat) : Prop := ∀ (n : Int) (a : Option Addr) (c : Nat) (E : List Ed) (w : World), Rd w w.heap.size a (edsV E) → E.length ≤ 100000 → (∀ e ∈ E, e.Ok) → I64 n →
  Calls Try.prog F #[.int .i64 n, .slice a E.length c] w fun x w' => ∃ v K, x = .returned v ∧ ChainIs n E K ∧ w'.ownsRow w.heap.size 34 6 v K.length (edsV K) ∧ Below w.heap.size w w'
theorem bys_get {m k : Nat} {E : List Ed} (hr : mayE (m : Int) E = true) (hk : k ≤ m) (h : k < (bysL (m : Int) E).length) : (bysL (m : Int) E)[k] = byL m E k := by
  have e : bysL (m : Int) E = (List.range (m + 1)).map (byL m E) := by unfold bysL; rw [hr]; rfl
  simp [e]
theorem lit_own {w : World} {t : TypeId} {z : Nat} : (w.alloc (.cells #[] t)).ownsRow w.heap.size t z (.slice (some ⟨w.heap.size, 0, none⟩) 0 0) 0 [] :=
  World.ownsRow_made w (e := t) (size := z) #[] 0 (Nat.le_refl _) (by decide) (by simp)
theorem back_place {n : Nat} {E : List Ed} {v : Nat} (hE : ∀ e ∈ E, edOk (n : Int) e = true) (hv : v < n) (hd : (rowQ n E n).getD v 0 < (rowQ n E (n - 1)).getD v 0) {s : Nat} (hs : s < n) :
    ∃ q, ∃ hq : q < E.length, (byL n E (n - s)).getD (backV n E v s) (-1) = (q : Int) ∧ E[q] = backL n E v s := by
  obtain ⟨h1, h2⟩ := back_drop hE hv hd s hs
  obtain ⟨k, hk⟩ : ∃ k, n - s = k + 1 := ⟨n - s - 1, by omega⟩
  rw [show n - s - 1 = k by omega, hk] at h2
  have e : backL n E v s = backE n E (k + 1) (backV n E v s) := by unfold backL; rw [hk]
  rw [e, hk]
  unfold backE
  rw [row_at h1] at h2
  rw [by_at h1]
  rcases least_by (rowQ n E k) E (backV n E v s) E.length with ⟨_, h3⟩ | ⟨i, hi, h3, _, _⟩
  · omega
  · refine ⟨i, hi, h3, ?_⟩
    rw [h3, Int.toNat_natCast]; simp [List.getD, hi]
def hostsI (n : Nat) (E : List Ed) (v s : Nat) : List Int := (hostsB n E v s).map fun (x : Nat) => (x : Int)
theorem edsV_take (L : List Ed) (d : Nat) : (edsV L).take (d * 6) = edsV (L.take d) := by
  induction L generalizing d with
  | nil => cases d <;> simp [edsV, flatG]
  | cons x L ih =>
    cases d with
    | zero => simp [edsV, flatG]
    | succ d =>
      have e1 : edsV (x :: L) = edV x ++ edsV L := rfl
      have e2 : edsV ((x :: L).take (d + 1)) = edV x ++ edsV (L.take d) := rfl
      rw [e1, e2, ← ih, List.take_append, List.take_of_length_le (by rw [edV_len]; omega), edV_len, show (d + 1) * 6 - 6 = d * 6 by omega]
theorem hostsI_length (n : Nat) (E : List Ed) (v s : Nat) : (hostsI n E v s).length = s := by simp [hostsI, hostsB_length]
theorem hostsI_step (n : Nat) (E : List Ed) (v s : Nat) : hostsI n E v (s + 1) = hostsI n E v s ++ [(backV n E v s : Int)] := by
  unfold hostsI; rw [hostsB_step]; simp
theorem hostsI_one (n : Nat) (E : List Ed) (v : Nat) : hostsI n E v 1 = [(v : Int)] := by
  simp [hostsI, hostsB, backV]
/-- Where the document looks for the host: not there, and the way goes on; or there, and the way is closed. -/
theorem place_back {n : Nat} {E : List Ed} {v i d s : Nat} (hr : Rep n E v i d) (hs : s < i + d) {r : Int} (h : PlaceIs (hostsI n E v (s + 1)) (backV n E v (s + 1) : Int) r) :
    (r = -1 ∧ s + 1 < i + d) ∨ (r = (i : Int) ∧ s + 1 = i + d) := by
  have hp := hr.pos
  rcases h with ⟨h1, h2⟩ | ⟨j, hj, h1, h2, _⟩
  · refine .inl ⟨h1, ?_⟩
    rcases Nat.lt_or_ge (s + 1) (i + d) with h | h
    · exact h
    · have e : s + 1 = i + d := by omega
      refine absurd (List.mem_map.2 ⟨backV n E v i, hostsB_mem.2 ⟨i, by omega, rfl⟩, ?_⟩) h2
      rw [e, hr.back]
  · rw [hostsI_length] at hj
    have e2 : backV n E v j = backV n E v (s + 1) := by
      have e3 : (hostsI n E v (s + 1))[j]'(by rw [hostsI_length]; exact hj) = (backV n E v j : Int) := by simp [hostsI, hostsB]
      rw [e3] at h2; omega
    rcases Nat.lt_or_ge (s + 1) (i + d) with h | h
    · exact absurd e2 (hr.new j (s + 1) hj h)
    · have e : s + 1 = i + d := by omega
      rw [e] at e2
      exact .inr ⟨by rw [h1, hr.only (by omega) e2], e⟩
theorem own_addr {w : World} {base : Nat} {e : TypeId} {size n c : Nat} {a : Option Addr} {xs : List Value} (h : w.ownsRow base e size (.slice a n c) n xs) (hn : 0 < n) : ∃ g, a = some ⟨g, 0, none⟩ ∧ base ≤ g ∧ g < w.heap.size := by
  obtain ⟨a', c', e', _, _, h4⟩ := own_slice h
  injection e' with e1 _ _
  subst e1
  exact h4 hn
/-- The loop of the way back. -/
structure WayI (m : Nat) (E : List Ed) (v : Nat) (w wr : World) (s : Nat) (vm vw : Value) : Prop where
  met : wr.ownsRow w.heap.size 3 1 vm (s + 1) (intV (hostsI m E v (s + 1)))
  way : wr.ownsRow w.heap.size 34 6 vw s (edsV (cycL m E v 0 s))
  bw : Below w.heap.size w wr
set_option maxHeartbeats 8000000 in
theorem refLoop_any : LoopPay 9 := by
  intro n a c E w ha hl hok hn
  obtain ⟨i0, hi0, hz0, hz1, hz2⟩ := info_parts info_edge
  have HZ2 := Lib.hid hz2; clear hz2
  obtain ⟨j0, hj0, hy0, hy1, hy2⟩ := info_parts info_int15
  have HY2 := Lib.hid hy2; clear hy2
  have hlay := refLayers_any n a c E w ha hl hok hn
  have HA := Lib.hid ha; have HOK := Lib.hid hok; have HN := Lib.hid hn; clear ha hok hn
  cases hr : mayE n E with
  | false =>
    have HE : Hid (ChainIs n E []) := .inr ⟨fun h => by rw [hr] at h; exact absurd h.1 (by simp), rfl⟩
    have e1 : laysL n E = [] := by unfold laysL; rw [hr]; rfl
    have e2 : bysL n E = [] := by unfold bysL; rw [hr]; rfl
    have e3 : solveL n E = none := by unfold solveL; rw [hr]; rfl
    have HS := Lib.hid e3
    rw [e1, e2] at hlay
    have HL := Lib.hid hlay
    clear hlay e1 e2 e3 hr
    go_enter Try.func9, Try.ntmps9
    go_wp2_with (first
      | (go_at_call 18
         refine HL.out.mono ?_
         rintro x w1 ⟨a1, c1, a2, c2, rfl, _, _, hb1⟩
         have HB1 := Lib.hid hb1; clear hb1
         have HSV := Lib.hid (solve_none (refSolve_any n a c E w1 ((HA.out.below HB1.out).more HB1.out.size) hl HOK.out HN.out) HS.out))
      | (go_at_call 10
         refine HSV.out.mono ?_
         rintro x w2 ⟨a3, c3, rfl, hb2⟩
         have HB2 := Lib.hid (bel2 HB1.out hb2); clear hb2))
    go_ret
    exact ⟨_, [], rfl, HE.out, own_base lit_own HB2.out.size, HB2.out.alloc HB2.out.size _⟩
  | true =>
  obtain ⟨h0, h32, hE⟩ := mayE_iff.1 hr
  obtain ⟨m, rfl⟩ : ∃ m : Nat, n = (m : Int) := ⟨n.toNat, by omega⟩
  cases hm : metL m E with
  | true =>
    have HE : Hid (ChainIs (m : Int) E []) := .inr ⟨fun h => by rw [Int.toNat_natCast, hm] at h; exact absurd h.2 (by simp), rfl⟩
    have e3 : solveL (m : Int) E = some (rowQ m E m) := by unfold solveL; rw [hr, Int.toNat_natCast, hm]; rfl
    have HS := Lib.hid e3
    have hL1 : (laysL (m : Int) E).length = m + 1 := by unfold laysL; rw [hr]; simp
    obtain ⟨y, hy⟩ : ∃ y, m + 1 = y := ⟨_, rfl⟩
    rw [hL1, hy] at hlay
    have i1 : ¬ ((y : Int) = 0) := by omega
    have i1' : ¬ (y = 0) := by omega
    have i1'' : ((y : Int) == 0) = false := by simp; omega
    have HL := Lib.hid hlay
    clear hlay e3 hr hm hL1 hy hE
    go_enter Try.func9, Try.ntmps9
    go_wp2_with (first
      | (go_at_call 18
         refine HL.out.mono ?_
         rintro x w1 ⟨a1, c1, a2, c2, rfl, _, _, hb1⟩
         have HB1 := Lib.hid hb1; clear hb1
         have HSV := Lib.hid (solve_some (refSolve_any m a c E w1 ((HA.out.below HB1.out).more HB1.out.size) hl HOK.out HN.out) HS.out))
      | (go_at_call 10
         refine HSV.out.mono ?_
         rintro x w2 ⟨a3, c3, rfl, _, hb2⟩
         have HB2 := Lib.hid (bel2 HB1.out hb2); clear hb2))
    go_ret
    exact ⟨_, [], rfl, HE.out, own_base lit_own HB2.out.size, HB2.out.alloc HB2.out.size _⟩
  | false =>
  obtain ⟨v0, hv0⟩ := drops_is hm
  obtain ⟨i, d, hrep⟩ := rep_is hE hv0.lt hv0.drop
  have HE : Hid (ChainIs (m : Int) E (rotL (cycL m E v0 i d))) := .inl ⟨hr, by rw [Int.toNat_natCast]; exact hm, v0, i, d, by rw [Int.toNat_natCast]; exact hv0, by rw [Int.toNat_natCast]; exact hrep, by rw [Int.toNat_natCast]⟩
  have e3 : solveL (m : Int) E = none := by unfold solveL; rw [hr, Int.toNat_natCast, hm]; rfl
  have HS := Lib.hid e3
  have hL1 : (laysL (m : Int) E).length = m + 1 := by unfold laysL; rw [hr]; simp
  have hL2 : (bysL (m : Int) E).length = m + 1 := by unfold bysL; rw [hr]; simp
  have HLG := Lib.hid (fun k hk (h : k < (laysL (m : Int) E).length) => lays_get (E := E) (k := k) hr hk h)
  have HBG := Lib.hid (fun k hk (h : k < (bysL (m : Int) E).length) => bys_get (E := E) (k := k) hr hk h)
  have HL1 := Lib.hid hL1; have HL2 := Lib.hid hL2
  obtain ⟨y, hy⟩ : ∃ y, m + 1 = y := ⟨_, rfl⟩
  rw [hL1, hL2, hy] at hlay
  have i1 : ¬ ((y : Int) = 0) := by omega
  have i1' : ¬ (y = 0) := by omega
  have i1'' : ((y : Int) == 0) = false := by simp; omega
  have i2 : (m : Int) < (y : Int) := by omega
  have HL := Lib.hid hlay; have HD := Lib.hid hv0; have HREP := Lib.hid hrep; have HEO := Lib.hid hE
  have hvm := hv0.lt
  obtain ⟨mk, hmk⟩ : ∃ k, m - 1 = k := ⟨_, rfl⟩
  have HMK := Lib.hid hmk
  have j3 : IntKind.i64.wrap ((m : Int) - 1) = (mk : Int) := by rw [IntWalk.i64_in _ (by omega)]; omega
  have j4 : (mk : Int) < (y : Int) := by omega
  have j5 : (0 : Int) ≤ (mk : Int) := by omega
  clear hlay e3 hr hm hL1 hL2 hE hv0 hrep hmk
  have hym : y = m + 1 := hy.symm
  have HY := Lib.hid hym; clear hy hym
  go_enter Try.func9, Try.ntmps9
  go_wp2_with (first
    | (go_at_call 18
       refine HL.out.mono ?_
       rintro x w1 ⟨a1, c1, a2, c2, rfl, hr1, hr2, hb1⟩
       have HR1 := Lib.hid hr1; have HR2 := Lib.hid hr2
       have HB1 := Lib.hid hb1; clear hb1 hr1 hr2
       have HSV := Lib.hid (solve_none (refSolve_any m a c E w1 ((HA.out.below HB1.out).more HB1.out.size) hl HOK.out HN.out) HS.out))
    | (go_at_call 10
       refine HSV.out.mono ?_
       rintro x w2 ⟨a3, c3, rfl, hb2⟩
       have HB2 := Lib.hid hb2
       have HBW := Lib.hid (bel2 HB1.out hb2); clear hb2))
  obtain ⟨b1, o1, ha1, hlt1, u1, d1, hc1, hu1⟩ := HR1.out.get (i := m) (g := rowQ m E m) (by rw [HL1.out]; omega) (HLG.out m (Nat.le_refl _) (by rw [HL1.out]; omega))
  obtain ⟨b2, o2, ha2, hlt2, u2, d2, hc2, hu2⟩ := HR1.out.get (i := mk) (g := rowQ m E mk) (by rw [HL1.out]; have := HMK.out; omega) (HLG.out mk (by have := HMK.out; omega) (by rw [HL1.out]; have := HMK.out; omega))
  subst ha1
  obtain ⟨rfl, rfl⟩ := And.intro (Addr.mk.inj (Option.some.inj ha2)).1 (Addr.mk.inj (Option.some.inj ha2)).2.1
  rw [rowQ_length] at hc1 hc2
  have HC1 := Lib.hid ((HB2.out.cell (p := ⟨b1, o1 + m, none⟩) hlt1).trans hc1)
  have HC2 := Lib.hid ((HB2.out.cell (p := ⟨b1, o1 + mk, none⟩) hlt2).trans hc2)
  have HU1 := Lib.hid ((hu1.below HB2.out).more HB2.out.size)
  have HU2 := Lib.hid ((hu2.below HB2.out).more HB2.out.size)
  have hlt1' : b1 < w2.heap.size := Nat.lt_of_lt_of_le hlt1 HB2.out.size
  clear ha2 hc1 hc2 hu1 hu2 hlt1 hlt2
  go_loopw [9] (fun vi wr => ∃ h : Nat, h ≤ v0 ∧ vi = .int .i64 (h : Int) ∧ Below w2.heap.size w2 wr) (fun vi _ => v0 - (intOf vi).toNat)
  case atStart => exact ⟨0, Nat.zero_le _, rfl, Below.refl _ _⟩
  case round =>
    obtain ⟨h, hh, rfl, hb⟩ := hrel
    have HW := Lib.hid hb
    have hc1 := (hb.cell (p := ⟨b1, o1 + m, none⟩) hlt1').trans HC1.out
    have hc2 := (hb.cell (p := ⟨b1, o1 + mk, none⟩) hlt1').trans HC2.out
    clear hb
    generalize wr = W2 at *
    obtain ⟨b3, o3, hb3, _, e3⟩ := (HU1.out.below HW.out).num (i := h) (by rw [rowQ_length]; omega)
    obtain ⟨b4, o4, hb4, _, e4⟩ := (HU2.out.below HW.out).num (i := h) (by rw [rowQ_length]; omega)
    subst hb3 hb4
    have g1 : (rowQ m E m).getD h 0 = (rowQ m E m)[h]'(by rw [rowQ_length]; omega) := by rw [List.getD_eq_getElem?_getD, List.getElem?_eq_getElem]; rfl
    have g2 : (rowQ m E mk).getD h 0 = (rowQ m E mk)[h]'(by rw [rowQ_length]; omega) := by rw [List.getD_eq_getElem?_getD, List.getElem?_eq_getElem]; rfl
    rw [← g1] at e3
    rw [← g2] at e4
    have j1 : (h : Int) < (m : Int) := by omega
    have j2 : (0 : Int) ≤ (h : Int) := by omega
    by_cases hlt : h < v0
    · have hx := HD.out.first h hlt
      rw [HMK.out] at hx
      generalize (rowQ m E m).getD h 0 = x1 at *
      generalize (rowQ m E mk).getD h 0 = x2 at *
      clear g1 g2
      go_wp2_with fail
      go_quiet (fail)
      go_wp2_with fail
      go_roundw
      case rel => exact ⟨h + 1, by omega, by go_num, Below_drewN HW.out _⟩
      case measure => simp [intOf]; omega
    · obtain rfl : h = v0 := by omega
      have hx := HD.out.drop
      rw [HMK.out] at hx
      generalize (rowQ m E m).getD h 0 = x1 at *
      generalize (rowQ m E mk).getD h 0 = x2 at *
      clear g1 g2
      go_wp2_with fail
      go_quiet (fail)
      have HB3 := Lib.hid (Below_drewN (bel2 HBW.out HW.out) nq)
      have HB13 := Lib.hid (Below_drewN (HB2.out.trans (HW.out.mono HB2.out.size)) nq)
      generalize W2.drewN nq = W3 at *
      clear hc1 hc2 e3 e4 hlt HW HU1 HU2 HC1 HC2 hlt1'
      have HLA := Lib.hid (World.ownsRow_lit W3 (e := 3) (size := 1) #[.int .i64 (h : Int)] 1 (Nat.le_refl _) (by decide) rfl)
      have HLB := Lib.hid (lit_own (w := W3.alloc (.cells #[.int .i64 (h : Int)] 3)) (t := 34) (z := 6))
      go_wp2_with fail
      clear hx
      have HI : Hid (WayI m E h W3 ((W3.alloc (.cells #[.int .i64 (h : Int)] 3)).alloc (.cells #[] 34)) 0 (.slice (some ⟨W3.heap.size, 0, none⟩) 1 1) (.slice (some ⟨W3.heap.size + 1, 0, none⟩) 0 0)) := by
        refine ⟨?_, ?_, (box1 W3 _).alloc (by simp) _⟩
        · rw [hostsI_one]
          exact own_below HLA.out (box1 _ _)
        · have hq := HLB.out
          rw [show (W3.alloc (.cells #[.int .i64 (h : Int)] 3)).heap.size = W3.heap.size + 1 by simp] at hq
          exact own_base hq (by omega)
      clear HLA HLB
      have hpos := HREP.out.pos
      have hrle := HREP.out.le
      go_loopw [9, 10, 11, 12] (fun vv vm vw vk wr => ∃ (s K x : Nat) (vm' vw' : Value), s < i + d ∧ K = m - s ∧ backV m E h s = x ∧ vv = .int .i64 (x : Int) ∧ vk = .int .i64 (K : Int) ∧ vm' = vm ∧ vw' = vw ∧ WayI m E h W3 wr s vm' vw') (fun _ _ _ vk _ => (intOf vk).toNat)
      case atStart => exact ⟨0, m, h, _, _, by omega, rfl, rfl, rfl, rfl, rfl, rfl, HI.out⟩
      case round =>
        obtain ⟨s, K, x, vm, vw, hs, hK, hx, rfl, rfl, hm1, hw1, hI⟩ := hrel
        subst hm1 hw1
        clear HI
        obtain ⟨ma, mc, rfl, -, -, -⟩ := own_slice hI.met
        obtain ⟨wa, wc, rfl, -, -, -⟩ := own_slice hI.way
        have HI := Lib.hid hI; clear hI
        generalize wr = W4 at *
        have hKm : K ≤ m := by omega
        have hbe := back_edge HEO.out HD.out.lt HD.out.drop (s := s) (by omega)
        obtain ⟨q, hq, hqv, hqe⟩ := back_place HEO.out HD.out.lt HD.out.drop (s := s) (by omega)
        rw [← hK, hx] at hqv
        have hbv : x < m := by
          rw [← hx]
          cases s with
          | zero => exact HD.out.lt
          | succ s' => exact (back_edge HEO.out HD.out.lt HD.out.drop (s := s') (by omega)).2.2.2.2.1
        have HFR := Lib.hid hbe.2.2.2.1
        have hnv := hbe.2.2.2.2.1
        have HB14 := Lib.hid (HB13.out.trans (HI.out.bw.mono HB13.out.size))
        have HBW4 := Lib.hid (bel2 HB3.out HI.out.bw)
        have hKy : K < (bysL (m : Int) E).length := by rw [HL2.out]; omega
        obtain ⟨b5, o5, ha5, hlt5, u5, d5, hc5, hu5⟩ := HR2.out.get hKy (HBG.out K hKm hKy)
        subst ha5
        rw [byL_length] at hc5
        have hc5' := (HB14.out.cell (p := ⟨b5, o5 + K, none⟩) hlt5).trans hc5
        obtain ⟨b6, o6, hb6, _, e6⟩ := (hu5.below HB14.out).num (i := x) (by rw [byL_length]; exact hbv)
        subst hb6
        have g1 : (byL m E K).getD x (-1) = (byL m E K)[x]'(by rw [byL_length]; exact hbv) := by rw [List.getD_eq_getElem?_getD, List.getElem?_eq_getElem]; rfl
        rw [← g1, hqv] at e6
        obtain ⟨b7, o7, hb7, _, hE7⟩ := (HA.out.below HBW4.out).edge hq
        subst hb7
        rw [hqe] at hE7
        obtain ⟨x', hx'⟩ : ∃ x', backV m E h (s + 1) = x' := ⟨_, rfl⟩
        obtain ⟨e, he⟩ : ∃ e, backL m E h s = e := ⟨_, rfl⟩
        have HX := Lib.hid hx; have HX' := Lib.hid hx'; have HEE := Lib.hid he
        rw [he] at hE7 HFR
        rw [hx'] at HFR hnv
        clear hbe hqv hqe hc5 hu5 g1 hx hx' he
        have k1 : (K : Int) < (y : Int) := by have := HY.out; omega
        have k2 : (0 : Int) < (K : Int) := by omega
        have k3 : (0 : Int) ≤ (K : Int) := by omega
        have k4 : (x : Int) < (m : Int) := by omega
        have k5 : (0 : Int) ≤ (x : Int) := by omega
        have k6 : (q : Int) < (E.length : Int) := by omega
        have k7 : (0 : Int) ≤ (q : Int) := by omega
        obtain ⟨f0, f1, f2, f3, f4, f5⟩ := hE7
        have HKS := Lib.hid hK; have hsm : s < m := by omega
        clear hK
        go_upto_region 13 with fail
        obtain ⟨W5, hW5⟩ : ∃ W5, W5 = W4.alloc (.cells e.c 34) := ⟨_, rfl⟩
        have HE5 : Hid (EdAt W5 W4.heap.size 0 e) := by show EdAt _ _ _ _; rw [hW5]; exact EdAt.new _ _ _
        have HS5 : Hid (W5.heap.size = W4.heap.size + 1) := by show _ = _; rw [hW5]; simp
        have HB45 : Hid (Below W4.heap.size W4 W5) := by show Below _ _ _; rw [hW5]; exact box1 _ _
        have hch : W5 = W4.alloc (.cells #[.int .i64 e.fr, .int .i64 e.to_, .int .i64 e.wt, .int .i64 e.pc, .int .i64 e.ps, .bool e.en] 34) := hW5
        rw [← hch]
        clear hch hW5 f0 f1 f2 f3 f4 f5 hc5' e6
        have HM5 := Lib.hid (own_below HI.out.met HB45.out)
        have HY5 := Lib.hid (own_below HI.out.way HB45.out)
        have HB35 := Lib.hid (bel2 HI.out.bw HB45.out)
        obtain ⟨f0, f1, f2, f3, f4, f5⟩ := HE5.out
        have hs5 := HB35.out.size
        have HLIT := Lib.hid (World.ownsRow_lit (base := W3.heap.size) W5 (e := 34) (size := 6) e.c 1 HB35.out.size (by decide) rfl)
        go_upto_region 15 with (first
          | (at_builtin
             refine wpList_append_rd _ rfl (.tmp 73) (.tmp 74) 22 rfl W3.heap.size 34 i0 _ 6 48 Try.underlying22 hi0 hz0 hz1 HZ2.out rfl (by omega) (.slice (some ⟨W5.heap.size, 0, none⟩) 1 1) 1 e.c.toList rfl HLIT.out _ wa s wc (edsV (cycL m E h 0 s)) rfl (by rw [edsV_length, cyc_length]) (Rd.own (own_below HY5.out (box1 W5 (.cells e.c 34)))) (edsV_one _) (by unfold maxLen; omega) (by omega) (by simp; omega) ?_
             intro v7 w7 hown7 hg7 hv7
             have HO7 := Lib.hid hown7; have HG7 := Lib.hid hg7; have HV7 := Lib.hid hv7
             have hc70 := (hg7.cell_far ⟨W4.heap.size, 0, none⟩ (by simp; have := HS5.out; omega) (by simp [Value.ownBlock]; have := HS5.out; omega)).trans (((box1 W5 _).cell (p := ⟨W4.heap.size, 0, none⟩) (by have := HS5.out; show W4.heap.size < _; omega)).trans f0)
             rw [HFR.out] at hc70
             clear hown7 hg7 hv7 f0 f1 f2 f3 f4 f5)
          | fail)
        clear hc70
        have HB7 : Hid (Below W3.heap.size W3 w7) := (HB35.out.alloc HB35.out.size _).grown HG7.out (by simp; omega) (fun g hg => by simp [Value.ownBlock] at hg; omega)
        have HM7 := Lib.hid ((own_below HM5.out (box1 W5 (.cells e.c 34))).kept HG7.out (rows_apart15 (own_below HM5.out (box1 W5 (.cells e.c 34))) HLIT.out (by decide)))
        have ho7 := HO7.out
        rw [Nat.add_comm 1 s, ← edsV_single, ← edsV_append] at ho7
        have hcy : [e] ++ cycL m E h 0 s = cycL m E h 0 (s + 1) := by rw [cyc_step, HEE.out]; rfl
        rw [hcy] at ho7
        obtain ⟨a7, c7, rfl, hc7, hc7m, -⟩ := own_slice ho7
        have HY7 := Lib.hid ho7
        clear ho7 hcy HO7 HG7 HV7 HM5 HY5 HLIT HE5 HB45 HB35 hs5
        have hp := place16_any ma mc (hostsI m E h (s + 1)) (x' : Int) w7 (Rd.own HM7.out) (by rw [hostsI_length]; omega)
        rw [hostsI_length] at hp
        have HP := Lib.hid hp; clear hp
        go_wp2_with fail
        refine HP.out.mono ?_
        rintro en w8 ⟨r, rfl, hpl, hb8⟩
        rw [← HX'.out] at hpl
        have hpb := place_back HREP.out hs hpl
        clear hpl
        have HM8 := Lib.hid (own_below HM7.out hb8); have HY8 := Lib.hid (own_below HY7.out hb8); have HB8 := Lib.hid (bel2 HB7.out hb8)
        clear hb8 HM7 HY7 HB7 HP
        rcases hpb with ⟨rfl, hlt2⟩ | ⟨rfl, heq2⟩
        · have HLX := Lib.hid (lit_rd w8 #[.int .i64 (x' : Int)] 3)
          go_wp2_with (first
            | (at_builtin
               refine wpList_append_rd _ rfl (.tmp 89) (.tmp 91) 44 rfl W3.heap.size 3 j0 _ 1 8 Try.underlying44 hj0 hy0 hy1 HY2.out rfl (by omega) (.slice ma (s + 1) mc) (s + 1) (intV (hostsI m E h (s + 1))) rfl (own_below HM8.out (box1 w8 (.cells #[.int .i64 (x' : Int)] 3))) _ _ 1 1 [.int .i64 (x' : Int)] rfl rfl HLX.out (by intro u hu; simp only [List.mem_cons, List.not_mem_nil, or_false] at hu; subst hu; rfl) (by unfold maxLen; omega) (by omega) (by have := HB8.out.size; simp; omega) ?_
               intro v9 w9 hown9 hg9 hv9
               have HO9 := Lib.hid hown9; have HG9 := Lib.hid hg9; clear hown9 hg9 hv9)
            | fail)
          have HB9 : Hid (Below W3.heap.size W3 w9) := (HB8.out.alloc HB8.out.size _).grown HG9.out (by have := HB8.out.size; simp; omega) (fun g hg => (own_shape HM8.out hg).1)
          have HY9 := Lib.hid ((own_below HY8.out (box1 w8 (.cells #[.int .i64 (x' : Int)] 3))).kept HG9.out (rows_apart15 (own_below HY8.out (box1 w8 (.cells #[.int .i64 (x' : Int)] 3))) (own_below HM8.out (box1 w8 (.cells #[.int .i64 (x' : Int)] 3))) (by decide)))
          have hnn : K - 1 = m - (s + 1) := by have := HKS.out; omega
          have hkk : ((K - 1 : Nat) : Int) = (K : Int) - 1 := by omega
          go_roundw
          case rel =>
            refine ⟨s + 1, K - 1, x', _, _, hlt2, hnn, HX'.out, rfl, by go_num, rfl, rfl, ⟨?_, HY9.out, HB9.out⟩⟩
            have := HO9.out
            rw [hostsI_step, intV_append, HX'.out]
            exact this
          case measure => simp [intOf]; omega
        · have hdd : s + 1 - i = d := by omega
          have hwr : IntKind.i64.wrap (((s + 1 : Nat) : Int) - (i : Int)) = (d : Int) := by rw [IntWalk.i64_in _ (by omega)]; omega
          have hwr2 : IntKind.i64.wrap ((s : Int) + 1 - (i : Int)) = (d : Int) := by rw [IntWalk.i64_in _ (by omega)]; omega
          have hty := own_take HY8.out (k := d) (by omega)
          have htk : (edsV (cycL m E h 0 (s + 1))).take (d * 6) = edsV (cycL m E h i d) := by
            rw [heq2, edsV_take, cyc_take]
          rw [htk] at hty
          have HT8 := Lib.hid hty
          have hd1 : ((d : Int) ≤ ((s + 1 : Nat) : Int)) := by omega
          have hd0 : (0 : Int) ≤ (d : Int) := by omega
          have HQ2 := Lib.hid heq2
          have hdc : (d : Int) ≤ (c7 : Int) := by omega
          clear hty htk heq2
          go_wp2_with fail
          obtain ⟨C, hC⟩ : ∃ C, cycL m E h i d = C := ⟨_, rfl⟩
          have hcl : C.length = d := by rw [← hC, cyc_length]
          have HCC := Lib.hid hC; have HCL := Lib.hid hcl
          have ht8 := HT8.out
          rw [hC] at ht8
          have HT := Lib.hid ht8
          clear ht8 hC hcl HT8 HY8 HM8
          go_loopw [15, 16] (fun vl vi wr => ∃ k : Nat, k ≤ d ∧ vi = .int .i64 (k : Int) ∧ vl = .int .i64 (lowAt C k : Int) ∧ Below w8.heap.size w8 wr) (fun _ vi _ => d - (intOf vi).toNat)
          case atStart => exact ⟨0, Nat.zero_le _, rfl, rfl, Below.refl _ _⟩
          case round =>
            obtain ⟨k, hk, rfl, rfl, hbw⟩ := hrel
            have HW := Lib.hid hbw; clear hbw
            generalize wr = W9 at *
            have HT9 := Lib.hid (own_below HT.out HW.out)
            have HB9 := Lib.hid (bel2 HB8.out HW.out)
            have hlow : lowAt C k < d := by rw [← HCL.out]; exact lowAt_lt k (by rw [HCL.out]; exact hk) (by rw [HCL.out]; exact hpos)
            by_cases hlt : k < d
            · have hkc : k < C.length := by rw [HCL.out]; exact hlt
              have hlc : lowAt C k < C.length := by rw [HCL.out]; exact hlow
              obtain ⟨b8, o8, ha8, _, f0, f1, f2, f3, f4, f5⟩ := (Rd.own HT9.out).edge hkc
              obtain ⟨b9, o9, ha9, _, g0, g1, g2, g3, g4, g5⟩ := (Rd.own HT9.out).edge hlc
              subst ha8
              obtain ⟨rfl, rfl⟩ := And.intro (Addr.mk.inj (Option.some.inj ha9)).1 (Addr.mk.inj (Option.some.inj ha9)).2.1
              have q1 : C.getD k default = C[k] := by simp [List.getD, hkc]
              have q2 : C.getD (lowAt C k) default = C[lowAt C k] := by simp [List.getD, hlc]
              have HST : Hid (lowAt C (k + 1) = if C[k].fr < C[lowAt C k].fr then k else lowAt C k) := by show _ = _; rw [lowAt, q1, q2]
              have z1 : (k : Int) < (d : Int) := by omega
              have z2 : (0 : Int) ≤ (k : Int) := by omega
              have z3 : (lowAt C k : Int) < (d : Int) := by omega
              have z4 : (0 : Int) ≤ (lowAt C k : Int) := by omega
              clear ha9 q1 q2 f1 f2 f3 f4 f5 g1 g2 g3 g4 g5
              generalize C[k] = e1 at *
              generalize C[lowAt C k] = e2 at *
              by_cases hc : e1.fr < e2.fr
              · have HN1 := Lib.hid (HST.out.trans (if_pos hc))
                go_wp2_with fail
                go_quiet (fail)
                go_wp2_with fail
                go_roundw
                case rel => exact ⟨k + 1, by omega, by go_num, by rw [HN1.out], Below_drewN HW.out _⟩
                case measure => simp [intOf]; omega
              · have HN1 := Lib.hid (HST.out.trans (if_neg hc))
                go_wp2_with fail
                go_quiet (fail)
                go_wp2_with fail
                go_roundw
                case rel => exact ⟨k + 1, by omega, by go_num, by rw [HN1.out], Below_drewN HW.out _⟩
                case measure => simp [intOf]; omega
            · obtain rfl : k = d := by omega
              obtain ⟨lo, hlo⟩ : ∃ lo, lowAt C k = lo := ⟨_, rfl⟩
              have HLO : Hid (lowAt C C.length = lo) := by show _ = _; rw [HCL.out]; exact hlo
              rw [hlo] at hlow ⊢
              clear hlo hlt
              obtain ⟨g7, ha7, -, -⟩ := own_addr HT9.out hpos
              subst ha7
              have hrd := ((Rd.own HT9.out).drop (lo * 6))
              have hlo6 : (edsV C).drop (lo * 6) = edsV (C.drop lo) := by
                have e1 := List.take_append_drop lo C
                have e2 : (edsV C).length = k * 6 := by rw [edsV_length, HCL.out]
                have e3 := edsV_take C lo
                have e4 : edsV C = edsV (C.take lo) ++ edsV (C.drop lo) := by rw [← edsV_append, e1]
                rw [e4, List.drop_append, List.drop_of_length_le (by rw [edsV_length, List.length_take, HCL.out]; omega), edsV_length, List.length_take, HCL.out, Nat.min_eq_left (by omega), Nat.sub_self]; rfl
              rw [hlo6, Nat.zero_add] at hrd
              have HRD := Lib.hid hrd
              have hrt := Rd.own HT9.out
              have htk : Rd W9 W9.heap.size (some ⟨g7, 0, none⟩) (edsV (C.take lo)) := by rw [← edsV_take]; exact hrt.take _
              have HRT := Lib.hid htk
              clear hrt htk
              have z0 : (lo : Int) ≤ (k : Int) := by omega
              have z1 : (0 : Int) ≤ (lo : Int) := by omega
              have z2 : (lo : Int) ≤ (c7 : Int) := by omega
              have z3 : (k : Int) ≤ (c7 : Int) := hdc
              have z4 : ¬ (c7 - lo = 0) := by omega
              have z5 : ¬ (c7 = 0) := by omega
              clear hrd hlo6
              go_upto_region 25 with fail
              clear HI HREP HD HEO HA HOK HN HS HL1 HL2 HLG HBG HR1 HR2 HL HMK HY hl
              have HLT := Lib.hid ((lit_own (w := W9) (t := 34) (z := 6)).drew)
              have HBL : Hid (Below W9.heap.size W9 (W9.alloc (.cells #[] 34)).drew) := Below_drew (box1 W9 _)
              have HRDL := Lib.hid (HRD.out.below HBL.out)
              go_region_held_law (fun w' => RowKit.Below W9.heap.size W9 w') (first | assumption | exact Below_drew (Below.refl _ _) | exact HBL.out) (first
                | (refine step_append_rd _ rfl (.tmp 111) (.tmp 114) 22 rfl W9.heap.size 34 i0 _ 6 48 Try.underlying22 hi0 hz0 hz1 HZ2.out rfl (by omega) (.slice (some ⟨W9.heap.size, 0, none⟩) 0 0) 0 [] (by simp [Act.eval]) HLT.out _ (some ⟨g7, lo * 6, none⟩) (k - lo) (c7 - lo) (edsV (C.drop lo)) (by simp [Act.eval]; omega) (by rw [edsV_length, List.length_drop, HCL.out]) HRDL.out (edsV_one _) (by unfold maxLen; omega) (by omega) (by simp) ?_; intro v1 w1' hown1 hg1 hv1
                   have hbv1 : RowKit.Below W9.heap.size W9 w1' := HBL.out.grown hg1 (by simp) (fun g hg => by simp [Value.ownBlock] at hg; omega)
                   obtain ⟨va, vc, rfl, -, -, -⟩ := own_slice hown1
                   have HO1 := Lib.hid hown1; clear hown1 hg1 hv1)
                | (refine step_append_rd _ rfl (.tmp 115) (.tmp 118) 22 rfl W9.heap.size 34 i0 _ 6 48 Try.underlying22 hi0 hz0 hz1 HZ2.out rfl (by omega) (.slice va (0 + (k - lo)) vc) (0 + (k - lo)) ([] ++ edsV (C.drop lo)) (by first | rfl | simp [Act.eval]) HO1.out _ (some ⟨g7, 0, none⟩) lo c7 (edsV (C.take lo)) (by first | rfl | simp [Act.eval]) (by rw [edsV_length, List.length_take, HCL.out]; omega) (HRT.out.below hbv1) (edsV_one _) (by unfold maxLen; omega) (by omega) hbv1.size ?_; intro v2 w2' hown2 hg2 hv2
                   have hbv2 : RowKit.Below W9.heap.size W9 w2' := hbv1.grown hg2 hbv1.size (fun g hg => (own_shape HO1.out hg).1)
                   have HO2 := Lib.hid hown2; clear hown2 hg2 hv2))
              go_wp2_with fail
              go_ret
              have hbz := bel2 (bel2 HB3.out HB9.out) hbv2
              have hrot : rotL C = C.drop lo ++ C.take lo := by unfold rotL; rw [HLO.out]
              have ho2 := HO2.out
              rw [List.nil_append, ← edsV_append, ← hrot, show 0 + (k - lo) + lo = (rotL C).length by rw [rotL_length, HCL.out]; omega] at ho2
              have he := HE.out
              rw [HCC.out] at he
              exact ⟨_, rfl, rotL C, he, own_base ho2 (Nat.le_trans HB3.out.size HB9.out.size), hbz⟩
end Go.Proofs.Ytgeoggilnkcacaa

