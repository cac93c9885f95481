import Derived.Test.YtgeoggilnkcacaaJk
import Derived.Test.YtgeoggilnkcacaaJj
import Derived.Test.YtgeoggilnkcacaaQr
import Derived.Test.YtgeoggilnkcacaaGe
import Derived.Deep.RegionHeldLaw
namespace Go.Proofs.Ytgeoggilnkcacaa
open Go Go.RowKit Go.Sort
set_option linter.unusedVariables false

/-! The landed code: the chain turned, and Of (stage 16). -/
set_option maxHeartbeats 8000000 in
theorem turned_any (a : Option Addr) (c d : Nat) (C : List Ed) (w : World) (ha : Rd w w.heap.size a (edsV C)) (hd : C.length = d) (hdc : d ≤ c) (hpos : 0 < d) (hl : d ≤ 100000) :
    Calls Try.prog 16 #[.slice a d c] w fun x w' => ∃ v, x = .returned v ∧ w'.ownsRow w.heap.size 34 6 v (rotL C).length (edsV (rotL C)) ∧ Below w.heap.size w w' := by
  have HA := Lib.hid ha; have HCL := Lib.hid hd; clear ha hd
  go_enter Try.func16, Try.ntmps16
  go_wp2_with fail
  go_loopw [3, 8] (fun vl vi wr => ∃ k : Nat, k ≤ d ∧ vi = .int .i64 (k : Int) ∧ vl = .int .i64 (lowAt C k : Int) ∧ Below w.heap.size w wr) (fun _ vi _ => d - (intOf vi).toNat)
  case atStart => exact ⟨0, Nat.zero_le _, rfl, rfl, Below.refl _ _⟩
  case round =>
    obtain ⟨k, hk, rfl, rfl, hbw⟩ := hrel
    have HW := Lib.hid hbw; clear hbw
    generalize wr = W9 at *
    have hlow : lowAt C k < d := by rw [← HCL.out]; exact lowAt_lt k (by rw [HCL.out]; exact hk) (by rw [HCL.out]; exact hpos)
    have HT9 := Lib.hid ((HA.out.below HW.out).more HW.out.size)
    by_cases hlt : k < d
    · have hkc : k < C.length := by rw [HCL.out]; exact hlt
      have hlc : lowAt C k < C.length := by rw [HCL.out]; exact hlow
      obtain ⟨b8, o8, ha8, hb8, f0, f1, f2, f3, f4, f5⟩ := HT9.out.edge hkc
      obtain ⟨b9, o9, ha9, _, g0, g1, g2, g3, g4, g5⟩ := HT9.out.edge hlc
      subst ha8
      obtain ⟨rfl, rfl⟩ := And.intro (Addr.mk.inj (Option.some.inj ha9)).1 (Addr.mk.inj (Option.some.inj ha9)).2.1
      have q1 : C.getD k default = C[k] := by simp [List.getD, hkc]
      have q2 : C.getD (lowAt C k) default = C[lowAt C k] := by simp [List.getD, hlc]
      have HST : Hid (lowAt C (k + 1) = if C[k].fr < C[lowAt C k].fr then k else lowAt C k) := by show _ = _; rw [lowAt, q1, q2]
      have z1 : (k : Int) < (d : Int) := by omega
      have z2 : (0 : Int) ≤ (k : Int) := by omega
      have z3 : (lowAt C k : Int) < (d : Int) := by omega
      have z4 : (0 : Int) ≤ (lowAt C k : Int) := by omega
      clear ha9 q1 q2 g1 g2 g3 g4 g5
      generalize C[k] = e1 at *
      generalize C[lowAt C k] = e2 at *
      go_upto_region 5 with fail
      have hlt8 : b8 < W9.heap.size := hb8
      obtain ⟨W5, hW5⟩ : ∃ W5, W9.alloc (.cells #[.int .i64 e1.fr, .int .i64 e1.to_, .int .i64 e1.wt, .int .i64 e1.pc, .int .i64 e1.ps, .bool e1.en] 34) = W5 := ⟨_, rfl⟩
      have x0 : W5.cell? ⟨W9.heap.size, 0, none⟩ = some (.int .i64 e1.fr) := by rw [← hW5]; simp
      have y0 : W5.cell? ⟨b8, o8 + lowAt C k * 6, none⟩ = some (.int .i64 e2.fr) := by rw [← hW5, (box1 W9 _).cell (p := ⟨b8, o8 + lowAt C k * 6, none⟩) hlt8]; exact g0
      have HB5 : Hid (Below w.heap.size w W5) := by show Below _ _ _; rw [← hW5]; exact bel2 HW.out (box1 W9 _)
      rw [hW5]
      clear hW5 f0 f1 f2 f3 f4 f5 g0
      by_cases hc : e1.fr < e2.fr
      · have HN1 := Lib.hid (HST.out.trans (if_pos hc))
        go_quiet (fail)
        go_wp2_with fail
        go_roundw
        case rel => exact ⟨k + 1, by omega, by go_num, by rw [HN1.out], Below_drewN HB5.out _⟩
        case measure => simp [intOf]; omega
      · have HN1 := Lib.hid (HST.out.trans (if_neg hc))
        go_quiet (fail)
        go_wp2_with fail
        go_roundw
        case rel => exact ⟨k + 1, by omega, by go_num, by rw [HN1.out], Below_drewN HB5.out _⟩
        case measure => simp [intOf]; omega
    · obtain rfl : k = d := by omega
      obtain ⟨L, hL⟩ : ∃ L, lowAt C k = L := ⟨_, rfl⟩
      have HROT : Hid (rotL C = C.drop L ++ C.take L) := by show _ = _; unfold rotL; rw [HCL.out, hL]
      rw [hL] at hlow ⊢
      have z3 : (L : Int) < (k : Int) := by omega
      have z5 : (L : Int) ≤ (k : Int) := by omega
      have z4 : (0 : Int) ≤ (L : Int) := by omega
      obtain ⟨b, o, ha, hb, -⟩ := HT9.out (by rw [edsV_length, HCL.out]; omega)
      subst ha
      have hR1 := HT9.out.drop (L * 6)
      rw [edsV_drop] at hR1
      have hR2 := HT9.out.take (L * 6)
      rw [edsV_take] at hR2
      have hl1 : (C.drop L).length = k - L := by rw [List.length_drop, HCL.out]
      have hl2 : (C.take L).length = L := by rw [List.length_take, HCL.out]; omega
      have HR1 := Lib.hid hR1; have HR2 := Lib.hid hR2; have HL1 := Lib.hid hl1; have HL2 := Lib.hid hl2
      clear hR1 hR2 hl1 hl2
      have z6 : (k : Int) ≤ (c : Int) := by omega
      have z7 : (L : Int) ≤ (c : Int) := by omega
      have hw1 : IntKind.i64.wrap ((k : Int) - (L : Int)) = ((k - L : Nat) : Int) := by rw [IntWalk.i64_in _ (by omega)]; omega
      go_upto_region 8 with fail
      have zc : ¬ (c = L) := by omega
      have HLIT : Hid (∀ x y, Rd ((W9.alloc (.cells #[x, y] 22)).drew) ((W9.alloc (.cells #[x, y] 22)).drew).heap.size (some ⟨W9.heap.size, 0, none⟩) [x, y]) := fun x y =>
        ((lit_rd W9 #[x, y] 22).below (Below_drew (Below.refl _ _))).more (by simp)
      have HBL : Hid (∀ x y, Below W9.heap.size W9 ((W9.alloc (.cells #[x, y] 22)).drew)) := fun x y => Below_drew (box1 _ _)
      go_region_held_law (fun _ => True) (exact trivial) (first
        | (go_at_call 25
           refine (concatE_two _ (some ⟨b, o + L * 6, none⟩) (some ⟨b, o, none⟩) 2 _ (c - L) c (k - L) L (C.drop L) (C.take L) _ rfl HL1.out.symm HL2.out.symm (HLIT.out _ _) ((HR1.out.below (HBL.out _ _)).more (HBL.out _ _).size) ((HR2.out.below (HBL.out _ _)).more (HBL.out _ _).size) (by rw [HL1.out, HL2.out]; omega) (by rw [HL1.out]; omega) (by rw [HL2.out]; omega)).mono ?_
           rintro en w3 ⟨v, rfl, hown, hb3⟩
           rw [← HROT.out] at hown
           have HOWN := Lib.hid (own_base hown (Nat.le_trans HW.out.size (HBL.out _ _).size))
           have HB3 := Lib.hid (bel2 (bel2 HW.out (HBL.out _ _)) hb3)
           clear hown hb3))
      go_wp2_with fail
      go_ret
      exact ⟨v, rfl, HOWN.out, HB3.out⟩
set_option maxHeartbeats 8000000 in
theorem loop_pays16 : LoopPay 8 := by
  intro n a c E w ha hl hok hn
  have HM := Lib.hid (may_pays15 n a c E w ha hl hok hn)
  have HC := Lib.hid (fun W (h : Below w.heap.size w W) => layers_pays15 n a c E W ((ha.below h).more h.size) hl hok hn)
  have HA := Lib.hid ha; clear ha hok hn
  obtain ⟨r, hr⟩ : ∃ r, mayE n E = r := ⟨_, rfl⟩
  rw [hr] at HM
  cases r with
  | false =>
    have HE : Hid (ChainIs n E []) := .inr ⟨fun h => by rw [hr] at h; exact absurd h.1 (by simp), rfl⟩
    clear hr HC
    go_enter Try.func8, Try.ntmps8
    go_wp2_with (go_at_call 14
                 refine HM.out.mono ?_
                 rintro x w1 ⟨rfl, hb1⟩
                 have HB1 := Lib.hid hb1; clear hb1)
    go_ret
    exact ⟨_, [], rfl, HE.out, ⟨rfl, .inl ⟨rfl, rfl⟩⟩, HB1.out⟩
  | true =>
    obtain ⟨h0, h32, hE⟩ := mayE_iff.1 hr
    obtain ⟨m, rfl⟩ : ∃ m : Nat, n = (m : Int) := ⟨n.toNat, by omega⟩
    have hL1 : (laysL (m : Int) E).length = m + 1 := by unfold laysL; rw [hr]; simp
    have hL2 : (bysL (m : Int) E).length = m + 1 := by unfold bysL; rw [hr]; simp
    have HLG := Lib.hid (fun k hk (h : k < (laysL (m : Int) E).length) => lays_get (E := E) (k := k) hr hk h)
    have HL1 := Lib.hid hL1; have HL2 := Lib.hid hL2
    rw [hL1, hL2] at HC
    obtain ⟨y, hy⟩ : ∃ y, m + 1 = y := ⟨_, rfl⟩
    rw [hy] at HC
    have hm32 : m ≤ 32 := by omega
    have i2 : (m : Int) < (y : Int) := by omega
    have HEO := Lib.hid hE; have HR := Lib.hid hr
    have hym : y = m + 1 := hy.symm
    have HY := Lib.hid hym
    clear hL1 hL2 hr hE hy hym
    go_enter Try.func8, Try.ntmps8
    go_upto_region 4 with (first
      | (go_at_call 14
         refine HM.out.mono ?_
         rintro x w1 ⟨rfl, hb1⟩
         have HB1 := Lib.hid hb1; clear hb1)
      | (go_at_call 15
         refine (HC.out _ HB1.out).mono ?_
         rintro x w2 ⟨a1, c1, a2, c2, rfl, hr1, hr2, hb2⟩
         have HR1 := Lib.hid hr1; have HR2 := Lib.hid hr2
         have HB2 := Lib.hid (HB1.out.trans (hb2.mono HB1.out.size)); clear hb2 hr1 hr2))
    obtain ⟨mk, hmk⟩ : ∃ k, m - 1 = k := ⟨_, rfl⟩
    obtain ⟨v0, hv0m, hfirst, hcase⟩ : ∃ v0, v0 ≤ m ∧ (∀ j, j < v0 → (rowQ m E mk).getD j 0 ≤ (rowQ m E m).getD j 0) ∧ ((v0 = m ∧ ChainIs (m : Int) E []) ∨ (Drops m E v0 ∧ metL m E = false)) := by
      cases hmet : metL m E with
      | true => exact ⟨m, Nat.le_refl _, fun j hj => by rw [← hmk]; exact met_iff.1 hmet j hj, .inl ⟨rfl, .inr ⟨fun h => by rw [Int.toNat_natCast, hmet] at h; exact absurd h.2 (by simp), rfl⟩⟩⟩
      | false =>
        obtain ⟨v0, hv⟩ := drops_is hmet
        exact ⟨v0, Nat.le_of_lt hv.lt, fun j hj => by rw [← hmk]; exact hv.first j hj, .inr ⟨hv, rfl⟩⟩
    obtain ⟨b1, o1, ha1, hlt1, u1, d1, hc1, hu1⟩ := HR1.out.get (i := m) (g := rowQ m E m) (by rw [HL1.out]; omega) (HLG.out m (Nat.le_refl _) (by rw [HL1.out]; omega))
    obtain ⟨b2, o2, ha2, hlt2, u2, d2, hc2, hu2⟩ := HR1.out.get (i := mk) (g := rowQ m E mk) (by rw [HL1.out]; omega) (HLG.out mk (by omega) (by rw [HL1.out]; omega))
    subst ha1
    obtain ⟨rfl, rfl⟩ := And.intro (Addr.mk.inj (Option.some.inj ha2)).1 (Addr.mk.inj (Option.some.inj ha2)).2.1
    rw [rowQ_length] at hc1 hc2
    have HC1 := Lib.hid hc1; have HC2 := Lib.hid hc2; have HU1 := Lib.hid hu1; have HU2 := Lib.hid hu2
    have HF := Lib.hid hfirst; have HCA := Lib.hid hcase; have HMK := Lib.hid hmk
    clear ha2 hc1 hc2 hu1 hu2 hlt2 hfirst hcase hmk HC HM
    go_wp2_with fail
    go_loopw [19] (fun vi wr => ∃ h : Nat, h ≤ v0 ∧ vi = .int .i64 (h : Int) ∧ Below w2.heap.size w2 wr) (fun vi _ => v0 - (intOf vi).toNat)
    case atStart => exact ⟨0, Nat.zero_le _, rfl, Below.refl _ _⟩
    case round =>
      obtain ⟨h, hh, rfl, hb⟩ := hrel
      have HW := Lib.hid hb
      have hc1 := (hb.cell (p := ⟨b1, o1 + m, none⟩) hlt1).trans HC1.out
      have hc2 := (hb.cell (p := ⟨b1, o1 + mk, none⟩) hlt1).trans HC2.out
      clear hb
      generalize wr = W2 at *
      by_cases hhm : h < m
      · obtain ⟨b3, o3, hb3, _, e3⟩ := (HU1.out.below HW.out).num (i := h) (by rw [rowQ_length]; omega)
        obtain ⟨b4, o4, hb4, _, e4⟩ := (HU2.out.below HW.out).num (i := h) (by rw [rowQ_length]; omega)
        subst hb3 hb4
        have g1 : (rowQ m E m).getD h 0 = (rowQ m E m)[h]'(by rw [rowQ_length]; omega) := by rw [List.getD_eq_getElem?_getD, List.getElem?_eq_getElem]; rfl
        have g2 : (rowQ m E mk).getD h 0 = (rowQ m E mk)[h]'(by rw [rowQ_length]; omega) := by rw [List.getD_eq_getElem?_getD, List.getElem?_eq_getElem]; rfl
        rw [← g1] at e3
        rw [← g2] at e4
        have j1 : (h : Int) < (m : Int) := by omega
        have j2 : (0 : Int) ≤ (h : Int) := by omega
        have j3 : IntKind.i64.wrap ((m : Int) - 1) = (mk : Int) := by have := HMK.out; rw [IntWalk.i64_in _ (by omega)]; omega
        have j4 : (mk : Int) < (y : Int) := by have := HMK.out; omega
        have j5 : (0 : Int) ≤ (mk : Int) := by omega
        have j6 : (0 : Int) ≤ (m : Int) := by omega
        by_cases hlt : h < v0
        · have hx := HF.out h hlt
          generalize (rowQ m E m).getD h 0 = x1 at *
          generalize (rowQ m E mk).getD h 0 = x2 at *
          have hx' : ¬ (x1 < x2) := by omega
          clear g1 g2
          go_wp2_with fail
          go_quiet (fail)
          go_wp2_with fail
          go_roundw
          case rel => exact ⟨h + 1, by omega, by go_num, Below_drewN HW.out _⟩
          case measure => simp [intOf]; omega
        · obtain rfl : h = v0 := by omega
          obtain ⟨hdr, hmet⟩ : Drops m E h ∧ metL m E = false := by
            rcases HCA.out with ⟨h1, _⟩ | h1
            · omega
            · exact h1
          have hx := hdr.drop
          rw [HMK.out] at hx
          have HDR := Lib.hid hdr; have HMET := Lib.hid hmet
          generalize (rowQ m E m).getD h 0 = x1 at *
          generalize (rowQ m E mk).getD h 0 = x2 at *
          clear g1 g2 hdr hmet HF HCA
          obtain ⟨i, d, hrep⟩ := rep_is HEO.out HDR.out.lt HDR.out.drop
          have HREP := Lib.hid hrep; clear hrep
          go_wp2_with fail
          go_quiet (fail)
          have HB3 := Lib.hid (Below_drewN HW.out nq)
          have HBW := Lib.hid (HB2.out.trans (HB3.out.mono HB2.out.size))
          generalize W2.drewN nq = W3 at *
          clear hc1 hc2 e3 e4 hlt HW HU1 HU2 HC1 HC2 hlt1
          have HRB := Lib.hid (round_any m h i d a a2 c c2 y E W3 ((HA.out.below HBW.out).more HBW.out.size) hl HEO.out hm32 HR.out HDR.out HREP.out HY.out ((HR2.out.below HB3.out).more HB3.out.size))
          have HE : Hid (ChainIs (m : Int) E (rotL (cycL m E h i d))) := .inl ⟨HR.out, by rw [Int.toNat_natCast]; exact HMET.out, h, i, d, by rw [Int.toNat_natCast]; exact HDR.out, by rw [Int.toNat_natCast]; exact HREP.out, by rw [Int.toNat_natCast]⟩
          have hcl := cyc_length (n := m) (E := E) (v := h) i d
          have hpos := HREP.out.pos
          have hrle := HREP.out.le
          generalize cycL m E h i d = C at *
          have HCL := Lib.hid hcl
          clear hx hcl
          go_wp2_with fail
          refine HRB.out.mono ?_
          rintro x w4 ⟨a4, c4, rfl, hdc, hrd, hb4⟩
          have HRD := Lib.hid hrd; have HB4 := Lib.hid (bel2 HBW.out hb4)
          clear hrd hb4
          rw [HCL.out] at hdc ⊢
          go_wp2_with fail
          refine (turned_any a4 c4 d C w4 HRD.out HCL.out hdc hpos (by omega)).mono ?_
          rintro x w5 ⟨v, rfl, hown, hb5⟩
          have HOWN := Lib.hid (own_base hown HB4.out.size); have HB5 := Lib.hid (bel2 HB4.out hb5)
          clear hown hb5
          go_wp2_with fail
          go_ret
          exact ⟨v, _, rfl, HE.out, HOWN.out, HB5.out⟩
      · obtain rfl : h = m := by omega
        have HE : Hid (ChainIs (h : Int) E []) := by
          rcases HCA.out with ⟨_, h2⟩ | ⟨h2, _⟩
          · exact h2
          · exact absurd h2.lt (by omega)
        have HB5 := Lib.hid (HB2.out.trans (HW.out.mono HB2.out.size))
        clear hc1 hc2
        go_wp2_with fail
        go_ret
        exact ⟨_, [], rfl, HE.out, ⟨rfl, .inl ⟨rfl, rfl⟩⟩, HB5.out⟩
end Go.Proofs.Ytgeoggilnkcacaa
