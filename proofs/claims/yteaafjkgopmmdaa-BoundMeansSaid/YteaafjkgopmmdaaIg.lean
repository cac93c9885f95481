import Derived.Test.YteaafjkgopmmdaaId
import Derived.Deep.RegionHeldLaw
namespace Go.Proofs.Yteaafjkgopmmdaa
open Go Go.RowKit Go.Sort
set_option linter.unusedVariables false

/-! What the edges of a pair mean: the law BoundMeans (stage 14). -/
/-- What a pair is. -/
theorem pair_parts {L : List Sp} {P : List Int} {p : Pr} (h : p ∈ pairsL L P) : ∃ n m : Nat, ∃ hn : n < L.length, ∃ hm : m < L.length, p = ⟨(n : Int), (m : Int)⟩ ∧ mayB L[n] = true ∧ mayB L[m] = true := by
  unfold pairsL at h
  split at h
  · obtain ⟨i, hi, hp⟩ := List.mem_filterMap.1 h
    have hi := List.mem_range.1 hi
    unfold pairAt at hp
    rw [atP_is hi] at hp
    cases hc : atP L (P.getD i (-1)) with
    | none => rw [hc] at hp; cases hp
    | some c =>
      obtain ⟨n, hn, e1, e2⟩ := atP_some hc
      rw [hc, e1] at hp
      simp only at hp
      split at hp
      · rename_i hk
        refine ⟨n, i, hn, hi, (Option.some.inj hp).symm, by rw [e2]; exact hk.2.2.2, hk.2.2.1⟩
      · cases hp
  · cases h
theorem host_in14 {L : List Sp} {i : Nat} (h : i < L.length) : hostT L[i] ∈ hostsL L := ((onceL_once (L.map hostT)).2 _).2 (List.mem_map.2 ⟨_, List.getElem_mem h, rfl⟩)
theorem num_range14 {L : List Sp} {n : Nat} (hn : n < L.length) : ∃ h : n < (numL L).length, 0 ≤ (numL L)[n] ∧ (numL L)[n] < (L.length : Int) := by
  have h : n < (numL L).length := by rw [numL_length]; exact hn
  refine ⟨h, ?_⟩
  have e : (numL L)[n] = placeL (hostsL L) (hostT L[n]) := by simp [numL]
  rw [e]
  have h1 := placeF_range (hostsL L) (hostT L[n]) 0
  have h2 := hosts_length L
  have h3 : ¬ placeL (hostsL L) (hostT L[n]) < 0 := fun h => (placeL_neg _ _).1 h (host_in14 hn)
  unfold placeL at h3 ⊢
  omega
/-- The edges of a single pair. -/
theorem edges_one {L : List Sp} {n m : Nat} (hn : n < L.length) (hm : m < L.length) (h1 : mayB L[n] = true) (h2 : mayB L[m] = true) :
    edgesL L [⟨(n : Int), (m : Int)⟩] = [⟨numP L (m : Int), numP L (n : Int), L[m].start - L[n].start, (n : Int), (m : Int), false⟩, ⟨numP L (n : Int), numP L (m : Int), L[n].start + L[n].dur - L[m].start - L[m].dur, (n : Int), (m : Int), true⟩] := by
  have hg : gapsL L ⟨(n : Int), (m : Int)⟩ = some (L[m].start - L[n].start, L[n].start + L[n].dur - L[m].start - L[m].dur) := by
    rw [gaps_is (atP_is hn) (atP_is hm), h1, h2]; rfl
  unfold edgesL edgesAt
  simp only [List.flatMap_cons, List.flatMap_nil, List.append_nil, hg]
theorem all_two (e f : Ed) (O : List Int) : allL [e, f] O = (holdsL e O && holdsL f O) := by simp [allL]
theorem wrap_small14 {x : Int} (h : -9223372036854775808 ≤ x ∧ x < 9223372036854775808) : IntKind.i64.wrap x = x := by
  rw [wrap64]; split <;> omega
set_option maxHeartbeats 16000000 in
set_option maxRecDepth 20000 in
theorem law_means14 (hof : EdgesPay 12) (hho : HoldsPay 14) (hal : AllPay 16) (a : Option Addr) (c : Nat) (L : List Sp) (b : Option Addr) (d : Nat) (O : List Int) (w : World) (ha : Rd w w.heap.size a (flatL L)) (hc1 : L.length ≤ maxLen) (hok : ∀ s ∈ L, s.Ok) (hb : Rd w w.heap.size b (intV O)) (hn : Nums O) (hc2 : O.length ≤ maxLen) :
    Calls Try.prog 5 #[.slice a L.length c, .slice b O.length d] w fun e w' => e = .returned (.bool true) ∧ Below w.heap.size w w' := by
  have HOF := Lib.hid hof; have HHO := Lib.hid hho; have HAL := Lib.hid hal; have HA := Lib.hid ha; have HB := Lib.hid hb; have HOK := Lib.hid hok; have HN := Lib.hid hn; clear hof hho hal ha hb hok hn
  have hgr := great_any a c L w HA.out hc1 HOK.out
  cases hG : greatB L with
  | true =>
    rw [hG] at hgr
    have HGR := Lib.hid hgr; clear hgr hG
    go_enter Try.func5, Try.ntmps5
    go_wp2_with (first
      | (go_at_call 7; refine HGR.out.mono ?_; rintro e w1 ⟨rfl, hb1⟩; have HB1 := Lib.hid hb1; clear hb1)
      | (go_at_call 8; refine (fixed14_any HOF.out _).mono ?_; rintro e w2 ⟨rfl, hb2⟩))
    go_ret
    exact ⟨rfl, bel2 HB1.out hb2⟩
  | false =>
  rw [hG] at hgr
  have HGR := Lib.hid hgr; clear hgr
  have hL60 := great_len14 hG
  clear hG
  unfold maxLen at hc2
  go_enter Try.func5, Try.ntmps5
  go_wp2_with (go_at_call 7; refine HGR.out.mono ?_; rintro e w1 ⟨rfl, hb1⟩; have HB1 := Lib.hid hb1; clear hb1)
  go_loopw [24] (fun i wr => ∃ n : Nat, n ≤ O.length ∧ i = .int .i64 n ∧ (∀ x ∈ O.take n, -288230376151711744 ≤ x ∧ x ≤ 288230376151711744) ∧ Below w.heap.size w wr) (fun i _ => O.length - (intOf i).toNat)
  case atStart => exact ⟨0, Nat.zero_le _, rfl, by simp, HB1.out⟩
  case round =>
    obtain ⟨n, hn, rfl, hin, hbw⟩ := hrel
    have HW := Lib.hid hbw; have HIN := Lib.hid hin; clear hbw hin
    generalize wr = W1 at *
    by_cases hlt : n < O.length
    · obtain ⟨b1, o1, ha2, _, e0⟩ := (HB.out.below HW.out).num hlt
      subst ha2
      have HSN : Hid (-288230376151711744 ≤ O[n] → O[n] ≤ 288230376151711744 → ∀ x ∈ O.take (n + 1), -288230376151711744 ≤ x ∧ x ≤ 288230376151711744) := by
        intro h1 h2 x hx
        rw [List.take_succ_eq_append_getElem hlt, List.mem_append, List.mem_singleton] at hx
        rcases hx with hx | rfl
        · exact HIN.out x hx
        · exact ⟨h1, h2⟩
      generalize O[n] = x at *
      have i3 : (n : Int) < (O.length : Int) := by omega
      have i4 : (0 : Int) ≤ (n : Int) := by omega
      by_cases h1 : 288230376151711744 < x
      · have e1 : decide (288230376151711744 < x) = true := decide_eq_true h1
        clear h1
        go_wp2_with (go_at_call 8; refine (fixed14_any HOF.out _).mono ?_; rintro e w2 ⟨rfl, hb2⟩)
        go_ret
        exact ⟨rfl, bel2 HW.out hb2⟩
      have e1 : decide (288230376151711744 < x) = false := decide_eq_false h1
      by_cases h2 : x < -288230376151711744
      · have e2 : decide (x < -288230376151711744) = true := decide_eq_true h2
        clear h1 h2
        go_wp2_with (go_at_call 8; refine (fixed14_any HOF.out _).mono ?_; rintro e w2 ⟨rfl, hb2⟩)
        go_ret
        exact ⟨rfl, bel2 HW.out hb2⟩
      have e2 : decide (x < -288230376151711744) = false := decide_eq_false h2
      have HH := Lib.hid (HSN.out (by omega) (by omega))
      clear h1 h2 HSN
      go_wp2_with fail
      go_roundw
      case rel => exact ⟨n + 1, by omega, by go_num, HH.out, HW.out⟩
      case measure => simp [intOf]; omega
    · obtain rfl : n = O.length := by omega
      have hin := HIN.out
      rw [List.take_length] at hin
      have HLIM := Lib.hid hin
      clear hin HIN
      obtain ⟨Q, hQ, hql, hqr⟩ : ∃ Q, Q = cutP (parL L) ∧ Q.length = L.length ∧ ∀ x ∈ Q, -9223372036854775808 ≤ x ∧ x < 9223372036854775808 := ⟨_, rfl, cut_len14 L, own_range14 (by omega)⟩
      have HQE := Lib.hid hQ; have HQL := Lib.hid hql; have HQR := Lib.hid hqr; clear hQ hql hqr
      have hp2 := pairs_le L Q
      have HPP := Lib.hid (fun p (h : p ∈ pairsL L Q) => pair_parts h)
      obtain ⟨G, hG⟩ : ∃ G, pairsL L Q = G := ⟨_, rfl⟩
      have HGE := Lib.hid hG
      rw [hG] at hp2 HPP
      clear hG
      have hWs := HW.out.size
      go_wp2_with (first
        | (go_at_call 18
           refine (refNums_any a c L W1 ((HA.out.below HW.out).more HW.out.size) (by omega) HOK.out).mono ?_; rintro e w2 ⟨v2, rfl, hown2, hb2⟩
           obtain ⟨a2, c2, rfl, _, _, _⟩ := own_slice hown2
           have HN2 := Lib.hid (Rd.own hown2); have HB2 := Lib.hid (bel2 HW.out hb2); clear hown2 hb2)
        | (go_at_call 10
           refine (refOf10_any a c L w2 ((HA.out.below HB2.out).more HB2.out.size) (by omega)).mono ?_; rintro e w3 ⟨v3, rfl, hown3, hb3⟩
           rw [← HQE.out] at hown3
           obtain ⟨a3, c3, rfl, _, _, _⟩ := own_slice hown3
           have HN3 := Lib.hid ((HN2.out.below hb3).more hb3.size)
           have HP3 := Lib.hid (Rd.own hown3); have HB3 := Lib.hid (bel2 HB2.out hb3); clear hown3 hb3)
        | (go_at_call 9
           have hcall := refPairs_any a c L a3 c3 Q w3 ((HA.out.below HB3.out).more HB3.out.size) HP3.out (by omega) (by rw [HQL.out]; omega) HOK.out HQR.out
           rw [HQL.out, HGE.out] at hcall
           refine hcall.mono ?_; clear hcall; rintro e w4 ⟨v4, rfl, hown4, hb4⟩
           obtain ⟨a4, c4, rfl, _, _, _⟩ := own_slice hown4
           have HN4 := Lib.hid ((HN3.out.below hb4).more hb4.size)
           have HG4 := Lib.hid (Rd.own hown4); have HB4 := Lib.hid (bel2 HB3.out hb4); clear hown4 hb4))
      clear HN2 HN3 HP3 HB1 HB2 HB3
      have h4s := HB4.out.size
      go_loopw [43] (fun i wr => ∃ n : Nat, n ≤ G.length ∧ i = .int .i64 n ∧ Below w4.heap.size w4 wr) (fun i _ => G.length - (intOf i).toNat)
      case atStart => exact ⟨0, Nat.zero_le _, rfl, Below.refl _ _⟩
      case round =>
        obtain ⟨k, hk, rfl, hbw⟩ := hrel
        have HW2 := Lib.hid hbw; clear hbw
        have HWW := Lib.hid (HB4.out.trans (HW2.out.mono h4s))
        generalize wr = W2 at *
        have hWs2 := HW2.out.size
        have hWs2' := HWW.out.size
        have hWs24 := HW2.out.size
        by_cases hlt : k < G.length
        · obtain ⟨b5, o5, ha5, hlb5, p0, p1⟩ := (HG4.out.below HW2.out).pr hlt
          subst ha5
          obtain ⟨n, m, hn, hm, hp, hm1, hm2⟩ := HPP.out G[k] (List.getElem_mem _)
          generalize G[k] = p at *
          subst hp
          simp only at p0 p1
          have i3 : (k : Int) < (G.length : Int) := by omega
          have i4 : (0 : Int) ≤ (k : Int) := by omega
          have HEO := Lib.hid (edges_one hn hm hm1 hm2)
          have HT1 := Lib.hid (mayB_times hm1)
          have HT2 := Lib.hid (mayB_times hm2)
          clear hm1 hm2
          have HAV := Lib.hid ((HA.out.below HWW.out).more hWs2')
          have HA3 := Lib.hid ((HAV.out.below (box1 W2 (.cells #[.int .i64 (n : Int), .int .i64 (m : Int)] 35))).below ((box1 (W2.alloc (.cells #[.int .i64 (n : Int), .int .i64 (m : Int)] 35)) (.cells #[.int .i64 (n : Int), .int .i64 (m : Int)] 35)).mono (by simp)))
          go_wp2_with (first
            | (go_at_call 12
               refine (HOF.out a c L (some ⟨W2.heap.size + 1, 0, none⟩) 1 [⟨(n : Int), (m : Int)⟩] _ (HA3.out.more (by simp; omega)) ((lit_at (W2.alloc (.cells #[.int .i64 (n : Int), .int .i64 (m : Int)] 35)) #[.int .i64 (n : Int), .int .i64 (m : Int)] 35 (W2.heap.size + 1) (by simp)).more (by simp)) (by omega) (by simp) HOK.out).mono ?_
               rw [HEO.out]
               rintro e w5 ⟨a5, c5, rfl, hr5, hb5⟩
               have HR5 := Lib.hid hr5
               have q0 : w5.cell? ⟨W2.heap.size, 0, none⟩ = some (.int .i64 (n : Int)) := (hb5.cell (p := ⟨W2.heap.size, 0, none⟩) (by simp; omega)).trans (by simp)
               have q1 : w5.cell? ⟨W2.heap.size, 1, none⟩ = some (.int .i64 (m : Int)) := (hb5.cell (p := ⟨W2.heap.size, 1, none⟩) (by simp; omega)).trans (by simp)
               have HB5 := Lib.hid (((box1 W2 (.cells #[.int .i64 (n : Int), .int .i64 (m : Int)] 35)).alloc (by simp) (.cells #[.int .i64 (n : Int), .int .i64 (m : Int)] 35)).trans (hb5.mono (by simp; omega)))
               have hs5 : W2.heap.size < w5.heap.size := by have := hb5.size; simp at this; omega
               clear hr5 hb5))
          obtain ⟨hn', N1, N2⟩ := num_range14 hn
          obtain ⟨hm', N3, N4⟩ := num_range14 hm
          have HNV := Lib.hid ((HN4.out.below (HW2.out.trans (HB5.out.mono hWs24))).more (by omega : w4.heap.size ≤ w5.heap.size))
          obtain ⟨b6, o6, hb6, hlb6, d5⟩ := HNV.out.num hn'
          obtain ⟨b7, o7, hb7, _, d6⟩ := HNV.out.num hm'
          subst hb6
          obtain ⟨rfl, rfl⟩ := And.intro (Addr.mk.inj (Option.some.inj hb7)).1 (Addr.mk.inj (Option.some.inj hb7)).2.1
          rw [← numP_is hn'] at d5 N1 N2
          rw [← numP_is hm'] at d6 N3 N4
          generalize numP L (n : Int) = hc at *
          generalize numP L (m : Int) = hs at *
          obtain ⟨x, rfl⟩ : ∃ x : Nat, hc = (x : Int) := ⟨hc.toNat, by omega⟩
          obtain ⟨y, rfl⟩ : ∃ y : Nat, hs = (y : Int) := ⟨hs.toNat, by omega⟩
          have j1 : (n : Int) < (L.length : Int) := by omega
          have j2 : (0 : Int) ≤ (n : Int) := by omega
          have j3 : (m : Int) < (L.length : Int) := by omega
          have j4 : (0 : Int) ≤ (m : Int) := by omega
          clear hb7
          go_quiet (fail)
          by_cases hx : x < O.length
          case neg =>
            have k1 : decide ((O.length : Int) ≤ (x : Int)) = true := decide_eq_true (by omega)
            have k2 : decide (O.length ≤ x) = true := decide_eq_true (by omega)
            have k3 : O.length ≤ x := by omega
            go_wp2_with fail
            exact ⟨⟨k + 1, by omega, by go_num, HW2.out.trans ((Below_drewN HB5.out _).mono hWs24)⟩, by simp [intOf]; omega⟩
          have k1 : decide ((O.length : Int) ≤ (x : Int)) = false := decide_eq_false (by omega)
          have k2 : decide (O.length ≤ x) = false := decide_eq_false (by omega)
          by_cases hy : y < O.length
          case neg =>
            have k3 : decide ((O.length : Int) ≤ (y : Int)) = true := decide_eq_true (by omega)
            have k4 : decide (O.length ≤ y) = true := decide_eq_true (by omega)
            have k5 : O.length ≤ y := by omega
            go_wp2_with fail
            exact ⟨⟨k + 1, by omega, by go_num, HW2.out.trans ((Below_drewN HB5.out _).mono hWs24)⟩, by simp [intOf]; omega⟩
          have k3 : decide ((O.length : Int) ≤ (y : Int)) = false := decide_eq_false (by omega)
          have k4 : decide (O.length ≤ y) = false := decide_eq_false (by omega)
          go_wp2_with fail
          have HVN := Lib.hid (Below_drewN (Below.refl w5.heap.size w5) nq)
          generalize w5.drewN nq = V at *
          have HBN := Lib.hid (HB5.out.trans (HVN.out.mono (by omega)))
          have hVs : W2.heap.size < V.heap.size := by have := HVN.out.size; omega
          have hVs' : w.heap.size ≤ V.heap.size := by omega
          have HWV := Lib.hid (HW2.out.trans (HBN.out.mono hWs24))
          have HWWV := Lib.hid (HB4.out.trans (HWV.out.mono h4s))
          have HAN := Lib.hid ((HAV.out.below HBN.out).more (by omega : W2.heap.size ≤ V.heap.size))
          have HON := Lib.hid ((HB.out.below HWWV.out).more hVs')
          have HRN := Lib.hid ((HR5.out.below HVN.out).more HVN.out.size)
          obtain ⟨b8, o8, ha8, hlb8, hE1⟩ := HAN.out.elem hn
          obtain ⟨b9, o9, ha9, _, hE2⟩ := HAN.out.elem hm
          subst ha8
          obtain ⟨rfl, rfl⟩ := And.intro (Addr.mk.inj (Option.some.inj ha9)).1 (Addr.mk.inj (Option.some.inj ha9)).2.1
          generalize L[n] = s at *
          generalize L[m] = t at *
          clear ha9 d5 d6
          have T1 := HT1.out
          have T2 := HT2.out
          obtain ⟨ox, hox⟩ : ∃ ox, O[x]'hx = ox := ⟨_, rfl⟩
          obtain ⟨oy, hoy⟩ : ∃ oy, O[y]'hy = oy := ⟨_, rfl⟩
          have B1 := HLIM.out _ (List.getElem_mem hx)
          have B2 := HLIM.out _ (List.getElem_mem hy)
          rw [hox] at B1
          rw [hoy] at B2
          have HOX := Lib.hid hox; have HOY := Lib.hid hoy
          obtain ⟨fr, g1, r1⟩ : ∃ fr, IntKind.i64.wrap (s.start + ox) = fr ∧ fr = s.start + ox := ⟨_, wrap_small14 (by omega), rfl⟩
          obtain ⟨ed, g2, r2⟩ : ∃ ed, IntKind.i64.wrap (s.start + s.dur) = ed ∧ ed = s.start + s.dur := ⟨_, wrap_small14 (by omega), rfl⟩
          obtain ⟨tw, g3, r3⟩ : ∃ tw, IntKind.i64.wrap (ed + ox) = tw ∧ tw = ed + ox := ⟨_, wrap_small14 (by omega), rfl⟩
          obtain ⟨fi, g4, r4⟩ : ∃ fi, IntKind.i64.wrap (t.start + oy) = fi ∧ fi = t.start + oy := ⟨_, wrap_small14 (by omega), rfl⟩
          obtain ⟨ef, g5, r5⟩ : ∃ ef, IntKind.i64.wrap (t.start + t.dur) = ef ∧ ef = t.start + t.dur := ⟨_, wrap_small14 (by omega), rfl⟩
          obtain ⟨la, g6, r6⟩ : ∃ la, IntKind.i64.wrap (ef + oy) = la ∧ la = ef + oy := ⟨_, wrap_small14 (by omega), rfl⟩
          have HH0 : Hid (holdsL ⟨(y : Int), (x : Int), t.start - s.start, (n : Int), (m : Int), false⟩ O = decide (fr ≤ fi)) := by
            show _ = _
            rw [holds_is (numAt_is hy) (numAt_is hx), hox, hoy, Bool.eq_iff_iff, decide_eq_true_iff, decide_eq_true_iff]
            show ox ≤ oy + (t.start - s.start) ↔ _
            omega
          have HH1 : Hid (holdsL ⟨(x : Int), (y : Int), s.start + s.dur - t.start - t.dur, (n : Int), (m : Int), true⟩ O = decide (la ≤ tw)) := by
            show _ = _
            rw [holds_is (numAt_is hx) (numAt_is hy), hox, hoy, Bool.eq_iff_iff, decide_eq_true_iff, decide_eq_true_iff]
            show oy ≤ ox + (s.start + s.dur - t.start - t.dur) ↔ _
            omega
          have HK0 : Hid (Ed.Ok ⟨(y : Int), (x : Int), t.start - s.start, (n : Int), (m : Int), false⟩) := by
            constructor <;> (unfold I64; simp only; omega)
          have HK1 : Hid (Ed.Ok ⟨(x : Int), (y : Int), s.start + s.dur - t.start - t.dur, (n : Int), (m : Int), true⟩) := by
            constructor <;> (unfold I64; simp only; omega)
          clear r1 r2 r3 r4 r5 r6 T1 T2 B1 B2 hox hoy
          have k0 : ∀ w', RowKit.Below V.heap.size V w' → w'.cell? ⟨W2.heap.size, 0, none⟩ = some (.int .i64 (n : Int)) := fun w' h => (h.cell (p := ⟨W2.heap.size, 0, none⟩) hVs).trans ((HVN.out.cell (p := ⟨W2.heap.size, 0, none⟩) hs5).trans q0)
          have k1 : ∀ w', RowKit.Below V.heap.size V w' → w'.cell? ⟨W2.heap.size, 1, none⟩ = some (.int .i64 (m : Int)) := fun w' h => (h.cell (p := ⟨W2.heap.size, 1, none⟩) hVs).trans ((HVN.out.cell (p := ⟨W2.heap.size, 1, none⟩) hs5).trans q1)
          clear q0 q1
          have kk : ∀ (o : Nat) (v : Value), V.cell? ⟨b8, o, none⟩ = some v → ∀ w', RowKit.Below V.heap.size V w' → w'.cell? ⟨b8, o, none⟩ = some v := fun o v hv w' h => (h.cell (p := ⟨b8, o, none⟩) hlb8).trans hv
          obtain ⟨e0, e1, e2, e3, e4, e5, e6, e7⟩ := hE1
          obtain ⟨f0, f1, f2, f3, f4, f5, f6, f7⟩ := hE2
          have kc0 := kk _ _ e0
          have ks0 := kk _ _ f0
          have kc1 := kk _ _ e1
          have ks1 := kk _ _ f1
          have kc2 := kk _ _ e2
          have ks2 := kk _ _ f2
          have kc3 := kk _ _ e3
          have ks3 := kk _ _ f3
          have kc4 := kk _ _ e4
          have ks4 := kk _ _ f4
          have kc5 := kk _ _ e5
          have ks5 := kk _ _ f5
          have kc6 := kk _ _ e6
          have ks6 := kk _ _ f6
          have kc7 := kk _ _ e7
          have ks7 := kk _ _ f7
          clear kk e0 e1 e2 e3 e4 e5 e6 e7 f0 f1 f2 f3 f4 f5 f6 f7
          go_region_held_law (fun w' => RowKit.Below V.heap.size V w') (first | assumption | exact Below_drew (Below.refl _ _) | exact (Below_drew (Below.refl _ _)).alloc (by simp) _ | exact ((Below_drew (Below.refl _ _)).alloc (by simp) _).alloc (by simp) _) (fail)
          · clear kc0 kc1 kc2 kc3 kc4 kc5 kc6 kc7 ks0 ks1 ks2 ks3 ks4 ks5 ks6 ks7 k0 k1
            have HXs : Hid (Box (((V.alloc (.cells s.c 42)).alloc (.cells t.c 42)).drew) V.heap.size s) := (((Box.new V s 42).below (box1 _ (.cells t.c 42)) (by simp)).below (Below_drew (Below.refl ((V.alloc (.cells s.c 42)).alloc (.cells t.c 42)).heap.size _)) (by simp; omega))
            have HXt : Hid (Box (((V.alloc (.cells s.c 42)).alloc (.cells t.c 42)).drew) (V.heap.size + 1) t) := ((Box.at_ (V.alloc (.cells s.c 42)) t 42 (V.heap.size + 1) (by simp)).below (Below_drew (Below.refl ((V.alloc (.cells s.c 42)).alloc (.cells t.c 42)).heap.size _)) (by simp))
            have HBW : Hid (RowKit.Below V.heap.size V (((V.alloc (.cells s.c 42)).alloc (.cells t.c 42)).drew)) := Below_drew ((box1 V (.cells s.c 42)).alloc (by simp) (.cells t.c 42))
            simp only [Sp.c] at HXs HXt HBW
            generalize ((V.alloc (.cells #[.int .u64 s.trace, .int .u64 s.id, .int .u64 s.parent, .int .u8 s.kind, .string s.host, .string s.name, .int .i64 s.start, .int .i64 s.dur] 42)).alloc (.cells #[.int .u64 t.trace, .int .u64 t.id, .int .u64 t.parent, .int .u8 t.kind, .string t.host, .string t.name, .int .i64 t.start, .int .i64 t.dur] 42)).drew = W3 at *
            have HOW := Lib.hid ((HON.out.below HBW.out).more HBW.out.size)
            have HRW := Lib.hid ((HRN.out.below HBW.out).more HBW.out.size)
            have HW3 := Lib.hid (HWV.out.trans (HBW.out.mono (by omega : w4.heap.size ≤ V.heap.size)))
            have h43 := HW3.out.size
            obtain ⟨b1, o1, ha1, _, u0⟩ := HOW.out.num hx
            obtain ⟨b2, o2, ha2, _, u1⟩ := HOW.out.num hy
            subst ha1
            obtain ⟨rfl, rfl⟩ := And.intro (Addr.mk.inj (Option.some.inj ha2)).1 (Addr.mk.inj (Option.some.inj ha2)).2.1
            clear ha2 hVs hVs' hlb8 HBN HVN HWV HWWV HAN HON HRN HBW hs5 HB5 HR5
            rw [HOX.out] at u0
            rw [HOY.out] at u1
            generalize V.heap.size + 1 = p1 at *
            generalize V.heap.size = p0 at *
            obtain ⟨c0, c1, c2, c3, c4, c5, c6, c7⟩ := HXs.out.all
            obtain ⟨d0, d1, d2, d3, d4, d5, d6, d7⟩ := HXt.out.all
            clear c0 c1 c2 c3 c4 c5 d0 d1 d2 d3 d4 d5
            go_wp2_with fail
            go_quiet (fail)
            rename Nat => nq1
            go_wp2_with fail
            go_quiet (fail)
            have HBQ := Lib.hid (Below_drewN (Below_drewN (Below.refl W3.heap.size W3) nq1) nq)
            generalize ((W3.drewN nq1).drewN nq) = V4 at *
            have HO4 := Lib.hid ((HOW.out.below HBQ.out).more HBQ.out.size)
            have HR4 := Lib.hid ((HRW.out.below HBQ.out).more HBQ.out.size)
            have HW4 := Lib.hid (HW3.out.trans (HBQ.out.mono h43))
            have h44 := HW4.out.size
            clear c6 c7 d6 d7 u0 u1 HXs HXt g1 g2 g3 g4 g5 g6
            have HC0 := Lib.hid (fun w' hw => HHO.out _ (some ⟨b1, o1, none⟩) d O w' HK0.out hw HN.out (by unfold maxLen; omega))
            have HC1 := Lib.hid (fun w' hw => HHO.out _ (some ⟨b1, o1, none⟩) d O w' HK1.out hw HN.out (by unfold maxLen; omega))
            have HCA := Lib.hid (fun w' hr hw => HAL.out a5 c5 [⟨(y : Int), (x : Int), t.start - s.start, (n : Int), (m : Int), false⟩, ⟨(x : Int), (y : Int), s.start + s.dur - t.start - t.dur, (n : Int), (m : Int), true⟩] (some ⟨b1, o1, none⟩) d O w' hr (by intro e he; simp only [List.mem_cons, List.not_mem_nil, or_false] at he; rcases he with rfl | rfl; exact HK0.out; exact HK1.out) (by simp) hw HN.out (by unfold maxLen; omega))
            rw [all_two, HH0.out, HH1.out] at HCA
            rw [HH0.out] at HC0
            rw [HH1.out] at HC1
            simp only [Ed.v, List.length_cons, List.length_nil, Nat.zero_add] at HC0 HC1 HCA
            obtain ⟨b3, o3, e3, _, hE0⟩ := HR4.out.edge (i := 0) (by simp)
            subst e3
            obtain ⟨c0, c1, c2, c3, c4, c5'⟩ := hE0
            simp only [Nat.zero_mul, Nat.add_zero, List.getElem_cons_zero] at c0 c1 c2 c3 c4 c5'
            generalize t.start - s.start = ga at *
            generalize s.start + s.dur - t.start - t.dur = gb at *
            obtain ⟨f0, f1⟩ : (∃ r0, decide (fr ≤ fi) = r0) ∧ (∃ r1, decide (la ≤ tw) = r1) := ⟨⟨_, rfl⟩, ⟨_, rfl⟩⟩
            obtain ⟨r0, f0⟩ := f0
            obtain ⟨r1, f1⟩ := f1
            rw [f0] at HC0 HCA
            rw [f1] at HC1 HCA
            cases r0 <;> cases r1 <;> (
              go_wp2_with (first
                | (go_at_call 14
                   with_reducible (show Calls Try.prog _ _ V4 _)
                   refine (HC0.out V4 HO4.out).mono ?_; rintro e w6 ⟨rfl, hb6⟩
                   have HO6 := Lib.hid ((HO4.out.below hb6).more hb6.size); have HR6 := Lib.hid ((HR4.out.below hb6).more hb6.size); have HW6 := Lib.hid (HW4.out.trans (hb6.mono h44))
                   clear c0 c1 c2 c3 c4 c5' hb6
                   obtain ⟨b4, o4, e4, _, hE1⟩ := HR6.out.edge (i := 1) (by simp)
                   obtain ⟨rfl, rfl⟩ := And.intro (Addr.mk.inj (Option.some.inj e4)).1 (Addr.mk.inj (Option.some.inj e4)).2.1
                   obtain ⟨c0, c1, c2, c3, c4, c5'⟩ := hE1
                   simp only [Nat.one_mul, List.getElem_cons_zero, List.getElem_cons_succ] at c0 c1 c2 c3 c4 c5'
                   clear e4)
                | (go_at_call 14
                   with_reducible (show Calls Try.prog _ _ w6 _)
                   refine (HC1.out w6 HO6.out).mono ?_; rintro e w7 ⟨rfl, hb7⟩
                   have HO7 := Lib.hid ((HO6.out.below hb7).more hb7.size); have HR7 := Lib.hid ((HR6.out.below hb7).more hb7.size); have HW7 := Lib.hid (HW6.out.trans (hb7.mono HW6.out.size))
                   clear hb7)
                | (go_at_call 16
                   refine (HCA.out w7 HR7.out HO7.out).mono ?_; rintro e w8 ⟨rfl, hb8⟩
                   have HW8 := Lib.hid (HW7.out.trans (hb8.mono HW7.out.size))
                   clear hb8))
              go_roundw
              case rel => exact ⟨k + 1, by omega, by go_num, HW8.out⟩
              case measure => simp [intOf]; omega)
          · clear kc0 kc1 kc2 kc3 kc4 kc5 kc6 kc7 ks0 ks1 ks2 ks3 ks4 ks5 ks6 ks7 k0 k1
            have HXt : Hid (Box (((V.alloc (.cells t.c 42)).alloc (.cells s.c 42)).drew) V.heap.size t) := (((Box.new V t 42).below (box1 _ (.cells s.c 42)) (by simp)).below (Below_drew (Below.refl ((V.alloc (.cells t.c 42)).alloc (.cells s.c 42)).heap.size _)) (by simp; omega))
            have HXs : Hid (Box (((V.alloc (.cells t.c 42)).alloc (.cells s.c 42)).drew) (V.heap.size + 1) s) := ((Box.at_ (V.alloc (.cells t.c 42)) s 42 (V.heap.size + 1) (by simp)).below (Below_drew (Below.refl ((V.alloc (.cells t.c 42)).alloc (.cells s.c 42)).heap.size _)) (by simp))
            have HBW : Hid (RowKit.Below V.heap.size V (((V.alloc (.cells t.c 42)).alloc (.cells s.c 42)).drew)) := Below_drew ((box1 V (.cells t.c 42)).alloc (by simp) (.cells s.c 42))
            simp only [Sp.c] at HXt HXs HBW
            generalize ((V.alloc (.cells #[.int .u64 t.trace, .int .u64 t.id, .int .u64 t.parent, .int .u8 t.kind, .string t.host, .string t.name, .int .i64 t.start, .int .i64 t.dur] 42)).alloc (.cells #[.int .u64 s.trace, .int .u64 s.id, .int .u64 s.parent, .int .u8 s.kind, .string s.host, .string s.name, .int .i64 s.start, .int .i64 s.dur] 42)).drew = W3 at *
            have HOW := Lib.hid ((HON.out.below HBW.out).more HBW.out.size)
            have HRW := Lib.hid ((HRN.out.below HBW.out).more HBW.out.size)
            have HW3 := Lib.hid (HWV.out.trans (HBW.out.mono (by omega : w4.heap.size ≤ V.heap.size)))
            have h43 := HW3.out.size
            obtain ⟨b1, o1, ha1, _, u0⟩ := HOW.out.num hx
            obtain ⟨b2, o2, ha2, _, u1⟩ := HOW.out.num hy
            subst ha1
            obtain ⟨rfl, rfl⟩ := And.intro (Addr.mk.inj (Option.some.inj ha2)).1 (Addr.mk.inj (Option.some.inj ha2)).2.1
            clear ha2 hVs hVs' hlb8 HBN HVN HWV HWWV HAN HON HRN HBW hs5 HB5 HR5
            rw [HOX.out] at u0
            rw [HOY.out] at u1
            generalize V.heap.size + 1 = p1 at *
            generalize V.heap.size = p0 at *
            obtain ⟨c0, c1, c2, c3, c4, c5, c6, c7⟩ := HXs.out.all
            obtain ⟨d0, d1, d2, d3, d4, d5, d6, d7⟩ := HXt.out.all
            clear c0 c1 c2 c3 c4 c5 d0 d1 d2 d3 d4 d5
            go_wp2_with fail
            go_quiet (fail)
            rename Nat => nq1
            go_wp2_with fail
            go_quiet (fail)
            have HBQ := Lib.hid (Below_drewN (Below_drewN (Below.refl W3.heap.size W3) nq1) nq)
            generalize ((W3.drewN nq1).drewN nq) = V4 at *
            have HO4 := Lib.hid ((HOW.out.below HBQ.out).more HBQ.out.size)
            have HR4 := Lib.hid ((HRW.out.below HBQ.out).more HBQ.out.size)
            have HW4 := Lib.hid (HW3.out.trans (HBQ.out.mono h43))
            have h44 := HW4.out.size
            clear c6 c7 d6 d7 u0 u1 HXs HXt g1 g2 g3 g4 g5 g6
            have HC0 := Lib.hid (fun w' hw => HHO.out _ (some ⟨b1, o1, none⟩) d O w' HK0.out hw HN.out (by unfold maxLen; omega))
            have HC1 := Lib.hid (fun w' hw => HHO.out _ (some ⟨b1, o1, none⟩) d O w' HK1.out hw HN.out (by unfold maxLen; omega))
            have HCA := Lib.hid (fun w' hr hw => HAL.out a5 c5 [⟨(y : Int), (x : Int), t.start - s.start, (n : Int), (m : Int), false⟩, ⟨(x : Int), (y : Int), s.start + s.dur - t.start - t.dur, (n : Int), (m : Int), true⟩] (some ⟨b1, o1, none⟩) d O w' hr (by intro e he; simp only [List.mem_cons, List.not_mem_nil, or_false] at he; rcases he with rfl | rfl; exact HK0.out; exact HK1.out) (by simp) hw HN.out (by unfold maxLen; omega))
            rw [all_two, HH0.out, HH1.out] at HCA
            rw [HH0.out] at HC0
            rw [HH1.out] at HC1
            simp only [Ed.v, List.length_cons, List.length_nil, Nat.zero_add] at HC0 HC1 HCA
            obtain ⟨b3, o3, e3, _, hE0⟩ := HR4.out.edge (i := 0) (by simp)
            subst e3
            obtain ⟨c0, c1, c2, c3, c4, c5'⟩ := hE0
            simp only [Nat.zero_mul, Nat.add_zero, List.getElem_cons_zero] at c0 c1 c2 c3 c4 c5'
            generalize t.start - s.start = ga at *
            generalize s.start + s.dur - t.start - t.dur = gb at *
            obtain ⟨f0, f1⟩ : (∃ r0, decide (fr ≤ fi) = r0) ∧ (∃ r1, decide (la ≤ tw) = r1) := ⟨⟨_, rfl⟩, ⟨_, rfl⟩⟩
            obtain ⟨r0, f0⟩ := f0
            obtain ⟨r1, f1⟩ := f1
            rw [f0] at HC0 HCA
            rw [f1] at HC1 HCA
            cases r0 <;> cases r1 <;> (
              go_wp2_with (first
                | (go_at_call 14
                   with_reducible (show Calls Try.prog _ _ V4 _)
                   refine (HC0.out V4 HO4.out).mono ?_; rintro e w6 ⟨rfl, hb6⟩
                   have HO6 := Lib.hid ((HO4.out.below hb6).more hb6.size); have HR6 := Lib.hid ((HR4.out.below hb6).more hb6.size); have HW6 := Lib.hid (HW4.out.trans (hb6.mono h44))
                   clear c0 c1 c2 c3 c4 c5' hb6
                   obtain ⟨b4, o4, e4, _, hE1⟩ := HR6.out.edge (i := 1) (by simp)
                   obtain ⟨rfl, rfl⟩ := And.intro (Addr.mk.inj (Option.some.inj e4)).1 (Addr.mk.inj (Option.some.inj e4)).2.1
                   obtain ⟨c0, c1, c2, c3, c4, c5'⟩ := hE1
                   simp only [Nat.one_mul, List.getElem_cons_zero, List.getElem_cons_succ] at c0 c1 c2 c3 c4 c5'
                   clear e4)
                | (go_at_call 14
                   with_reducible (show Calls Try.prog _ _ w6 _)
                   refine (HC1.out w6 HO6.out).mono ?_; rintro e w7 ⟨rfl, hb7⟩
                   have HO7 := Lib.hid ((HO6.out.below hb7).more hb7.size); have HR7 := Lib.hid ((HR6.out.below hb7).more hb7.size); have HW7 := Lib.hid (HW6.out.trans (hb7.mono HW6.out.size))
                   clear hb7)
                | (go_at_call 16
                   refine (HCA.out w7 HR7.out HO7.out).mono ?_; rintro e w8 ⟨rfl, hb8⟩
                   have HW8 := Lib.hid (HW7.out.trans (hb8.mono HW7.out.size))
                   clear hb8))
              go_roundw
              case rel => exact ⟨k + 1, by omega, by go_num, HW8.out⟩
              case measure => simp [intOf]; omega)
        · obtain rfl : k = G.length := by omega
          go_wp2_with (go_at_call 8; refine (fixed14_any HOF.out _).mono ?_; rintro e w5 ⟨rfl, hb5⟩)
          go_ret
          exact ⟨rfl, bel2 HWW.out hb5⟩
end Go.Proofs.Yteaafjkgopmmdaa
