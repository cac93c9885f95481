import Derived.Test.YtgeoggilnkcacaaJg
namespace Go.Proofs.Ytgeoggilnkcacaa
open Go Go.RowKit Go.Sort
set_option linter.unusedVariables false

/-! The laws of stage 16: LoopWitness. -/
def boV (M : List Bool) : List Value := M.map .bool
theorem boV_set (M : List Bool) (i : Nat) (b : Bool) : (boV M).set i (.bool b) = boV (M.set i b) := by simp [boV, List.map_set]
theorem info_bool16 : (Try.prog.info? 4).map (fun i => (i.zero, i.size, i.bytes)) = some (some (.bool false), 1, 1) := by kernel_rfl
/-- What is told of the first t edges of the chain. -/
structure WitI (m : Nat) (K : List Ed) (w wr : World) (g t : Nat) (M : List Bool) : Prop where
  len : M.length = m
  at_ : ∀ j (h : j < M.length), M[j] = true → ∃ s, ∃ hs : s < K.length, s < t ∧ K[s].fr = (j : Int)
  own : wr.ownsRow w.heap.size 4 1 (.slice (some ⟨g, 0, none⟩) m m) m (boV M)
  bw : Below w.heap.size w wr
def sumW (K : List Ed) (t : Nat) : Int := ((K.take t).map Ed.wt).sum
theorem sumW_step {K : List Ed} {t : Nat} (h : t < K.length) : sumW K (t + 1) = sumW K t + K[t].wt := by
  unfold sumW; rw [List.take_succ_eq_append_getElem h, List.map_append, List.sum_append]
  simp only [List.map_cons, List.map_nil, List.sum_cons, List.sum_nil, Int.add_zero]
theorem sumW_low {K : List Ed} {n : Int} (hE : ∀ e ∈ K, edOk n e = true) : ∀ t, t ≤ K.length → -(4503599627370496 * (t : Int)) ≤ sumW K t ∧ sumW K t ≤ 4503599627370496 * (t : Int)
  | 0, _ => by simp [sumW]
  | t + 1, ht => by
    have ih := sumW_low hE t (by omega)
    have := edOk_iff.1 (hE _ (List.getElem_mem (show t < K.length by omega)))
    rw [sumW_step (by omega)]
    omega
set_option maxRecDepth 20000 in
set_option maxHeartbeats 16000000 in
theorem law_witness16 (hlp : LoopPay 8) (n : Int) (a : Option Addr) (c : Nat) (E : List Ed) (w : World) (ha : Rd w w.heap.size a (edsV E)) (hc1 : E.length ≤ maxLen) (hok : ∀ e ∈ E, e.Ok) (hn : I64 n) :
    Calls Try.prog 4 #[.int .i64 n, .slice a E.length c] w fun e w' => e = .returned (.bool true) ∧ Below w.heap.size w w' := by
  have HF := Lib.hid (fun w => fixed16_any hlp w)
  have HLP := Lib.hid hlp; have HA := Lib.hid ha; have HOK := Lib.hid hok; have HN := Lib.hid hn
  clear hlp ha hok hn
  unfold maxLen at hc1
  by_cases hg : 100 < E.length
  · have i1 : (100 : Int) < (E.length : Int) := by omega
    go_enter Try.func4, Try.ntmps4
    go_wp2_with (go_at_call 6; refine (HF.out _).mono ?_; rintro x w1 ⟨rfl, hb1⟩; have HB1 := Lib.hid hb1; clear hb1)
    go_ret
    exact ⟨rfl, HB1.out⟩
  have i1 : ¬ (100 : Int) < (E.length : Int) := by omega
  have hle : E.length ≤ 100000 := by omega
  have HMC := Lib.hid (fun w1 h => refMay_any15 n a c E w1 h hle HOK.out HN.out)
  cases hr : mayE n E with
  | false =>
    have HKN : Hid (∀ K, ChainIs n E K → K = []) := fun K h => by
      rcases h with ⟨h1, _⟩ | ⟨_, e⟩
      · rw [hr] at h1; cases h1
      · exact e
    have hs : solveL n E = none := by unfold solveL; rw [hr]; rfl
    have HS := Lib.hid hs
    rw [hr] at HMC
    clear hr hs
    go_enter Try.func4, Try.ntmps4
    go_wp2_with (first
      | (go_at_call 8
         refine (HLP.out n a c E w HA.out hle HOK.out HN.out).mono ?_
         rintro x w1 ⟨v, K, rfl, hch, hown, hb1⟩
         obtain rfl := HKN.out K hch
         obtain ⟨va, vc, rfl, -, -, -⟩ := own_slice hown
         have HA1 := Lib.hid ((HA.out.below hb1).more hb1.size)
         have HB1 := Lib.hid hb1; clear hb1 hown hch)
      | (go_at_call 10
         refine (solve_none (refSolve_any n a c E w1 HA1.out hle HOK.out HN.out) HS.out).mono ?_
         rintro x w2 ⟨a2, c2, rfl, hb2⟩
         have HA2 := Lib.hid ((HA1.out.below hb2).more hb2.size)
         have HB2 := Lib.hid (bel2 HB1.out hb2); clear hb2)
      | (go_at_call 11; refine (HMC.out w2 HA2.out).mono ?_; rintro x w3 ⟨rfl, hb3⟩; have HB3 := Lib.hid (bel2 HB2.out hb3); clear hb3)
      | (go_at_call 6; refine (HF.out _).mono ?_; rintro x w4 ⟨rfl, hb4⟩; have HB4 := Lib.hid (bel2 HB3.out hb4); clear hb4))
    go_ret
    exact ⟨rfl, HB4.out⟩
  | true =>
  cases hm : metL n.toNat E with
  | true =>
    have HKN : Hid (∀ K, ChainIs n E K → K = []) := fun K h => by
      rcases h with ⟨_, h1, _⟩ | ⟨_, e⟩
      · rw [hm] at h1; cases h1
      · exact e
    have hs : solveL n E = some (rowQ n.toNat E n.toNat) := by unfold solveL; rw [hr, hm]; rfl
    have HS := Lib.hid hs
    clear hr hs hm
    go_enter Try.func4, Try.ntmps4
    go_wp2_with (first
      | (go_at_call 8
         refine (HLP.out n a c E w HA.out hle HOK.out HN.out).mono ?_
         rintro x w1 ⟨v, K, rfl, hch, hown, hb1⟩
         obtain rfl := HKN.out K hch
         obtain ⟨va, vc, rfl, -, -, -⟩ := own_slice hown
         have HA1 := Lib.hid ((HA.out.below hb1).more hb1.size)
         have HB1 := Lib.hid hb1; clear hb1 hown hch)
      | (go_at_call 10
         refine (solve_some (refSolve_any n a c E w1 HA1.out hle HOK.out HN.out) HS.out).mono ?_
         rintro x w2 ⟨a2, c2, rfl, _, hb2⟩
         have HA2 := Lib.hid ((HA1.out.below hb2).more hb2.size)
         have HB2 := Lib.hid (bel2 HB1.out hb2); clear hb2)
      | (go_at_call 6; refine (HF.out _).mono ?_; rintro x w4 ⟨rfl, hb4⟩; have HB4 := Lib.hid (bel2 HB2.out hb4); clear hb4))
    go_ret
    exact ⟨rfl, HB4.out⟩
  | false =>
  obtain ⟨h0, h32, hE⟩ := mayE_iff.1 hr
  obtain ⟨m, rfl⟩ : ∃ m : Nat, n = (m : Int) := ⟨n.toNat, by omega⟩
  rw [Int.toNat_natCast] at hm
  have HKN : Hid (∀ K, ChainIs (m : Int) E K → CycIs m E K ∧ ∀ t (ht : t < K.length) (h0 : 0 < K.length), K[0].fr ≤ K[t].fr) := fun K h => chain_is h hr (by rw [Int.toNat_natCast]; exact hm)
  have hs : solveL (m : Int) E = none := by unfold solveL; rw [hr, Int.toNat_natCast, hm]; rfl
  have HS := Lib.hid hs; have HEO := Lib.hid hE
  rw [hr] at HMC
  clear hr hs hm hE
  obtain ⟨i0, hi0, hz0, hz1, hz2⟩ := info_parts info_bool16
  have HZ2 := Lib.hid hz2; clear hz2
  go_enter Try.func4, Try.ntmps4
  go_wp2_with fail
  refine (HLP.out m a c E w HA.out hle HOK.out HN.out).mono ?_
  rintro x w1 ⟨v, K, rfl, hch, hown, hb1⟩
  obtain ⟨hcy, hlst⟩ := HKN.out K hch
  obtain ⟨va, vc, rfl, -, -, -⟩ := own_slice hown
  have hpos := hcy.pos
  have hkm := hcy.le
  have HCY := Lib.hid hcy; have HLST := Lib.hid hlst
  have HA1 := Lib.hid ((HA.out.below hb1).more hb1.size)
  have HO1 := Lib.hid (Rd.own hown)
  have HB1 := Lib.hid hb1
  clear hb1 hown hch hcy hlst HLP HKN
  have k1 : ¬ (K.length : Int) = 0 := by omega
  have k1' : ((K.length : Int) == 0) = false := by rw [beq_eq_false_iff_ne]; omega
  have k1'' : ¬ K.length = 0 := by omega
  have k2 : decide ((m : Int) < (K.length : Int)) = false := decide_eq_false (by omega)
  have k2' : decide (m < K.length) = false := decide_eq_false (by omega)
  go_wp2_with (first
    | (go_at_call 10
       refine (solve_none (refSolve_any m a c E w1 HA1.out hle HOK.out HN.out) HS.out).mono ?_
       rintro x w2 ⟨a2, c2, rfl, hb2⟩
       have HA2 := Lib.hid ((HA1.out.below hb2).more hb2.size)
       have HO2 := Lib.hid ((HO1.out.below hb2).more hb2.size)
       have HB2 := Lib.hid (bel2 HB1.out hb2); clear hb2)
    | (go_at_call 11; refine (HMC.out w2 HA2.out).mono ?_; rintro x w3 ⟨rfl, hb3⟩
       have HA3 := Lib.hid ((HA2.out.below hb3).more hb3.size)
       have HO3 := Lib.hid ((HO2.out.below hb3).more hb3.size)
       have HB3 := Lib.hid (bel2 HB2.out hb3); clear hb3)
    | (at_make
       refine wpList_make_full _ rfl (.tmp 50) (.tmp 50) 30 rfl w3.heap.size 4 i0 _ 1 Try.underlying30 hi0 hz0 hz1 .i64 .i64 _ _ m rfl rfl rfl rfl (by rw [HZ2.out]; omega) (by unfold maxLen; omega) (Nat.le_refl _) ?_
       intro w5 hown5 hg5
       have HB5 := Lib.hid ((RowKit.Below.refl w3.heap.size w3).grown hg5 (Nat.le_refl _) (by simp))
       have HO5 := Lib.hid hown5; clear hown5 hg5))
  have HMET : Hid (WitI m K w3 w5 w3.heap.size 0 (List.replicate m false)) := by
    refine ⟨by simp, fun j h hj => by simp at hj, ?_, HB5.out⟩
    have e : boV (List.replicate m false) = (madeCells (Value.bool false).cells (m * 1)).toList := by
      simp [boV, toList_madeCells_one, Value.cells]
    rw [e]; exact HO5.out
  clear HO5 HB5
  have hkE : ∀ e ∈ K, edOk (m : Int) e = true := fun e he => HEO.out e (HCY.out.mem e he)
  have HKE := Lib.hid hkE
  clear hkE
  go_loopw [9, 54] (fun vs vi wr => ∃ (t : Nat) (M : List Bool), t ≤ K.length ∧ vi = .int .i64 (t : Int) ∧ vs = .int .i64 (sumW K t) ∧ WitI m K w3 wr w3.heap.size t M) (fun _ vi _ => K.length - (intOf vi).toNat)
  case atStart => exact ⟨0, _, Nat.zero_le _, rfl, by simp [sumW], HMET.out⟩
  clear HMET
  case round =>
    obtain ⟨t, M, ht, rfl, rfl, hI⟩ := hrel
    have HI := Lib.hid hI; clear hI
    generalize wr = W1 at *
    by_cases hlt : t < K.length
    · have HO1' := Lib.hid (HO3.out.below HI.out.bw)
      obtain ⟨b1, o1, ha1, hbl1, hE1⟩ := HO1'.out.edge hlt
      subst ha1
      have hnx : (t + 1) % K.length < K.length := Nat.mod_lt _ hpos
      have HNX := Lib.hid (HCY.out.next t hlt)
      have HL0 := Lib.hid (HLST.out t hlt hpos)
      have HST := Lib.hid (sumW_step hlt)
      have hlo := sumW_low HKE.out t (by omega)
      have hlo2 := sumW_low HKE.out (t + 1) (by omega)
      have hsz : IntKind.i64.wrap (sumW K t + K[t].wt) = sumW K t + K[t].wt := by
        rw [← HST.out]; exact IntWalk.i64_in _ (by omega)
      have hek := edOk_iff.1 (HKE.out _ (List.getElem_mem hlt))
      have HME := Lib.hid (HCY.out.mem _ (List.getElem_mem hlt))
      have HONCE := Lib.hid (fun s (h1 : s < t) => HCY.out.once s t h1 hlt)
      obtain ⟨e, he⟩ : ∃ e, K[t] = e := ⟨_, rfl⟩
      have HEE := Lib.hid he
      rw [he] at hE1 HNX HL0 HST hsz hek HME HONCE
      clear he hlo hlo2
      obtain ⟨f0, f1, f2, f3, f4, f5⟩ := hE1
      have z1 : (t : Int) < (K.length : Int) := by omega
      have z2 : (0 : Int) ≤ (t : Int) := by omega
      go_upto_region 14 with fail
      obtain ⟨W2, hW2⟩ : ∃ W2, W2 = W1.alloc (.cells e.c 34) := ⟨_, rfl⟩
      have HE2 : Hid (EdAt W2 W1.heap.size 0 e) := by show EdAt _ _ _ _; rw [hW2]; exact EdAt.new _ _ _
      have HS2 : Hid (W2.heap.size = W1.heap.size + 1) := by show _ = _; rw [hW2]; simp
      have HB12 : Hid (Below W1.heap.size W1 W2) := by show Below _ _ _; rw [hW2]; exact box1 _ _
      have hch : W2 = W1.alloc (.cells #[.int .i64 e.fr, .int .i64 e.to_, .int .i64 e.wt, .int .i64 e.pc, .int .i64 e.ps, .bool e.en] 34) := hW2
      rw [← hch]
      clear hch hW2 f0 f1 f2 f3 f4 f5
      have HB32 := Lib.hid (bel2 HI.out.bw HB12.out)
      go_wp2_with fail
      go_loopw [12, 61] (fun vb vj wr => ∃ (j : Nat) (tb : Bool), j ≤ E.length ∧ vj = .int .i64 (j : Int) ∧ vb = .bool tb ∧ ((∃ i, ∃ hi : i < E.length, i < j ∧ E[i] = e) → tb = true) ∧ Below W2.heap.size W2 wr) (fun _ vj _ => E.length - (intOf vj).toNat)
      case atStart => exact ⟨0, false, Nat.zero_le _, rfl, rfl, fun ⟨i, _, h, _⟩ => absurd h (Nat.not_lt_zero _), Below.refl _ _⟩
      case round =>
        obtain ⟨j, tb, hj, rfl, rfl, htb, hb⟩ := hrel
        have HW := Lib.hid hb; have HTB := Lib.hid htb; clear hb htb
        generalize wr = W4 at *
        have HE4 := Lib.hid (HE2.out.below HW.out (by rw [HS2.out]; omega))
        by_cases hjl : j < E.length
        · obtain ⟨b2, o2, ha2, _, hE2⟩ := (HA3.out.below (bel2 HB32.out HW.out)).edge hjl
          subst ha2
          have HNX2 : Hid (∀ tb', (tb = true → tb' = true) → (E[j] = e → tb' = true) → (∃ i, ∃ hi : i < E.length, i < j + 1 ∧ E[i] = e) → tb' = true) := fun tb' h1 h2 ⟨i, hi, h3, h4⟩ => by
            by_cases e' : i = j
            · subst e'; exact h2 h4
            · exact h1 (HTB.out ⟨i, hi, by omega, h4⟩)
          generalize E[j] = x at *
          have y1 : (j : Int) < (E.length : Int) := by omega
          have y2 : (0 : Int) ≤ (j : Int) := by omega
          obtain ⟨f0, f1, f2, f3, f4, f5⟩ := hE2
          have hw1 : W1.heap.size < W4.heap.size := by have := HW.out.size; have := HS2.out; omega
          have HEA := Lib.hid (fun o => HE4.out.below (box1 W4 o) hw1)
          have g0 := fun o => (HEA.out o).c0
          have g1 := fun o => (HEA.out o).c1
          have g2 := fun o => (HEA.out o).c2
          have g3 := fun o => (HEA.out o).c3
          have g4 := fun o => (HEA.out o).c4
          have g5 := fun o => (HEA.out o).c5
          clear hw1
          have HBX := Lib.hid (fun o => HW.out.alloc HW.out.size o)
          cases tb with
          | true =>
            go_wp2_with fail
            go_roundw
            case rel => exact ⟨j + 1, true, by omega, by go_num, rfl, fun _ => rfl, HBX.out _⟩
            case measure => simp [intOf]; omega
          | false =>
            by_cases hxe : x = e
            · clear HNX2
              subst hxe
              go_wp2_with fail
              go_roundw
              case rel => exact ⟨j + 1, true, by omega, by go_num, rfl, fun _ => rfl, HBX.out _⟩
              case measure => simp [intOf]; omega
            · have HXE := Lib.hid hxe
              clear hxe
              go_wp2_with fail
              all_goals
                go_roundw
                case rel => first | exact ⟨j + 1, true, by omega, by go_num, rfl, fun _ => rfl, HBX.out _⟩ | exact ⟨j + 1, false, by omega, by go_num, rfl, HNX2.out false (fun h => h) (fun h => absurd h HXE.out), HBX.out _⟩
                case measure => simp [intOf]; omega
        · obtain rfl : j = E.length := by omega
          have htt : tb = true := by
            obtain ⟨i, hi, he⟩ := List.getElem_of_mem HME.out
            exact HTB.out ⟨i, hi, hi, he⟩
          subst htt
          have HB14 := Lib.hid (HB12.out.trans (HW.out.mono HB12.out.size))
          have HO4 := Lib.hid (own_below HI.out.own HB14.out)
          obtain ⟨q, hq⟩ : ∃ q : Nat, e.fr = (q : Int) := ⟨e.fr.toNat, by omega⟩
          have hqm : q < m := by omega
          have hqM : q < M.length := by rw [HI.out.len]; exact hqm
          have hMq : M[q] = false := by
            cases hv : M[q] with
            | false => rfl
            | true =>
              obtain ⟨s, hs1, hs2, hs3⟩ := HI.out.at_ q hqM hv
              exact absurd (hs3.trans hq.symm) (HONCE.out s hs2)
          obtain ⟨b8, o8, ha8, _, n0, _⟩ := (HO3.out.below (bel2 HB32.out HW.out)).edge hnx
          obtain ⟨b9, o9, ha9, _, l0, _⟩ := (HO3.out.below (bel2 HB32.out HW.out)).edge hpos
          obtain ⟨rfl, rfl⟩ := And.intro (Addr.mk.inj (Option.some.inj ha8)).1 (Addr.mk.inj (Option.some.inj ha8)).2.1
          obtain ⟨rfl, rfl⟩ := And.intro (Addr.mk.inj (Option.some.inj ha9)).1 (Addr.mk.inj (Option.some.inj ha9)).2.1
          rw [← HNX.out] at n0
          have hl0 := HL0.out
          generalize (K[0]).fr = lf at *
          obtain ⟨nx, hnxe⟩ : ∃ nx, (t + 1) % K.length = nx := ⟨_, rfl⟩
          rw [hnxe] at n0 hnx
          have hrem : Int.tmod ((t : Int) + 1) (K.length : Int) = (nx : Int) := by
            rw [← hnxe, Int.tmod_eq_emod_of_nonneg (by omega)]; rfl
          have g0 := HE4.out.c0
          have g1 := HE4.out.c1
          have g2 := HE4.out.c2
          rw [hq] at g0 hl0
          simp only [Nat.zero_add] at g0 g1 g2
          simp only [Nat.zero_mul, Nat.add_zero] at l0
          have hMq' := hMq
          have hcl := HO4.out.cellAt q (by omega)
          have hgl : (boV M)[q]? = some (.bool false) := by simp [boV, hMq, hqM]
          rw [hgl] at hcl
          have x1 : (nx : Int) < (K.length : Int) := by omega
          have x2 : (0 : Int) ≤ (nx : Int) := by omega
          have x3 : (q : Int) < (m : Int) := by omega
          have x4 : (0 : Int) ≤ (q : Int) := by omega
          have x5 : decide ((q : Int) < lf) = false := decide_eq_false (by omega)
          have x6 : IntKind.i64.wrap ((t : Int) + 1) = (t : Int) + 1 := IntWalk.i64_in _ (by omega)
          have x7 : (e.to_ != e.to_) = false := by simp
          clear ha8 ha9 hgl hMq hl0
          have hfr := HO4.out.frozenAt q
          go_wp2_with fail
          go_quiet (fail)
          have HBQ := Lib.hid (Below_drewN (HW.out) nq)
          have HOQ := Lib.hid (own_below HO4.out (Below_drewN (Below.refl W4.heap.size W4) nq))
          generalize W4.drewN nq = W5 at *
          have hw31 : w3.heap.size < W1.heap.size := (own_shape HI.out.own rfl).2.1
          have HE5 := Lib.hid (HE2.out.below HBQ.out (by rw [HS2.out]; omega))
          clear g0 g1 g2 hcl hfr n0 l0
          have g0 := HE5.out.c0
          rw [hq] at g0
          have g2 : (W5.setCell ⟨w3.heap.size, q, none⟩ (.bool true)).cell? ⟨W1.heap.size, 2, none⟩ = some (.int .i64 e.wt) := by
            have h2 := HE5.out.c2
            rw [Nat.zero_add] at h2
            have hs5 := HBQ.out.size
            have hs2 := HS2.out
            exact ((HOQ.out.stored q (.bool true)).2.cell_far ⟨W1.heap.size, 2, none⟩ (by show W1.heap.size < _; omega) (by show some W1.heap.size ≠ some w3.heap.size; intro hh; injection hh with hh; omega)).trans h2
          have hcl := HOQ.out.cellAt q (by omega)
          have hgl : (boV M)[q]? = some (.bool false) := by simp [boV, hMq', hqM]
          rw [hgl] at hcl
          have hfr := HOQ.out.frozenAt q
          obtain ⟨hst1, hst2⟩ := HOQ.out.stored q (.bool true)
          rw [boV_set] at hst1
          have HST1 := Lib.hid hst1
          have HB35 := Lib.hid (bel2 HI.out.bw (HB12.out.trans (HBQ.out.mono HB12.out.size)))
          have HBZ : Hid (Below w3.heap.size w3 (W5.setCell ⟨w3.heap.size, q, none⟩ (.bool true))) := HB35.out.setCell (p := ⟨w3.heap.size, q, none⟩) (Nat.le_refl _) _
          have HWI : Hid (WitI m K w3 (W5.setCell ⟨w3.heap.size, q, none⟩ (.bool true)) w3.heap.size (t + 1) (M.set q true)) := by
            refine ⟨by simp [HI.out.len], fun j h hj => ?_, HST1.out, HBZ.out⟩
            by_cases e' : q = j
            · subst e'
              exact ⟨t, hlt, by omega, by rw [HEE.out]; exact hq⟩
            · rw [List.getElem_set_ne e'] at hj
              obtain ⟨s, hs1, hs2, hs3⟩ := HI.out.at_ j (by simpa using h) hj
              exact ⟨s, hs1, by omega, hs3⟩
          clear hst1 hst2 hgl hw31
          go_wp2_with fail
          go_roundw
          case rel => exact ⟨t + 1, _, by omega, by go_num, by rw [HST.out], HWI.out⟩
          case measure => simp [intOf]; omega
    · obtain rfl : t = K.length := by omega
      have hneg : sumW K K.length < 0 := by unfold sumW; rw [List.take_length]; exact HCY.out.neg
      have d1 : decide (sumW K K.length < 0) = true := decide_eq_true hneg
      have HBF := Lib.hid (bel2 HB3.out HI.out.bw)
      go_wp2_with (go_at_call 6; refine (HF.out _).mono ?_; rintro x w8 ⟨rfl, hb8⟩; have HB8 := Lib.hid (bel2 HBF.out hb8); clear hb8)
      go_ret
      exact ⟨rfl, HB8.out⟩
end Go.Proofs.Ytgeoggilnkcacaa

