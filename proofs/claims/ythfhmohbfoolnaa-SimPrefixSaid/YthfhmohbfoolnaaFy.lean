import Derived.Test.YthfhmohbfoolnaaFz
import Derived.Deep.DeepMust
namespace Go.Proofs.Ythfhmohbfoolnaa
open Go Go.RowKit Go.Sort

set_option maxRecDepth 20000 in
set_option maxHeartbeats 8000000 in
theorem simprefix_any (K : FsKit) (pa : Option Addr) (pc : Nat) (Ps : List Pt) (t : Ft) (f : Nat) (w : World) (hr : Rd w w.heap.size pa (flatG Pt.l Ps)) (hlc : Ps.length ≤ pc) (hpc : pc ≤ maxLen) (hp : ∀ p ∈ Ps, PtArg w p) (ht : FtArg w t) (hf : f < 256) :
    Calls Try.prog 5 #[.slice pa Ps.length pc, t.v, .int .u8 (f : Int)] w fun e w' => e = .returned (.bool true) ∧ Below w.heap.size w w' := by
  have HR := Lib.hid hr; have HP := Lib.hid hp; have HT := Lib.hid ht; have HPC := Lib.hid hpc; clear hr hp ht hpc
  obtain ⟨kp, tb, ga, gc, g⟩ := t
  unfold Ft.v
  simp only
  have HB0 := Lib.hid (box1 w (.cells #[.bool kp, .int .i64 tb, .slice ga g.length gc] 52))
  by_cases h20 : 20 < Ps.length
  · have d0 : decide (20 < Ps.length) = true := decide_eq_true h20
    go_enter Try.func5, Try.ntmps5
    go_wp2_with fail
    refine (fixed_any K _).mono ?_
    rintro e w2 ⟨rfl, hb2⟩
    have HB2 := Lib.hid (bel2 HB0.out hb2); clear hb2
    go_wp2_with fail
    go_ret
    exact ⟨rfl, HB2.out⟩
  have d0 : decide (20 < Ps.length) = false := decide_eq_false h20
  by_cases h0 : Ps.length = 0
  · have q0 : ((Ps.length : Int) == 0) = true := by simp [h0]
    go_enter Try.func5, Try.ntmps5
    go_wp2_with fail
    refine (fixed_any K _).mono ?_
    rintro e w2 ⟨rfl, hb2⟩
    have HB2 := Lib.hid (bel2 HB0.out hb2); clear hb2
    go_wp2_with fail
    go_ret
    exact ⟨rfl, HB2.out⟩
  have q0 : ((Ps.length : Int) == 0) = false := beq_eq_false_iff_ne.2 (by omega)
  obtain ⟨bp, op, hpa, hbp, e0⟩ := part_elem HR.out (i := 0) (by omega)
  subst hpa
  rw [Nat.add_zero] at e0
  have i0 : (0 : Int) < (Ps.length : Int) := by omega
  by_cases h200 : 200 < Ps[0].b.length
  · have d2 : decide (200 < Ps[0].b.length) = true := decide_eq_true h200
    generalize Ps[0] = P0 at *
    go_enter Try.func5, Try.ntmps5
    go_wp2_with fail
    refine (fixed_any K _).mono ?_
    rintro e w2 ⟨rfl, hb2⟩
    have HB2 := Lib.hid (bel2 HB0.out hb2); clear hb2
    go_wp2_with fail
    go_ret
    exact ⟨rfl, HB2.out⟩
  have d2 : decide (200 < Ps[0].b.length) = false := decide_eq_false h200
  have HP0 := Lib.hid (HP.out Ps[0] (List.getElem_mem _))
  have h200' : Ps[0].b.length ≤ 200 := by omega
  generalize hP0 : Ps[0] = P0 at *
  go_enter Try.func5, Try.ntmps5
  go_wp2_with fail
  obtain ⟨W, hW⟩ : ∃ W, W = w.alloc (.cells #[.bool kp, .int .i64 tb, .slice ga g.length gc] 52) := ⟨_, rfl⟩
  have HBW : Hid (Below w.heap.size w W) := by show Below _ _ _; rw [hW]; exact box1 _ _
  have HSW : Hid (W.heap.size = w.heap.size + 1) := by show _ = _; rw [hW]; simp
  have eW : W.cell? ⟨bp, op, none⟩ = some (.slice P0.a P0.b.length P0.c) := by rw [HBW.out.cell (p := ⟨bp, op, none⟩) hbp]; exact e0
  have HTB : Hid (W.cell? ⟨w.heap.size, 0, none⟩ = some (.bool kp) ∧ W.cell? ⟨w.heap.size, 1, none⟩ = some (.int .i64 tb) ∧ W.cell? ⟨w.heap.size, 2, none⟩ = some (.slice ga g.length gc)) := by
    show _ ∧ _; rw [hW]; refine ⟨?_, ?_, ?_⟩ <;> simp
  have nbp : bp < W.heap.size := by have := HSW.out; omega
  rw [← hW]
  clear hW
  go_region_held3 (fun w' => w'.cell? ⟨bp, op, none⟩ = some (.slice P0.a P0.b.length P0.c)) (first
    | (go_keep; done)
    | (rw [hb2.cell (p := ⟨bp, op, none⟩) (by show bp < _; simpa using nbp)]; first | assumption | (go_keep; done)))
    ((go_at_call 10; refine (K.new _).mono ?_; rintro e w2 ⟨p, S, R, rfl, hf2, hs2, _, hb2⟩))
  have HF2 := Lib.hid hf2
  have HB2 : Hid (Below w.heap.size w w2) := by
    have h : Below W.heap.size W w2 := (Below_drew (Below.refl W.heap.size W)).trans hb2
    exact HBW.out.trans (h.mono HBW.out.size)
  have HS2 : Hid (∀ k, S k → w.heap.size + 1 ≤ k) := fun k hk => by have h := hs2 k hk; have h2 : W.drew.heap.size = w.heap.size + 1 := HSW.out; omega
  have hbw2 : Below W.heap.size W w2 := (Below_drew (Below.refl W.heap.size W)).trans hb2
  have HTB2 : Hid (w2.cell? ⟨w.heap.size, 0, none⟩ = some (.bool kp) ∧ w2.cell? ⟨w.heap.size, 1, none⟩ = some (.int .i64 tb) ∧ w2.cell? ⟨w.heap.size, 2, none⟩ = some (.slice ga g.length gc)) := by
    obtain ⟨a0, a1, a2⟩ := HTB.out
    have hlt : w.heap.size < W.heap.size := by have := HSW.out; omega
    exact ⟨by rw [hbw2.cell (p := ⟨w.heap.size, 0, none⟩) hlt]; exact a0, by rw [hbw2.cell (p := ⟨w.heap.size, 1, none⟩) hlt]; exact a1, by rw [hbw2.cell (p := ⟨w.heap.size, 2, none⟩) hlt]; exact a2⟩
  have HQ2 : Hid (Q6 K w w2 p S R newF kp tb ga g.length gc) := by
    obtain ⟨a0, a1, a2⟩ := HTB2.out
    exact { fs := HF2.out, bw := HB2.out, lo := HS2.out, sz := by have := hbw2.size; have := HSW.out; omega, t0 := a0, t1 := a1, t2 := a2 }
  clear hf2 hs2 hb2 hbw2
  obtain ⟨b, hb⟩ : ∃ b, b = bs P0.b := ⟨_, rfl⟩
  have HBS := Lib.hid hb
  have hbl : b.size ≤ 200 := by rw [hb, bs_size]; exact h200'
  clear hb
  obtain ⟨t1, t2, t3⟩ := three b
  have l1 := lim_create lim_new 3
  rw [t1] at l1
  have l2 := lim_append l1 3 b (by omega)
  rw [t2] at l2
  have l3 := lim_sync l2 3
  rw [t3] at l3
  have hc1 := K.create w2 S R p newF 3 HQ2.out.fs (lim_new.bnd (by omega)) (by omega)
  rw [t1] at hc1
  have HC1 := Lib.hid hc1; have T2 := Lib.hid t2; have T3 := Lib.hid t3; have L1 := Lib.hid l1; have L2 := Lib.hid l2; have L3 := Lib.hid l3
  clear hc1 t1 t2 t3 l1 l2 l3
  go_wp2_with fail
  refine HC1.out.mono ?_
  rintro e w3 ⟨S3, R3, rfl, hf3, hd3⟩
  have HQ3 := Lib.hid (HQ2.out.did hf3 hd3)
  clear hf3 hd3
  have hc2 := K.append w3 S3 R3 p _ 3 P0.a P0.c P0.b HQ3.out.fs (L1.out.bnd (by omega)) (by omega) (HQ3.out.rdn HP0.out.1) (by omega) HP0.out.2.1 HP0.out.2.2
  rw [← HBS.out] at hc2
  rw [T2.out] at hc2
  have HC2 := Lib.hid hc2
  clear hc2
  go_wp2_with fail
  refine HC2.out.mono ?_
  rintro e w4 ⟨S4, R4, rfl, hf4, hd4⟩
  have HQ4 := Lib.hid (HQ3.out.did hf4 hd4)
  clear hf4 hd4
  have hc3 := K.sync w4 S4 R4 p _ 3 HQ4.out.fs (L2.out.bnd (by omega)) (by omega)
  rw [T3.out] at hc3
  have HC3 := Lib.hid hc3
  clear hc3
  go_wp2_with fail
  refine HC3.out.mono ?_
  rintro e w5 ⟨S5, R5, rfl, hf5, hd5⟩
  have HQ5 := Lib.hid (HQ4.out.did hf5 hd5)
  clear hf5 hd5
  go_wp2_with fail
  refine (K.fuse w5 S5 R5 p _ (f : Int) HQ5.out.fs (by omega) (by omega)).mono ?_
  rintro e w6 ⟨S6, R6, rfl, hf6, hd6⟩
  have HQ6 : Hid (Q6 K w w6 p S6 R6 (oneF b b (f : Int) false) kp tb ga g.length gc) := by
    have h := HQ5.out.did hf6 hd6
    have e : max (f : Int) (-1) = (f : Int) := by omega
    simp only [e] at h
    exact h
  clear hf6 hd6
  obtain ⟨i0', hi0, hz0, hz1, hz2⟩ := info_parts info_u8'
  have HZ2 := Lib.hid hz2; clear hz2
  have hown6 := World.ownsRow_made (base := w6.heap.size) (e := 5) (size := 1) w6 #[] 0 (Nat.le_refl _) (by decide) rfl
  have HO6 := Lib.hid hown6; clear hown6
  have HR6 : Hid (Rd (w6.alloc (.cells #[] 5)) (w6.alloc (.cells #[] 5)).heap.size P0.a (bV P0.b)) := ((HP0.out.1.below (HQ6.out.bw.alloc HQ6.out.bw.size _))).more (by have := HQ6.out.bw.size; simp; omega)
  have hra : ∃ ad, (if pc = 1 then some (⟨bp, op, none⟩ : Addr) else some ⟨bp, op + 1, none⟩) = some ad ∧ Rd w w.heap.size (some ad) (flatG Pt.l (Ps.drop 1)) := by
    have e : flatG Pt.l (Ps.drop 1) = (flatG Pt.l Ps).drop 1 := by
      cases Ps with
      | nil => rfl
      | cons x L => simp [flatG, Pt.l]
    by_cases h : pc = 1
    · refine ⟨⟨bp, op, none⟩, if_pos h, ?_⟩
      rw [List.drop_of_length_le (by omega)]; exact Rd.nil _ _ _
    · refine ⟨⟨bp, op + 1, none⟩, if_neg h, ?_⟩
      rw [e]; exact HR.out.drop 1
  obtain ⟨ad, hra, hrt⟩ := hra
  have HRT := Lib.hid hrt
  clear hrt
  go_wp2_with (at_builtin
               refine wpList_append_rd _ rfl (.tmp 58) (.tmp 59) 36 (by rfl) w6.heap.size 5 i0' _ 1 1 Try.underlying36 hi0 hz0 hz1 HZ2.out rfl (by omega) (.slice (some ⟨w6.heap.size, 0, none⟩) 0 0) 0 [] (by rfl) HO6.out _ P0.a P0.b.length P0.c (bV P0.b) (by rfl) (by rw [bV_length]; omega) HR6.out (bV_one _) (by unfold maxLen; omega) (by omega) (by simp) ?_
               intro va w7 hown7 hg7 _
               have HO7 := Lib.hid hown7
               have HB7 : Hid (Below w6.heap.size w6 w7) := Below.of_grown (box1 w6 _) hg7 (by simp) (fun g h => (own_shape HO6.out h).1)
               have HQ7 := Lib.hid (HQ6.out.did (K.below HQ6.out.fs HB7.out) (Did.below HB7.out))
               clear hown7 hg7)
  obtain ⟨T, hT⟩ : ∃ T, T = Ps.drop 1 := ⟨_, rfl⟩
  have HTL : Hid (T.length = Ps.length - 1) := by show _ = _; rw [hT, List.length_drop]
  have HTP : Hid (∀ k, (h : k < T.length) → PtArg w T[k]) := fun k h => HP.out _ (by
    have : T[k] ∈ Ps.drop 1 := by rw [← hT]; exact List.getElem_mem _
    exact List.mem_of_mem_drop this)
  rw [← hT] at HRT
  have HQ70 : Hid (Q6 K w w7 p S6 R6 (stK P0.b T f 0) kp tb ga g.length gc) := by show Q6 _ _ _ _ _ _ _ _ _ _ _ _; rw [stK_zero, ← HBS.out]; exact HQ7.out
  have HA70 : Hid (AllAt w w7 S6 R6 va (allK P0.b T (min 0 (f + 1)))) := by
    show AllAt _ _ _ _ _ _
    rw [Nat.zero_min, allK_zero]
    have ho := Joins.ownsRow_le HO7.out HQ6.out.sz
    rw [Nat.zero_add, List.nil_append] at ho
    refine ⟨ho, fun g' hg' => ?_⟩
    have hge := (own_shape HO7.out hg').1
    have hlow := K.low HQ6.out.fs
    exact ⟨fun hs => by have := hlow.1 g' hs; omega, fun hr => by have := hlow.2 g' hr; omega⟩
  have HL70 : Hid (Lim 3 (stK P0.b T f 0)) := by show Lim _ _; rw [stK_zero, ← HBS.out]; exact L3.out
  obtain ⟨n, hn⟩ : ∃ n, n = Ps.length - 1 := ⟨_, rfl⟩
  have HN : Hid (n = T.length) := by show _ = _; rw [HTL.out]; exact hn
  have hn20 : n ≤ 20 := by omega
  rw [← hn]
  have HPL : Hid (Ps.length ≤ 20) := by show _ ≤ _; omega
  clear hT hn HQ7 HO7 HB7 HR6 HO6 HQ6 HQ5 HC3 HQ4 HC2 HQ3 HC1 HQ2 HTB2 HS2 HB2 HF2 T2 T3 L1 L2 L3 HTB eW hra q0 d0 d2 i0 e0 h20 h0 h200 hP0 hlc
  go_loopw [9, 64] (fun vv i wr => ∃ (k : Nat) (S R : Nat → Prop), k ≤ n ∧ i = .int .i64 k ∧ Q6 K w wr p S R (stK P0.b T f k) kp tb ga g.length gc ∧ Lim (k + 3) (stK P0.b T f k) ∧ AllAt w wr S R vv (allK P0.b T (min k (f + 1))) ∧
    (∀ j, (h : j < T.length) → j < k → T[j].b.length ≤ 200)) (fun _ i _ => n - (intOf i).toNat)
  case atStart => exact ⟨0, S6, R6, Nat.zero_le _, rfl, HQ70.out, HL70.out, HA70.out, fun j _ h => absurd h (by omega)⟩
  case round =>
    clear HQ70 HL70 HA70
    obtain ⟨k, S8, R8, hk, rfl, hq, hl, ha, h200k⟩ := hrel
    have HQ8 := Lib.hid hq; have HL8 := Lib.hid hl; have HA8 := Lib.hid ha; have HX8 := Lib.hid h200k
    clear hq hl ha h200k
    by_cases hlt : k < n
    · have hkT : k < T.length := by rw [← HN.out]; exact hlt
      obtain ⟨b1, o1, hb1, hlb1, e1⟩ := part_elem (HRT.out.below HQ8.out.bw) hkT
      injection hb1 with hb1
      subst hb1
      have hs1 := stK_step P0.b T f hkT
      have hal := allK_succ P0.b T hkT
      have harg := HTP.out k hkT
      obtain ⟨P, hP⟩ : ∃ P, T[k] = P := ⟨_, rfl⟩
      rw [hP] at e1 hs1 hal harg
      have HARG := Lib.hid harg; have HAL := Lib.hid hal
      obtain ⟨nb, hnb⟩ : ∃ nb, nb = P.b.length := ⟨_, rfl⟩
      have HNB := Lib.hid hnb
      rw [← hnb] at e1
      have HLT := Lib.hid hlt
      have hXN : nb ≤ 200 → ∀ j, (h : j < T.length) → j < k + 1 → T[j].b.length ≤ 200 := fun hle j h hj => by
        rcases Nat.lt_or_ge j k with h' | h'
        · exact HX8.out j h h'
        · obtain rfl : j = k := by omega
          rw [hP, ← hnb]; exact hle
      have HXN := Lib.hid hXN
      clear hP hnb harg hal hXN HX8
      by_cases hbig : 200 < nb
      · clear hs1
        go_wp2_with fail
        refine (fixed_any K _).mono ?_
        rintro e w9 ⟨rfl, hb9⟩
        have HB9 : Hid (Below w.heap.size w w9) := HQ8.out.bw.trans (hb9.mono HQ8.out.bw.size)
        clear hb9
        go_wp2_with fail
        go_ret
        exact ⟨rfl, HB9.out⟩
      · have hle : nb ≤ 200 := by omega
        have hc := K.append wr S8 R8 p _ 3 P.a P.c P.b HQ8.out.fs (HL8.out.bnd (by omega)) (by omega) (HQ8.out.rdn HARG.out.1) (by rw [← HNB.out]; omega) HARG.out.2.1 HARG.out.2.2
        rw [hs1, ← HNB.out] at hc
        have HC := Lib.hid hc
        have hl9 := lim_append HL8.out 3 (bs P.b) (by rw [bs_size, ← HNB.out]; omega)
        rw [hs1] at hl9
        have HL9 := Lib.hid hl9
        clear hc hl9 hs1
        go_wp2_with fail
        refine HC.out.mono ?_
        rintro e w9 ⟨S9, R9, rfl, hf9, hd9⟩
        have HQ9 := Lib.hid (HQ8.out.did hf9 hd9)
        have HA9 := Lib.hid (HA8.out.did hd9)
        clear hf9 hd9 HC HQ8 HA8 HL8
        have hwf : IntKind.i64.wrap (f : Int) = (f : Int) := IntWalk.i64_in _ ⟨by omega, by omega⟩
        by_cases hkf : k < f
        · rw [if_pos hkf]
          have z1 : (k : Int) < (f : Int) := by omega
          have z2 : (k : Int) ≤ (f : Int) := by omega
          have HAM : Hid (allK P0.b T (min (k + 1) (f + 1)) = allK P0.b T (min k (f + 1)) ++ P.b) := by
            show _ = _
            rw [show min (k + 1) (f + 1) = k + 1 by omega, show min k (f + 1) = k by omega]; exact HAL.out
          obtain ⟨A, hA⟩ : ∃ A, A = allK P0.b T (min k (f + 1)) := ⟨_, rfl⟩
          rw [← hA] at HA9 HAM
          have hAl : A.length ≤ 10000 := by
            rw [hA, show min k (f + 1) = k by omega]
            have := (allK_length (T := T) h200' (k := k) (by rw [← HN.out]; omega) (fun j h hj => HXN.out hle j h (by omega))).1
            omega
          obtain ⟨aa, ac, rfl, _, _, _⟩ := own_slice HA9.out.own
          have HPR : Hid (Rd w9 w9.heap.size P.a (bV P.b)) := (HARG.out.1.below HQ9.out.bw).more HQ9.out.bw.size
          have hsz9 : w.heap.size + 1 ≤ w9.heap.size := HQ9.out.sz
          clear hA
          go_wp2_with (at_builtin
                       go_must (refine wpList_append_rd _ rfl _ _ 36 rfl (w.heap.size + 1) 5 i0' _ 1 1 Try.underlying36 hi0 hz0 hz1 HZ2.out rfl (by omega) (.slice aa A.length ac) A.length (bV A) rfl HA9.out.own _ P.a nb P.c (bV P.b) rfl (by rw [bV_length, ← HNB.out, Nat.mul_one]) HPR.out (bV_one _) (by unfold maxLen; omega) (by omega) hsz9 ?_)
                       intro vb w10 hown10 hg10 hk10
                       rw [← bV_append, show A.length + nb = (A ++ P.b).length by rw [List.length_append, ← HNB.out]] at hown10
                       have hg := HQ9.out.grown HA9.out hown10 hg10 (fun g' hg' => by
                         rcases hk10 with h | h
                         · rw [h] at hg'; exact .inl hg'
                         · rw [h] at hg'; injection hg' with hg'; exact .inr (by omega))
                       have HQ10 := Lib.hid hg.1; have HA10 := Lib.hid hg.2
                       clear hown10 hg10 hk10 hg)
          rw [← HAM.out] at HA10
          go_roundw
          case rel => exact ⟨k + 1, S9, R9, HLT.out, by go_num, HQ10.out, HL9.out, HA10.out, HXN.out hle⟩
          case measure => have := HLT.out; simp [intOf]; omega
        by_cases hkf2 : k = f
        · rw [if_neg hkf]
          have z1 : ¬ (k : Int) < (f : Int) := by omega
          have z2 : (k : Int) ≤ (f : Int) := by omega
          have z3 : (f : Int) ≤ (k : Int) := by omega
          have HAM : Hid (allK P0.b T (min (k + 1) (f + 1)) = allK P0.b T (min k (f + 1)) ++ P.b) := by
            show _ = _
            rw [show min (k + 1) (f + 1) = k + 1 by omega, show min k (f + 1) = k by omega]; exact HAL.out
          obtain ⟨A, hA⟩ : ∃ A, A = allK P0.b T (min k (f + 1)) := ⟨_, rfl⟩
          rw [← hA] at HA9 HAM
          have hAl : A.length ≤ 10000 := by
            rw [hA, show min k (f + 1) = k by omega]
            have := (allK_length (T := T) h200' (k := k) (by rw [← HN.out]; omega) (fun j h hj => HXN.out hle j h (by omega))).1
            omega
          obtain ⟨aa, ac, rfl, _, _, _⟩ := own_slice HA9.out.own
          have HPR : Hid (Rd w9 w9.heap.size P.a (bV P.b)) := (HARG.out.1.below HQ9.out.bw).more HQ9.out.bw.size
          have hsz9 : w.heap.size + 1 ≤ w9.heap.size := HQ9.out.sz
          clear hA
          go_wp2_with (at_builtin
                       go_must (refine wpList_append_rd _ rfl _ _ 36 rfl (w.heap.size + 1) 5 i0' _ 1 1 Try.underlying36 hi0 hz0 hz1 HZ2.out rfl (by omega) (.slice aa A.length ac) A.length (bV A) rfl HA9.out.own _ P.a nb P.c (bV P.b) rfl (by rw [bV_length, ← HNB.out, Nat.mul_one]) HPR.out (bV_one _) (by unfold maxLen; omega) (by omega) hsz9 ?_)
                       intro vb w10 hown10 hg10 hk10
                       rw [← bV_append, show A.length + nb = (A ++ P.b).length by rw [List.length_append, ← HNB.out]] at hown10
                       have hg := HQ9.out.grown HA9.out hown10 hg10 (fun g' hg' => by
                         rcases hk10 with h | h
                         · rw [h] at hg'; exact .inl hg'
                         · rw [h] at hg'; injection hg' with hg'; exact .inr (by omega))
                       have HQ10 := Lib.hid hg.1; have HA10 := Lib.hid hg.2
                       clear hown10 hg10 hk10 hg)
          rw [← HAM.out] at HA10
          go_roundw
          case rel => exact ⟨k + 1, S9, R9, HLT.out, by go_num, HQ10.out, HL9.out, HA10.out, HXN.out hle⟩
          case measure => have := HLT.out; simp [intOf]; omega
        · rw [if_neg hkf]
          have z1 : ¬ (k : Int) < (f : Int) := by omega
          have z2 : ¬ (k : Int) ≤ (f : Int) := by omega
          have z3 : (f : Int) ≤ (k : Int) := by omega
          have HAM : Hid (allK P0.b T (min (k + 1) (f + 1)) = allK P0.b T (min k (f + 1))) := by
            show _ = _
            rw [show min (k + 1) (f + 1) = f + 1 by omega, show min k (f + 1) = f + 1 by omega]
          go_wp2_with fail
          go_roundw
          case rel => exact ⟨k + 1, S9, R9, HLT.out, by go_num, HQ9.out, HL9.out, by rw [HAM.out]; exact HA9.out, HXN.out hle⟩
          case measure => have := HLT.out; simp [intOf]; omega
    · have hkn : k = n := by omega
      subst hkn
      clear hk hlt
      obtain ⟨aa, ac, rfl, _, _, _⟩ := own_slice HA8.out.own
      obtain ⟨nA, hnA⟩ : ∃ nA, nA = (allK P0.b T (min k (f + 1))).length := ⟨_, rfl⟩
      have HNA := Lib.hid hnA
      rw [← hnA]
      rw [← hnA] at HA8
      clear hnA
      have t0 := HQ8.out.t0
      have t1 := HQ8.out.t1
      have t2 := HQ8.out.t2
      have HTT : Hid (FtArg w ⟨kp, tb, ga, gc, g⟩) := HT.out
      obtain ⟨W, hW⟩ : ∃ W, W = wr.alloc (.cells #[.bool kp, .int .i64 tb, .slice ga g.length gc] 52) := ⟨_, rfl⟩
      have HBW : Hid (Below wr.heap.size wr W) := by show Below _ _ _; rw [hW]; exact box1 _ _
      have HQW := Lib.hid (HQ8.out.did (K.below HQ8.out.fs HBW.out) (Did.below HBW.out))
      have HAW := Lib.hid (HA8.out.did (Did.below (S := S8) (R := R8) HBW.out))
      have hlit : RdN S8 W (some ⟨wr.heap.size, 0, none⟩) (flatG Ft.l [⟨kp, tb, ga, gc, g⟩]) := fun _ => ⟨wr.heap.size, 0, rfl, by rw [hW]; simp, fun hs => by have := (K.low HQ8.out.fs).1 _ hs; omega, fun j u hu => by
        rw [hW, Nat.zero_add, World.cell?_alloc_at _ _ _ _ rfl]
        have e : flatG Ft.l [⟨kp, tb, ga, gc, g⟩] = (#[.bool kp, .int .i64 tb, .slice ga g.length gc] : Array Value).toList := rfl
        rw [e] at hu
        simpa using hu⟩
      have HLIT := Lib.hid hlit
      have HCR := Lib.hid (K.crash W S8 R8 p _ (some ⟨wr.heap.size, 0, none⟩) 1 [⟨kp, tb, ga, gc, g⟩] HQW.out.fs (HL8.out.bnd (by omega)) HLIT.out (by simp) (by simp) (by decide) (fun x hx => by
        rw [List.mem_singleton.1 hx]
        exact ⟨HQW.out.rdn HTT.out.1, HTT.out.2.1, HTT.out.2.2.1, HTT.out.2.2.2.1, HTT.out.2.2.2.2⟩))
      have HLC := Lib.hid (lim_crash HL8.out (K.ok HQ8.out.fs) [⟨kp, tb, ga, gc, g⟩])
      have HTB : Hid (-9223372036854775808 ≤ tb ∧ tb ≤ 9223372036854775807) := HTT.out.2.2.2
      clear hlit
      unfold Ft.l at HCR
      go_wp2_with fail
      rw [← hW]
      clear hW
      refine HCR.out.mono ?_
      rintro e w10 ⟨S10, R10, rfl, hf10, hd10⟩
      have HQ10 := Lib.hid (HQW.out.did hf10 hd10)
      have HA10 := Lib.hid (HAW.out.did hd10)
      clear hf10 hd10 HCR HLIT HQW HAW
      obtain ⟨L, hrd, hLl, hLa⟩ := stK_read P0.b T f k ⟨kp, tb, ga, gc, g⟩
      have hcr := K.read w10 S10 R10 p _ 3 HQ10.out.fs (HLC.out.bnd (by omega)) (by omega)
      rw [hrd] at hcr
      simp only [bs_toList, bs_size] at hcr
      have HRD := Lib.hid hcr
      have HLA := Lib.hid hLa
      have HX9 := HX8.out
      obtain ⟨A, hA⟩ : ∃ A, A = allK P0.b T (min k (f + 1)) := ⟨_, rfl⟩
      have hAle : A.length ≤ 10000 ∧ P0.b.length ≤ A.length := by
        have hk1 : min k (f + 1) ≤ T.length := by rw [← HN.out]; omega
        have h := allK_length (T := T) h200' hk1 (fun j h hj => HX9 j h (by omega))
        rw [← hA] at h
        have : min k (f + 1) ≤ 20 := by omega
        omega
      rw [← hA] at hLl HLA HA10 HNA
      simp only at hLl
      obtain ⟨nP, hnP⟩ : ∃ nP, nP = P0.b.length := ⟨_, rfl⟩
      have HNP := Lib.hid hnP
      rw [← hnP] at hLl hAle ⊢
      rw [← HNA.out] at hLl hAle
      rw [← hnP] at HLA
      have hLc : (nP : Int) ≤ (L.length : Int) ∧ (L.length : Int) ≤ (nA : Int) := by omega
      have hnl : (0 : Int) ≤ (nA : Int) - (nP : Int) := by omega
      have c1 : ¬ ((L.length : Int) < (nP : Int)) := by omega
      have c2 : ¬ ((nA : Int) < (L.length : Int)) := by omega
      have hcase : (tb < 0 ∧ L.length = nP) ∨ (0 ≤ tb ∧ tb ≤ (nA : Int) - (nP : Int) ∧ (L.length : Int) = (nP : Int) + tb) ∨ (0 ≤ tb ∧ ¬ tb ≤ (nA : Int) - (nP : Int) ∧ L.length = nA) := by omega
      have HCASE := Lib.hid hcase
      clear hcase
      clear hcr hrd hLa hLl HX9 hA hnP hLc
      go_wp2_with fail
      refine HRD.out.mono ?_
      rintro e w11 ⟨S11, R11, ra, rc, rfl, hrc, hrcm, hnew, hf11, hd11⟩
      have HQ11 := Lib.hid (HQ10.out.did hf11 hd11)
      have HA11 := Lib.hid (HA10.out.did hd11)
      have HNEW := Lib.hid hnew
      clear hf11 hd11 hnew HRD HQ10 HA10
      have t1' := HQ11.out.t1
      obtain ⟨nL, hnL⟩ : ∃ nL, nL = L.length := ⟨_, rfl⟩
      rw [← hnL] at c1 c2 HCASE ⊢
      have HNL := Lib.hid hnL
      have HLA2 : Hid (nL ≤ nA) := by show _ ≤ _; omega
      have HRA : Hid (Rd w11 w11.heap.size aa (bV A)) := by
        have h := HA11.out.own
        rw [← HNA.out] at h
        exact Rd.own h
      have HNA2 : Hid (nL = L.length ∧ nA = A.length) := ⟨HNL.out, HNA.out⟩
      rcases HCASE.out with ⟨hx1, hx2⟩ | ⟨hx1, hx3, hx2⟩ | ⟨hx1, hx3, hx2⟩
      · have z1 : ((nL : Int) != (nP : Int)) = false := by simp; omega
        clear hx2 hnL
        go_wp2_with fail
        go_loopw [146] (fun i wq => ∃ q : Nat, q ≤ nL ∧ i = .int .i64 q ∧ Below w11.heap.size w11 wq) (fun i _ => nL - (intOf i).toNat)
        case atStart => exact ⟨0, Nat.zero_le _, rfl, Below.refl _ _⟩
        case round =>
          obtain ⟨q, hq, rfl, hbq⟩ := hrel
          have HBQ := Lib.hid hbq
          by_cases hql : q < nL
          · have hqL : q < L.length := by rw [← HNL.out]; exact hql
            have hqA : q < A.length := by have h1 := HNA2.out.2; have h2 := HLA2.out; omega
            obtain ⟨rg, ro, rfl, _, hrg, _, _, hrr, _⟩ := HNEW.out (by omega)
            have hrdA : Rd w11 w11.heap.size aa (bV A) := HRA.out
            obtain ⟨ag, ao, rfl, hag, har⟩ := hrdA (by rw [bV_length]; omega)
            have HBD := Lib.hid (Below_drew hbq)
            have HQL := Lib.hid hql
            have q1 : wr.cell? ⟨rg, ro + q, none⟩ = some (.int .u8 ((L[q]'hqL).toNat : Int)) := by
              rw [hbq.cell (p := ⟨rg, ro + q, none⟩) hrg]; exact hrr q _ (bV_get L q hqL)
            by_cases hcd : q < nP ∨ q + 16 < nL
            · have he : (L[q]'hqL) = (A[q]'hqA) := by
                have h := HLA.out q hqL (by rw [← HNL.out]; exact hcd)
                rw [List.getElem?_eq_getElem hqL, List.getElem?_eq_getElem hqA] at h
                injection h
              have q2 : wr.cell? ⟨ag, ao + q, none⟩ = some (.int .u8 ((L[q]'hqL).toNat : Int)) := by
                rw [hbq.cell (p := ⟨ag, ao + q, none⟩) hag, he]; exact har q _ (bV_get A q hqA)
              have hcd' : ((q : Int) < (nP : Int)) ∨ ¬ ((q : Int) < (nP : Int)) ∧ ((q : Int) < (nL : Int) - 16) := by omega
              generalize L[q]'hqL = y at q1 q2
              clear he hrr har hcd hbq hqL hqA
              have hmx : (nL : Int) ≤ 9223372036854775807 := by omega
              rcases hcd' with g1 | ⟨g1, g2⟩
              · have e1 : decide ((q : Int) < (nP : Int)) = true := decide_eq_true g1
                go_wp2_with fail
                go_region
                clear q1 q2 e1
                go_wp2_with fail
                go_roundw
                case rel => exact ⟨q + 1, HQL.out, by go_num, HBD.out⟩
                case measure => have := HQL.out; simp [intOf]; omega
              · have E1 := Lib.hid (decide_eq_false g1)
                have E2 := Lib.hid (decide_eq_true g2)
                clear g1 g2
                go_wp2_with fail
                have e1 : decide ((q : Int) < (nP : Int)) = false := E1.out
                have e3 : decide (q < nP) = false := by have := of_decide_eq_false E1.out; exact decide_eq_false (by omega)
                have e2 : decide ((q : Int) < (nL : Int) - 16) = true := E2.out
                go_region
                clear q1 q2 e1 e2 e3
                go_wp2_with fail
                go_roundw
                case rel => exact ⟨q + 1, HQL.out, by go_num, HBD.out⟩
                case measure => have := HQL.out; simp [intOf]; omega
            · have g1 : ¬ ((q : Int) < (nP : Int)) := by omega
              have g2 : ¬ ((q : Int) < (nL : Int) - 16) := by omega
              have E1 := Lib.hid (decide_eq_false g1)
              have E2 := Lib.hid (decide_eq_false g2)
              clear hrr har hcd hbq hqL hqA q1 g1 g2
              go_wp2_with fail
              have e1 : decide ((q : Int) < (nP : Int)) = false := E1.out
              have e3 : decide (q < nP) = false := by have := of_decide_eq_false E1.out; exact decide_eq_false (by omega)
              have e2 : decide ((q : Int) < (nL : Int) - 16) = false := E2.out
              go_region
              clear e1 e2 e3
              go_wp2_with fail
              go_roundw
              case rel => exact ⟨q + 1, HQL.out, by go_num, HBD.out⟩
              case measure => have := HQL.out; simp [intOf]; omega
          · have : q = nL := by omega
            subst this
            have HBE : Hid (Below w.heap.size w wr) := HQ11.out.bw.trans (hbq.mono HQ11.out.bw.size)
            clear hql hq hbq
            go_wp2_with fail
            refine (fixed_any K _).mono ?_
            rintro e w12 ⟨rfl, hb12⟩
            have HB12 := Lib.hid (bel2 HBE.out hb12)
            clear hb12
            go_wp2_with fail
            go_ret
            exact ⟨rfl, HB12.out⟩
      · have z1 : ((nL : Int) != (nP : Int) + tb) = false := by simp; omega
        clear hx2 hnL
        go_wp2_with fail
        go_loopw [146] (fun i wq => ∃ q : Nat, q ≤ nL ∧ i = .int .i64 q ∧ Below w11.heap.size w11 wq) (fun i _ => nL - (intOf i).toNat)
        case atStart => exact ⟨0, Nat.zero_le _, rfl, Below.refl _ _⟩
        case round =>
          obtain ⟨q, hq, rfl, hbq⟩ := hrel
          have HBQ := Lib.hid hbq
          by_cases hql : q < nL
          · have hqL : q < L.length := by rw [← HNL.out]; exact hql
            have hqA : q < A.length := by have h1 := HNA2.out.2; have h2 := HLA2.out; omega
            obtain ⟨rg, ro, rfl, _, hrg, _, _, hrr, _⟩ := HNEW.out (by omega)
            have hrdA : Rd w11 w11.heap.size aa (bV A) := HRA.out
            obtain ⟨ag, ao, rfl, hag, har⟩ := hrdA (by rw [bV_length]; omega)
            have HBD := Lib.hid (Below_drew hbq)
            have HQL := Lib.hid hql
            have q1 : wr.cell? ⟨rg, ro + q, none⟩ = some (.int .u8 ((L[q]'hqL).toNat : Int)) := by
              rw [hbq.cell (p := ⟨rg, ro + q, none⟩) hrg]; exact hrr q _ (bV_get L q hqL)
            by_cases hcd : q < nP ∨ q + 16 < nL
            · have he : (L[q]'hqL) = (A[q]'hqA) := by
                have h := HLA.out q hqL (by rw [← HNL.out]; exact hcd)
                rw [List.getElem?_eq_getElem hqL, List.getElem?_eq_getElem hqA] at h
                injection h
              have q2 : wr.cell? ⟨ag, ao + q, none⟩ = some (.int .u8 ((L[q]'hqL).toNat : Int)) := by
                rw [hbq.cell (p := ⟨ag, ao + q, none⟩) hag, he]; exact har q _ (bV_get A q hqA)
              have hcd' : ((q : Int) < (nP : Int)) ∨ ¬ ((q : Int) < (nP : Int)) ∧ ((q : Int) < (nL : Int) - 16) := by omega
              generalize L[q]'hqL = y at q1 q2
              clear he hrr har hcd hbq hqL hqA
              have hmx : (nL : Int) ≤ 9223372036854775807 := by omega
              rcases hcd' with g1 | ⟨g1, g2⟩
              · have e1 : decide ((q : Int) < (nP : Int)) = true := decide_eq_true g1
                go_wp2_with fail
                go_region
                clear q1 q2 e1
                go_wp2_with fail
                go_roundw
                case rel => exact ⟨q + 1, HQL.out, by go_num, HBD.out⟩
                case measure => have := HQL.out; simp [intOf]; omega
              · have E1 := Lib.hid (decide_eq_false g1)
                have E2 := Lib.hid (decide_eq_true g2)
                clear g1 g2
                go_wp2_with fail
                have e1 : decide ((q : Int) < (nP : Int)) = false := E1.out
                have e3 : decide (q < nP) = false := by have := of_decide_eq_false E1.out; exact decide_eq_false (by omega)
                have e2 : decide ((q : Int) < (nL : Int) - 16) = true := E2.out
                go_region
                clear q1 q2 e1 e2 e3
                go_wp2_with fail
                go_roundw
                case rel => exact ⟨q + 1, HQL.out, by go_num, HBD.out⟩
                case measure => have := HQL.out; simp [intOf]; omega
            · have g1 : ¬ ((q : Int) < (nP : Int)) := by omega
              have g2 : ¬ ((q : Int) < (nL : Int) - 16) := by omega
              have E1 := Lib.hid (decide_eq_false g1)
              have E2 := Lib.hid (decide_eq_false g2)
              clear hrr har hcd hbq hqL hqA q1 g1 g2
              go_wp2_with fail
              have e1 : decide ((q : Int) < (nP : Int)) = false := E1.out
              have e3 : decide (q < nP) = false := by have := of_decide_eq_false E1.out; exact decide_eq_false (by omega)
              have e2 : decide ((q : Int) < (nL : Int) - 16) = false := E2.out
              go_region
              clear e1 e2 e3
              go_wp2_with fail
              go_roundw
              case rel => exact ⟨q + 1, HQL.out, by go_num, HBD.out⟩
              case measure => have := HQL.out; simp [intOf]; omega
          · have : q = nL := by omega
            subst this
            have HBE : Hid (Below w.heap.size w wr) := HQ11.out.bw.trans (hbq.mono HQ11.out.bw.size)
            clear hql hq hbq
            go_wp2_with fail
            refine (fixed_any K _).mono ?_
            rintro e w12 ⟨rfl, hb12⟩
            have HB12 := Lib.hid (bel2 HBE.out hb12)
            clear hb12
            go_wp2_with fail
            go_ret
            exact ⟨rfl, HB12.out⟩
      · have z1 : ((nL : Int) != (nP : Int) + ((nA : Int) - (nP : Int))) = false := by simp; omega
        have z2 : ((nL : Int) != (nA : Int)) = false := by simp; omega
        clear hx2 hnL
        go_wp2_with fail
        go_loopw [146] (fun i wq => ∃ q : Nat, q ≤ nL ∧ i = .int .i64 q ∧ Below w11.heap.size w11 wq) (fun i _ => nL - (intOf i).toNat)
        case atStart => exact ⟨0, Nat.zero_le _, rfl, Below.refl _ _⟩
        case round =>
          obtain ⟨q, hq, rfl, hbq⟩ := hrel
          have HBQ := Lib.hid hbq
          by_cases hql : q < nL
          · have hqL : q < L.length := by rw [← HNL.out]; exact hql
            have hqA : q < A.length := by have h1 := HNA2.out.2; have h2 := HLA2.out; omega
            obtain ⟨rg, ro, rfl, _, hrg, _, _, hrr, _⟩ := HNEW.out (by omega)
            have hrdA : Rd w11 w11.heap.size aa (bV A) := HRA.out
            obtain ⟨ag, ao, rfl, hag, har⟩ := hrdA (by rw [bV_length]; omega)
            have HBD := Lib.hid (Below_drew hbq)
            have HQL := Lib.hid hql
            have q1 : wr.cell? ⟨rg, ro + q, none⟩ = some (.int .u8 ((L[q]'hqL).toNat : Int)) := by
              rw [hbq.cell (p := ⟨rg, ro + q, none⟩) hrg]; exact hrr q _ (bV_get L q hqL)
            by_cases hcd : q < nP ∨ q + 16 < nL
            · have he : (L[q]'hqL) = (A[q]'hqA) := by
                have h := HLA.out q hqL (by rw [← HNL.out]; exact hcd)
                rw [List.getElem?_eq_getElem hqL, List.getElem?_eq_getElem hqA] at h
                injection h
              have q2 : wr.cell? ⟨ag, ao + q, none⟩ = some (.int .u8 ((L[q]'hqL).toNat : Int)) := by
                rw [hbq.cell (p := ⟨ag, ao + q, none⟩) hag, he]; exact har q _ (bV_get A q hqA)
              have hcd' : ((q : Int) < (nP : Int)) ∨ ¬ ((q : Int) < (nP : Int)) ∧ ((q : Int) < (nL : Int) - 16) := by omega
              generalize L[q]'hqL = y at q1 q2
              clear he hrr har hcd hbq hqL hqA
              have hmx : (nL : Int) ≤ 9223372036854775807 := by omega
              rcases hcd' with g1 | ⟨g1, g2⟩
              · have e1 : decide ((q : Int) < (nP : Int)) = true := decide_eq_true g1
                go_wp2_with fail
                go_region
                clear q1 q2 e1
                go_wp2_with fail
                go_roundw
                case rel => exact ⟨q + 1, HQL.out, by go_num, HBD.out⟩
                case measure => have := HQL.out; simp [intOf]; omega
              · have E1 := Lib.hid (decide_eq_false g1)
                have E2 := Lib.hid (decide_eq_true g2)
                clear g1 g2
                go_wp2_with fail
                have e1 : decide ((q : Int) < (nP : Int)) = false := E1.out
                have e3 : decide (q < nP) = false := by have := of_decide_eq_false E1.out; exact decide_eq_false (by omega)
                have e2 : decide ((q : Int) < (nL : Int) - 16) = true := E2.out
                go_region
                clear q1 q2 e1 e2 e3
                go_wp2_with fail
                go_roundw
                case rel => exact ⟨q + 1, HQL.out, by go_num, HBD.out⟩
                case measure => have := HQL.out; simp [intOf]; omega
            · have g1 : ¬ ((q : Int) < (nP : Int)) := by omega
              have g2 : ¬ ((q : Int) < (nL : Int) - 16) := by omega
              have E1 := Lib.hid (decide_eq_false g1)
              have E2 := Lib.hid (decide_eq_false g2)
              clear hrr har hcd hbq hqL hqA q1 g1 g2
              go_wp2_with fail
              have e1 : decide ((q : Int) < (nP : Int)) = false := E1.out
              have e3 : decide (q < nP) = false := by have := of_decide_eq_false E1.out; exact decide_eq_false (by omega)
              have e2 : decide ((q : Int) < (nL : Int) - 16) = false := E2.out
              go_region
              clear e1 e2 e3
              go_wp2_with fail
              go_roundw
              case rel => exact ⟨q + 1, HQL.out, by go_num, HBD.out⟩
              case measure => have := HQL.out; simp [intOf]; omega
          · have : q = nL := by omega
            subst this
            have HBE : Hid (Below w.heap.size w wr) := HQ11.out.bw.trans (hbq.mono HQ11.out.bw.size)
            clear hql hq hbq
            go_wp2_with fail
            refine (fixed_any K _).mono ?_
            rintro e w12 ⟨rfl, hb12⟩
            have HB12 := Lib.hid (bel2 HBE.out hb12)
            clear hb12
            go_wp2_with fail
            go_ret
            exact ⟨rfl, HB12.out⟩
end Go.Proofs.Ythfhmohbfoolnaa
