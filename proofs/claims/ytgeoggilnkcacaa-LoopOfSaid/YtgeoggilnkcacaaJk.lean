import Derived.Test.YtgeoggilnkcacaaJe
import Derived.Test.YtgeoggilnkcacaaJi
namespace Go.Proofs.Ytgeoggilnkcacaa
open Go Go.RowKit Go.Sort
set_option linter.unusedVariables false

/-! The landed code: the edges that come round (stage 16). -/
def overL (n : Nat) (E : List Ed) (v s : Nat) : List Ed := (List.range s).map (backL n E v)
theorem overL_length (n : Nat) (E : List Ed) (v s : Nat) : (overL n E v s).length = s := by simp [overL]
theorem overL_step (n : Nat) (E : List Ed) (v s : Nat) : overL n E v (s + 1) = overL n E v s ++ [backL n E v s] := by
  unfold overL; rw [List.range_succ, List.map_append]; rfl
theorem overL_get {n : Nat} {E : List Ed} {v s t : Nat} (h : t < (overL n E v s).length) : (overL n E v s)[t] = backL n E v t := by simp [overL]
theorem over_rev (n : Nat) (E : List Ed) (v i d : Nat) : ((overL n E v (i + d)).drop i).reverse = cycL n E v i d := by
  refine List.ext_getElem (by simp [overL_length, cyc_length]) fun t h1 h2 => ?_
  have ht : t < d := by rw [cyc_length] at h2; exact h2
  rw [cyc_get, List.getElem_reverse, List.getElem_drop, overL_get]
  simp only [List.length_drop, overL_length]
  congr 1; omega
/-- The way back, so far. -/
structure OvI (m : Nat) (E : List Ed) (v : Nat) (w wr : World) (s : Nat) (vo : Value) : Prop where
  way : wr.ownsRow w.heap.size 34 6 vo s (edsV (overL m E v s))
  bw : Below w.heap.size w wr
def ChainRd (E : List Ed) (w : World) (x : Ending) (w' : World) : Prop := ∃ a c, x = .returned (.slice a E.length c) ∧ E.length ≤ c ∧ Rd w' w'.heap.size a (edsV E) ∧ Below w.heap.size w w'
set_option maxHeartbeats 8000000 in
theorem round_any (m v0 i d : Nat) (a a2 : Option Addr) (c c2 y : Nat) (E : List Ed) (w : World) (ha : Rd w w.heap.size a (edsV E)) (hl : E.length ≤ 100000) (hE : ∀ e ∈ E, edOk (m : Int) e = true) (hm : m ≤ 32) (hr : mayE (m : Int) E = true) (hv0 : Drops m E v0) (hrep : Rep m E v0 i d) (hy : y = m + 1) (hr2 : RdRows w w.heap.size a2 (bysL (m : Int) E)) :
    Calls Try.prog 17 #[.int .i64 (v0 : Int), .slice a E.length c, .slice a2 y c2] w (ChainRd (cycL m E v0 i d) w) := by
  obtain ⟨i0, hi0, hz0, hz1, hz2⟩ := info_parts info_edge
  have HZ2 := Lib.hid hz2; clear hz2
  have hL2 : (bysL (m : Int) E).length = m + 1 := by unfold bysL; rw [hr]; simp
  have HBG := Lib.hid (fun k hk (h : k < (bysL (m : Int) E).length) => bys_get (E := E) (k := k) hr hk h)
  have HL2 := Lib.hid hL2
  have HA := Lib.hid ha; have HEO := Lib.hid hE; have HD := Lib.hid hv0; have HREP := Lib.hid hrep; have HR2 := Lib.hid hr2
  have hpos := hrep.pos
  have hrle := hrep.le
  have hvm := hv0.lt
  have j3 : IntKind.i64.wrap ((y : Int) - 1) = (m : Int) := by rw [IntWalk.i64_in _ (by omega)]; omega
  have HY := Lib.hid hy
  clear ha hE hv0 hrep hr2 hL2 hr hy
  go_enter Try.func17, Try.ntmps17
  go_wp2_with fail
  go_step3
  go_wp2_with fail
  go_step3
  go_wp2_with fail
  have HI : Hid (OvI m E v0 w w 0 (.slice none 0 0)) := ⟨⟨rfl, .inl ⟨rfl, rfl⟩⟩, Below.refl _ _⟩
  go_loopw [0, 7, 8, 9] (fun vv vo vr vk wr => ∃ (s K x : Nat) (vo' : Value), s < i + d ∧ K = m - s ∧ backV m E v0 s = x ∧ vv = .int .i64 (x : Int) ∧ vk = .int .i64 (K : Int) ∧ vr = .slice none 0 0 ∧ vo' = vo ∧ OvI m E v0 w wr s vo') (fun _ _ _ vk _ => (intOf vk).toNat)
  case atStart => exact ⟨0, m, v0, _, by omega, rfl, rfl, rfl, rfl, rfl, rfl, HI.out⟩
  case round =>
    obtain ⟨s, K, x, vo, hs, hK, hx, rfl, rfl, rfl, hw1, hI⟩ := hrel
    subst hw1
    clear HI
    obtain ⟨wa, wc, rfl, -, -, -⟩ := own_slice hI.way
    have HI := Lib.hid hI; clear hI
    generalize wr = W4 at *
    have hKm : K ≤ m := by omega
    have hbe := back_edge HEO.out HD.out.lt HD.out.drop (s := s) (by omega)
    obtain ⟨q, hq, hqv, hqe⟩ := back_place HEO.out HD.out.lt HD.out.drop (s := s) (by omega)
    rw [← hK, hx] at hqv
    have hbv : x < m := by
      rw [← hx]
      cases s with
      | zero => exact HD.out.lt
      | succ s' => exact (back_edge HEO.out HD.out.lt HD.out.drop (s := s') (by omega)).2.2.2.2.1
    have HFR := Lib.hid hbe.2.2.2.1
    have hnv := hbe.2.2.2.2.1
    have HB4 := Lib.hid HI.out.bw
    have hKy : K < (bysL (m : Int) E).length := by rw [HL2.out]; omega
    obtain ⟨b5, o5, ha5, hlt5, u5, d5, hc5, hu5⟩ := HR2.out.get hKy (HBG.out K hKm hKy)
    subst ha5
    rw [byL_length] at hc5
    have hc5' := (HB4.out.cell (p := ⟨b5, o5 + K, none⟩) hlt5).trans hc5
    obtain ⟨b6, o6, hb6, _, e6⟩ := (hu5.below HB4.out).num (i := x) (by rw [byL_length]; exact hbv)
    subst hb6
    have g1 : (byL m E K).getD x (-1) = (byL m E K)[x]'(by rw [byL_length]; exact hbv) := by rw [List.getD_eq_getElem?_getD, List.getElem?_eq_getElem]; rfl
    rw [← g1, hqv] at e6
    obtain ⟨b7, o7, hb7, _, hE7⟩ := (HA.out.below HB4.out).edge hq
    subst hb7
    rw [hqe] at hE7
    obtain ⟨x', hx'⟩ : ∃ x', backV m E v0 (s + 1) = x' := ⟨_, rfl⟩
    obtain ⟨e, he⟩ : ∃ e, backL m E v0 s = e := ⟨_, rfl⟩
    have HX := Lib.hid hx; have HX' := Lib.hid hx'; have HEE := Lib.hid he
    rw [he] at hE7 HFR
    rw [hx'] at HFR hnv
    clear hbe hqv hqe hc5 hu5 g1 hx hx' he
    have k1 : (K : Int) < (y : Int) := by have := HY.out; omega
    have k2 : (0 : Int) < (K : Int) := by omega
    have k3 : (0 : Int) ≤ (K : Int) := by omega
    have k4 : (x : Int) < (m : Int) := by omega
    have k5 : (0 : Int) ≤ (x : Int) := by omega
    have k6 : (q : Int) < (E.length : Int) := by omega
    have k7 : (0 : Int) ≤ (q : Int) := by omega
    obtain ⟨f0, f1, f2, f3, f4, f5⟩ := hE7
    have HKS := Lib.hid hK; have hsm : s < m := by omega
    clear hK
    go_upto_region 6 with fail
    obtain ⟨W5, hW5⟩ : ∃ W5, W5 = W4.alloc (.cells e.c 34) := ⟨_, rfl⟩
    have HE5 : Hid (EdAt W5 W4.heap.size 0 e) := by show EdAt _ _ _ _; rw [hW5]; exact EdAt.new _ _ _
    have HS5 : Hid (W5.heap.size = W4.heap.size + 1) := by show _ = _; rw [hW5]; simp
    have HB45 : Hid (Below W4.heap.size W4 W5) := by show Below _ _ _; rw [hW5]; exact box1 _ _
    have hch : W5 = W4.alloc (.cells #[.int .i64 e.fr, .int .i64 e.to_, .int .i64 e.wt, .int .i64 e.pc, .int .i64 e.ps, .bool e.en] 34) := hW5
    rw [← hch]
    clear hch hW5 f0 f1 f2 f3 f4 f5 hc5' e6
    have HY5 := Lib.hid (own_below HI.out.way HB45.out)
    have HB5 := Lib.hid (bel2 HI.out.bw HB45.out)
    obtain ⟨f0, f1, f2, f3, f4, f5⟩ := HE5.out
    have hs5 := HB5.out.size
    have HNB : Hid ((some W4.heap.size : Option Nat) ≠ (Value.slice wa s wc).ownBlock) := fun e => by have := (own_shape HI.out.way e.symm).2.1; omega
    go_upto_region 8 with (first
      | (at_builtin
         refine wpList_append_rd _ rfl (.tmp 30) (.tmp 32) 22 rfl w.heap.size 34 i0 _ 6 48 Try.underlying22 hi0 hz0 hz1 HZ2.out rfl (by omega) (.slice wa s wc) s (edsV (overL m E v0 s)) rfl (own_below HY5.out (box1 W5 (.cells e.c 34))) _ _ 1 1 e.c.toList rfl rfl (lit_rd W5 e.c 34) (ed_one e) (by unfold maxLen; omega) (by omega) (by simp; omega) ?_
         intro v7 w7 hown7 hg7 hv7
         have HO7 := Lib.hid hown7
         have HB7 : Hid (Below w.heap.size w w7) := (HB5.out.alloc hs5 _).grown hg7 (by simp; omega) (fun g hg => (own_shape HY5.out hg).1)
         have hc70 := (hg7.cell_far ⟨W4.heap.size, 0, none⟩ (by simp; have := HS5.out; omega) HNB.out).trans (((box1 W5 _).cell (p := ⟨W4.heap.size, 0, none⟩) (by have := HS5.out; show W4.heap.size < _; omega)).trans f0)
         rw [HFR.out] at hc70
         clear hown7 hv7 hg7 f0 f1 f2 f3 f4 f5)
      | fail)
    clear hc70 HY5 HE5 HB45 hs5 HNB
    have ho7 := HO7.out
    rw [← edsV_single, ← edsV_append] at ho7
    have hcy : overL m E v0 s ++ [e] = overL m E v0 (s + 1) := by rw [overL_step, HEE.out]
    rw [hcy] at ho7
    obtain ⟨a7, c7, rfl, hc7, hc7m, -⟩ := own_slice ho7
    obtain ⟨g7, rfl, hg7, hg7l⟩ := own_addr ho7 (Nat.succ_pos s)
    have HY7 := Lib.hid ho7
    clear ho7 hcy HO7
    have hsd : s + 1 ≤ i + d := by omega
    have hnn : K - 1 = m - (s + 1) := by have := HKS.out; omega
    have hkk : ((K - 1 : Nat) : Int) = (K : Int) - 1 := by omega
    go_wp2_with fail
    go_loopw [8, 38] (fun vr vt wr => ∃ t : Nat, t ≤ s + 1 ∧ vr = .slice none 0 0 ∧ vt = .int .i64 (t : Int) ∧ (s + 1 = i + d → t ≤ i) ∧ Below w7.heap.size w7 wr) (fun _ vt _ => s + 1 - (intOf vt).toNat)
    case atStart => exact ⟨0, Nat.zero_le _, rfl, rfl, fun _ => Nat.zero_le _, Below.refl _ _⟩
    case round =>
      obtain ⟨t, ht, rfl, rfl, hti, hbw⟩ := hrel
      have HTI := Lib.hid hti
      have HY8 := Lib.hid (own_below HY7.out hbw)
      have HB8 := Lib.hid (bel2 HB7.out hbw)
      have HB78 := Lib.hid hbw
      clear hti hbw
      generalize wr = W8 at *
      by_cases hlt : t < s + 1
      · have hto : t < (overL m E v0 (s + 1)).length := by rw [overL_length]; exact hlt
        obtain ⟨b8, o8, ha8, hb8, hE8⟩ := (Rd.own HY8.out).edge hto
        rw [overL_get] at hE8
        obtain ⟨rfl, rfl⟩ := And.intro (Addr.mk.inj (Option.some.inj ha8)).1 (Addr.mk.inj (Option.some.inj ha8)).2.1
        have hbt := (back_edge HEO.out HD.out.lt HD.out.drop (s := t) (by omega)).2.2.1
        obtain ⟨z, hz⟩ : ∃ z, backV m E v0 t = z := ⟨_, rfl⟩
        rw [hz] at hbt
        obtain ⟨f0, f1, f2, f3, f4, f5⟩ := hE8
        rw [hbt] at f1
        simp only [Nat.zero_add] at f0 f1 f2 f3 f4 f5
        generalize backL m E v0 t = e8 at *
        have HZ := Lib.hid hz
        have z1 : (t : Int) < ((s + 1 : Nat) : Int) := by omega
        have z2 : (0 : Int) ≤ (t : Int) := by omega
        clear ha8 hbt hz
        by_cases hzx : z = x'
        · have HQ2 : Hid (s + 1 = i + d) := by
            rcases Nat.lt_or_ge (s + 1) (i + d) with h | h
            · exact absurd (by rw [HZ.out, HX'.out, hzx]) (HREP.out.new t (s + 1) hlt h)
            · show _ = _; omega
          obtain rfl : t = i := HREP.out.only (by have := HQ2.out; omega) (by rw [HZ.out, hzx, ← HX'.out, HQ2.out])
          subst hzx
          have k8 : (t : Int) ≤ ((s + 1 : Nat) : Int) := by omega
          have k9 : (t : Int) ≤ (c7 : Int) := by omega
          have hsub : s + 1 - t = d := by have := HQ2.out; omega
          have hw1 : IntKind.i64.wrap (((s + 1 : Nat) : Int) - (t : Int)) = (d : Int) := by rw [IntWalk.i64_in _ (by omega)]; omega
          have hw2 : IntKind.i64.wrap ((s : Int) + 1 - (t : Int)) = (d : Int) := by rw [IntWalk.i64_in _ (by omega)]; omega
          go_wp2_with fail
          have hown9 := own_below HY8.out (box1 W8 (.cells #[.int .i64 e8.fr, .int .i64 (z : Int), .int .i64 e8.wt, .int .i64 e8.pc, .int .i64 e8.ps, .bool e8.en] 34))
          have HB9 := Lib.hid (bel2 HB8.out (box1 W8 (.cells #[.int .i64 e8.fr, .int .i64 (z : Int), .int .i64 e8.wt, .int .i64 e8.pc, .int .i64 e8.ps, .bool e8.en] 34)))
          refine (reverse_part w.heap.size g7 c7 (c7 - t) t d (overL m E v0 (s + 1)) _ (by rw [overL_length]; exact hown9) (by rw [overL_length]; exact HQ2.out.symm) (by rw [overL_length]; omega)).mono ?_
          rintro en w9 ⟨rfl, hrd, hgr⟩
          rw [HQ2.out, over_rev] at hrd
          have HRD := Lib.hid hrd
          have HB10 := Lib.hid (HB9.out.grown hgr HB9.out.size (fun g hg => by injection hg with hg; omega))
          clear hrd hgr hown9
          go_wp2_with fail
          go_ret
          exact ⟨some ⟨g7, t * 6, none⟩, c7 - t, by rw [cyc_length]; rfl, by rw [cyc_length]; omega, HRD.out, HB10.out⟩
        · have z3 : ¬ ((z : Int) = (x' : Int)) := by omega
          have z4 : ((z : Int) == (x' : Int)) = false := by simpa using z3
          have HTN : Hid (s + 1 = i + d → t + 1 ≤ i) := fun h => by
            have h1 := HTI.out h
            rcases Nat.lt_or_ge t i with h2 | h2
            · omega
            · obtain rfl : t = i := by omega
              exact absurd (by rw [← HZ.out, ← HX'.out, h, HREP.out.back]) hzx
          go_wp2_with fail
          exact ⟨⟨t + 1, by omega, rfl, by go_num, HTN.out, bel2 HB78.out (box1 _ _)⟩, by simp [intOf]; omega⟩
      · obtain rfl : t = s + 1 := by omega
        have hlt2 : s + 1 < i + d := by
          rcases Nat.lt_or_ge (s + 1) (i + d) with h | h
          · exact h
          · have := HTI.out (by omega); omega
        go_wp2_with fail
        exact ⟨⟨s + 1, K - 1, x', _, hlt2, hnn, HX'.out, rfl, by go_num, rfl, rfl, HY8.out, HB8.out⟩, by simp [intOf]; omega⟩
end Go.Proofs.Ytgeoggilnkcacaa
