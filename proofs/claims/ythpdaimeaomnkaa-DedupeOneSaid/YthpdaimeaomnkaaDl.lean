import Derived.Test.YthpdaimeaomnkaaDi
namespace Go.Proofs.Ythpdaimeaomnkaa
open Go Go.RowKit Go.Sort Go.Shelf Go.Maps
set_option linter.unusedVariables false

/-- A map of spans, by their numbers. -/
def SpansAt (M : List Sp) (f : Int → Option Value) : Prop := (∀ s ∈ M, f s.id = some s.v) ∧ ∀ x v, f x = some v → ∃ s ∈ M, s.id = x
theorem SpansAt.add {M : List Sp} {f : Int → Option Value} (h : SpansAt M f) {s : Sp} (hn : ∀ y ∈ M, y.id ≠ s.id) : SpansAt (M ++ [s]) (fun z => if z = s.id then some s.v else f z) := by
  refine ⟨fun y hy => ?_, fun x v hx => ?_⟩
  · rcases List.mem_append.1 hy with hy | hy
    · simp only [hn y hy, if_false]; exact h.1 y hy
    · rw [List.mem_singleton.1 hy]; simp
  · by_cases e : x = s.id
    · exact ⟨s, by simp, e.symm⟩
    · simp only [e, if_false] at hx
      obtain ⟨y, hy, r⟩ := h.2 x v hx
      exact ⟨y, List.mem_append_left _ hy, r⟩
def zeroS : Sp := ⟨0, 0, 0, 0, ⟨#[]⟩, ⟨#[]⟩, 0, 0⟩
theorem zero_sp (w : World) : (zeroValue 29).run Try.prog w = .ok zeroS.v w := by kernel_rfl
/-- Where the law's first loop stands. -/
structure OneI (w wr : World) (b : Nat) (M : List Sp) (f : Int → Option Value) : Prop where
  mp : ∃ k, k ≤ M.length ∧ MapG Try.prog 23 keyU wr b k f
  at_ : SpansAt M f
  ge : w.heap.size ≤ b
  bw : Below w.heap.size w wr
theorem OneI.below {w wr w' : World} {b : Nat} {M : List Sp} {f : Int → Option Value} (h : OneI w wr b M f) (hb : Below wr.heap.size wr w') : OneI w w' b M f :=
  { h with mp := by obtain ⟨k, hk, hm⟩ := h.mp; exact ⟨k, hk, hm.below hb⟩
           bw := bel2 h.bw hb }

set_option maxHeartbeats 8000000 in
theorem law_one9 (a : Option Addr) (c : Nat) (L : List Sp) (t : Int) (w : World) (ha : Rd w w.heap.size a (flatL L)) (hc1 : L.length ≤ maxLen) (hok : ∀ s ∈ L, s.Ok) :
    Calls Try.prog 5 #[.slice a L.length c, .int .u64 t] w fun e w' => e = .returned (.bool true) ∧ Below w.heap.size w w' := by
  have HA := Lib.hid ha; have HOK := Lib.hid hok; have HC := Lib.hid hc1; clear ha hok
  unfold maxLen at hc1
  by_cases hg : greatB L = true
  · have HG := Lib.hid hg; clear hg
    go_enter Try.func5, Try.ntmps5
    go_wp2_with (first
      | (go_at_call 7; refine (great_any a c L w HA.out HC.out HOK.out).mono ?_; rw [HG.out]; rintro e w1 ⟨rfl, hb1⟩)
      | (go_at_call 8; refine (fixed9_any _).mono ?_; rintro e w2 ⟨rfl, hb2⟩))
    go_ret
    exact ⟨rfl, bel2 hb1 hb2⟩
  have hg' : greatB L = false := by simpa using hg
  have hl60 : L.length ≤ 60 := by simp [greatB] at hg; omega
  have HG := Lib.hid hg'; clear hg hg'
  obtain ⟨O, hO⟩ : ∃ O, O = ofL L t := ⟨_, rfl⟩
  have HCN : Hid (Counts (L.filter (recB t)) O) := by show Counts _ _; rw [hO]; exact ofL_counts L t
  have HRI : Hid (∀ i (h : i + 1 < O.length), cmpI O[i] O[i + 1] < 0) := by subst hO; exact fun i h => ofL_rises h
  have HME : Hid (∀ x, x ∈ O → x ∈ L ∧ recB t x = true) := by subst hO; exact fun x h => ofL_mem h
  have hol : O.length ≤ 60 := by have := ofL_length L t; rw [← hO] at this; omega
  have HOE := Lib.hid hO.symm; clear hO
  obtain ⟨m, hm⟩ : ∃ m, m = O.length := ⟨_, rfl⟩
  rw [← hm] at hol
  have HM := Lib.hid hm; clear hm
  have hmm := @run_makeMap Try.prog
  go_enter Try.func5, Try.ntmps5
  go_wp2_with (first
    | (go_at_call 7
       refine (great_any a c L w HA.out HC.out HOK.out).mono ?_; rw [HG.out]; rintro e w1 ⟨rfl, hb1⟩
       have HB1 := Lib.hid hb1; clear hb1)
    | (go_at_call 9
       refine (of_any a c L t w1 ((HA.out.below HB1.out).more HB1.out.size) (by omega) HOK.out).mono ?_; rintro e w2 ⟨v2, rfl, hown2, hb2⟩
       rw [HOE.out, ← HM.out] at hown2
       have HO2 := Lib.hid hown2; have HB2 := Lib.hid (bel2 HB1.out hb2); clear hown2 hb2
       obtain ⟨a2, c2, rfl, _, _, _⟩ := own_slice HO2.out))
  clear hmm
  have HR2 : Hid (Rd (w2.alloc (.map #[] 0)) w2.heap.size a2 (flatL O)) := (Rd.own HO2.out).below (box1 _ _)
  obtain ⟨w3, hw3⟩ : ∃ w3, w3 = w2.alloc (.map #[] 0) := ⟨_, rfl⟩
  obtain ⟨mb, hmb⟩ : ∃ mb, mb = w2.heap.size := ⟨_, rfl⟩
  have HI3 : Hid (OneI w w3 mb [] (fun _ => none)) := by
    show OneI _ _ _ _ _
    rw [hw3, hmb]
    exact ⟨⟨0, Nat.le_refl _, MapG.new w2⟩, ⟨by simp, fun x v h => by cases h⟩, HB2.out.size, HB2.out.alloc HB2.out.size _⟩
  rw [← hw3, ← hmb] at HR2
  rw [← hw3, ← hmb]
  have HMB : Hid (mb + 1 = w3.heap.size) := by show _ = _; rw [hw3, hmb]; simp
  clear hw3 hmb HO2 HB2 HB1
  go_loopw [24] (fun i wr => ∃ (n : Nat) (f : Int → Option Value), n ≤ m ∧ i = .int .i64 n ∧ OneI w wr mb (O.take n) f ∧ Below mb w3 wr) (fun i _ => m - (intOf i).toNat)
  case atStart => exact ⟨0, _, Nat.zero_le _, rfl, HI3.out, Below.refl _ _⟩
  case round =>
    obtain ⟨n, f, hn, rfl, hI, hb⟩ := hrel
    have HI := Lib.hid hI; have HB := Lib.hid hb; clear hI hb
    generalize wr = W1 at *
    by_cases hlt : n < m
    · have hnO : n < O.length := by have := HM.out; omega
      obtain ⟨b2, o2, hb1, hB2', f0, f1, f2, f3, f4, f5, f6, f7⟩ := (HR2.out.below HB.out).elem hnO
      subst hb1
      obtain ⟨hsL, hrec⟩ := HME.out O[n] (List.getElem_mem hnO)
      have OKs := Lib.hid (HOK.out _ hsL)
      have HTK := Lib.hid (List.take_succ_eq_append_getElem hnO)
      have hnew : ∀ y ∈ O.take n, y.id ≠ (O[n]).id := fun y hy => by
        obtain ⟨i, hi, rfl⟩ := List.mem_iff_getElem.1 hy
        rw [List.length_take] at hi
        rw [List.getElem_take]
        exact List.pairwise_iff_getElem.1 HCN.out.ids i n (by omega) hnO (by omega)
      have HNEW := Lib.hid hnew; clear hnew hsL
      have hfn : f (O[n]).id = none := by
        cases hh : f (O[n]).id with
        | none => rfl
        | some v =>
          obtain ⟨y, hy, e⟩ := HI.out.at_.2 _ _ hh
          exact absurd e (HNEW.out y hy)
      obtain ⟨k, hk, hmp⟩ := HI.out.mp
      have hmpa := hmp.alloc (.cells (O[n]).c 29)
      have hlook := hmpa.look_ok lawU Try.underlying33 (zero_sp _) (keyU_of OKs.out.id)
      rw [hfn] at hlook
      simp only [Option.getD_none, Option.isSome_none] at hlook
      have HMP := Lib.hid hmp; have HKL := Lib.hid hk
      clear hmp hmpa hk hfn
      have hrec' : ((O[n]).trace == t) = true ∧ mayB O[n] = true := by simpa [recB] using hrec
      obtain ⟨ht1, hmay⟩ := hrec'
      have ht2 : ((O[n]).trace != t) = false := by simp [bne, ht1]
      have HMAY := Lib.hid hmay
      clear hrec hmay
      have hprev : n = 0 ∨ ∃ (h : 0 < n), cmpI (O[n - 1]'(by omega)) O[n] < 0 := by
        rcases Nat.eq_zero_or_pos n with e | e
        · exact .inl e
        · refine .inr ⟨e, ?_⟩
          have h1 := HRI.out (n - 1) (by omega)
          have e2 : n - 1 + 1 = n := by omega
          simpa only [e2] using h1
      have HPREV := Lib.hid hprev; clear hprev
      generalize hs : O[n] = s at *
      have HS := Lib.hid hs; clear hs
      have i3 : (n : Int) < (m : Int) := by omega
      have i4 : (0 : Int) ≤ (n : Int) := by omega
      unfold zeroS Sp.v Sp.c at hlook
      go_wp2_with fail
      obtain ⟨W2, hW2⟩ : ∃ W2, W2 = (W1.alloc (.cells s.c 29)).alloc (.cells zeroS.c 29) := ⟨_, rfl⟩
      have hbb : Below W1.heap.size W1 W2 := by rw [hW2]; exact bel2 (box1 _ _) (box1 _ _)
      have HX2 : Hid (Box W2 W1.heap.size s) := by
        show Box _ _ _
        rw [hW2]
        exact (Box.new W1 s 29).below (box1 _ _) (by simp)
      have HI2 := Lib.hid (HI.out.below hbb); have HB2 := Lib.hid (HB.out.trans (hbb.mono (by have := HB.out.size; have := HMB.out; omega))); clear hbb
      show Code.wp _ _ _ _ ((W1.alloc (.cells s.c 29)).alloc (.cells zeroS.c 29))
      rw [← hW2]
      clear hW2 hlook f0 f1 f2 f3 f4 f5 f6 f7
      obtain ⟨c0, c1, c2, c3, c4, c5, c6, c7⟩ := HX2.out.all
      have q1 := HX2.out.1
      have hcg : ∀ d os m o, m < W2.heap.size → (grow (redrawn W2 d) os).cell? ⟨m, o, none⟩ = W2.cell? ⟨m, o, none⟩ := fun d os m o h => (below_regrown W2 d os).cell h
      by_cases hn0 : n = 0
      · have hp0 : decide ((0 : Int) < (n : Int)) = false := by simp; omega
        have hp0n : decide (0 < n) = false := by simp; omega
        have HN0 := Lib.hid hn0; clear hn0
        refine wp_region_quiet_below (by kernel_rfl) (by kernel_rfl) ?_
        iterate 26 (first | go_big_quiet_step ((go_at_call 12; exact Calls.regrown_of (refMay_is HMAY.out _ OKs.out.host OKs.out.name OKs.out.kind.1))) | fail)
        refine wpQuiet_nil ?_
        intro W4 hw4
        obtain ⟨⟨d, os⟩, hw4'⟩ := hw4
        have hb4 := below_regrown W2 d os
        rw [← hw4'] at hb4
        clear hw4' hcg c0 c1 c2 c3 c4 c5 c6 c7 ht1 ht2 q1 hp0 hp0n
        have HX4 := Lib.hid (HX2.out.below hb4 HX2.out.1)
        have HI4 := Lib.hid (HI2.out.below hb4); have HB4 := Lib.hid (HB2.out.trans (hb4.mono (by have := HB2.out.size; have := HMB.out; omega))); clear hb4
        obtain ⟨c0, c1, c2, c3, c4, c5, c6, c7⟩ := HX4.out.all
        obtain ⟨k4, hk4, hm4⟩ := HI4.out.mp
        have HK4 := Lib.hid hk4; have HM4 := Lib.hid hm4; clear hk4 hm4
        have HTL : Hid ((O.take n).length ≤ 60) := by show _ ≤ _; rw [List.length_take]; omega
        go_wp2_with (at_mapUpdate
                     refine wpList_map_put rfl (.tmp 62) (.tmp 64) (.tmp 65) 33 rfl 29 lawU Try.underlying33 keyU_inj keyU_is rfl HM4.out (by have := HK4.out; have := HTL.out; unfold maxLen; omega) _ s.v s.id rfl rfl (keyU_of OKs.out.id) ?_
                     intro w5 hm5 hg5
                     have HI5 : Hid (OneI w w5 mb (O.take (n + 1)) (fun z => if z = s.id then some s.v else f z)) := by
                       show OneI _ _ _ _ _
                       rw [HTK.out]
                       exact ⟨⟨k4 + 1, by have := HK4.out; rw [List.length_append, List.length_singleton]; omega, hm5⟩, HI4.out.at_.add HNEW.out, HI4.out.ge, HI4.out.bw.grown hg5 HI4.out.bw.size (by intro k hk; cases hk; exact HI4.out.ge)⟩
                     have HB5 : Hid (Below mb w3 w5) := HB4.out.grown hg5 (by have := HB4.out.size; have := HMB.out; omega) (by intro k hk; cases hk; exact Nat.le_refl _)
                     clear hm5 hg5)
        go_roundw
        case rel => exact ⟨n + 1, _, by omega, by go_num, HI5.out, HB5.out⟩
        case measure => simp [intOf]; omega
      · have hp1 : decide ((0 : Int) < (n : Int)) = true := by simp; omega
        have hp1n : decide (0 < n) = true := by simp; omega
        have hn1 : n - 1 < O.length := by omega
        have HPC : Hid (cmpI (O[n - 1]) s < 0) := by
          rcases HPREV.out with e | ⟨_, e⟩
          · exact absurd e hn0
          · exact e
        obtain ⟨hrL, _⟩ := HME.out O[n - 1] (List.getElem_mem hn1)
        have OKr := Lib.hid (HOK.out _ hrL); clear hrL
        obtain ⟨b3, o3, hb3, hB3, e0, e1, e2, e3, e4, e5, e6, e7⟩ := (HR2.out.below HB2.out).elem hn1
        (injection hb3 with hb3; injection hb3 with hy1 hy2; subst hy1 hy2)
        generalize O[n - 1] = r at *
        have hq : decide ((0 : Int) ≤ cmpI r s) = false := by have := HPC.out; simp; omega
        have q2 : b2 < W2.heap.size := by have := HB2.out.size; have := HMB.out; omega
        have j1 : (0 : Int) ≤ (n : Int) - 1 := by omega
        have j2 : (n : Int) - 1 < (m : Int) := by omega
        have j5 : IntKind.i64.wrap ((n : Int) - 1) = (n : Int) - 1 := IntWalk.i64_in _ (by omega)
        have j6 : ((n : Int) - 1).toNat = n - 1 := by omega
        refine wp_region_quiet_below (by kernel_rfl) (by kernel_rfl) ?_
        iterate 26 (first | go_big_quiet_step (first | (go_at_call 12; exact Calls.regrown_of (refMay_is HMAY.out _ OKs.out.host OKs.out.name OKs.out.kind.1)) | (go_at_call 13; exact Calls.regrown_of (refCmp_any r s _ OKr.out.host OKs.out.host OKr.out.name OKs.out.name))) | fail)
        refine wpQuiet_nil ?_
        intro W4 hw4
        obtain ⟨⟨d, os⟩, hw4'⟩ := hw4
        have hb4 := below_regrown W2 d os
        rw [← hw4'] at hb4
        clear hw4' hcg c0 c1 c2 c3 c4 c5 c6 c7 ht1 ht2 q1 hp1 hp1n e0 e1 e2 e3 e4 e5 e6 e7 q2 j1 j2 j5 j6 hB3
        have HX4 := Lib.hid (HX2.out.below hb4 HX2.out.1)
        have HI4 := Lib.hid (HI2.out.below hb4); have HB4 := Lib.hid (HB2.out.trans (hb4.mono (by have := HB2.out.size; have := HMB.out; omega))); clear hb4
        obtain ⟨c0, c1, c2, c3, c4, c5, c6, c7⟩ := HX4.out.all
        obtain ⟨k4, hk4, hm4⟩ := HI4.out.mp
        have HK4 := Lib.hid hk4; have HM4 := Lib.hid hm4; clear hk4 hm4
        have HTL : Hid ((O.take n).length ≤ 60) := by show _ ≤ _; rw [List.length_take]; omega
        go_wp2_with (at_mapUpdate
                     refine wpList_map_put rfl (.tmp 62) (.tmp 64) (.tmp 65) 33 rfl 29 lawU Try.underlying33 keyU_inj keyU_is rfl HM4.out (by have := HK4.out; have := HTL.out; unfold maxLen; omega) _ s.v s.id rfl rfl (keyU_of OKs.out.id) ?_
                     intro w5 hm5 hg5
                     have HI5 : Hid (OneI w w5 mb (O.take (n + 1)) (fun z => if z = s.id then some s.v else f z)) := by
                       show OneI _ _ _ _ _
                       rw [HTK.out]
                       exact ⟨⟨k4 + 1, by have := HK4.out; rw [List.length_append, List.length_singleton]; omega, hm5⟩, HI4.out.at_.add HNEW.out, HI4.out.ge, HI4.out.bw.grown hg5 HI4.out.bw.size (by intro k hk; cases hk; exact HI4.out.ge)⟩
                     have HB5 : Hid (Below mb w3 w5) := HB4.out.grown hg5 (by have := HB4.out.size; have := HMB.out; omega) (by intro k hk; cases hk; exact Nat.le_refl _)
                     clear hm5 hg5)
        go_roundw
        case rel => exact ⟨n + 1, _, by omega, by go_num, HI5.out, HB5.out⟩
        case measure => simp [intOf]; omega
    · obtain rfl : n = m := by omega
      have HIE : Hid (OneI w W1 mb O f) := by
        show OneI _ _ _ _ _
        have h := HI.out
        rw [HM.out, List.take_length] at h
        exact h
      clear HI HB HR2 HI3 HMB hlt
      go_wp2_with fail
      go_loopw [69] (fun i wr => ∃ j : Nat, j ≤ L.length ∧ i = .int .i64 j ∧ OneI w wr mb O f) (fun i _ => L.length - (intOf i).toNat)
      case atStart => exact ⟨0, Nat.zero_le _, rfl, HIE.out⟩
      case round =>
        obtain ⟨j, hj, rfl, hI⟩ := hrel
        have HI := Lib.hid hI; clear hI
        generalize wr = W2 at *
        by_cases hlt : j < L.length
        · obtain ⟨b2, o2, hb1, hB2', f0, f1, f2, f3, f4, f5, f6, f7⟩ := (HA.out.below HI.out.bw).elem hlt
          subst hb1
          have OKs := Lib.hid (HOK.out L[j] (List.getElem_mem _))
          have HLE : Hid (recB t L[j] = true → ∃ y ∈ O, y.id = (L[j]).id ∧ cmpI y L[j] ≤ 0) := fun hr => HCN.out.least _ (List.mem_filter.2 ⟨List.getElem_mem _, hr⟩)
          generalize L[j] = s at *
          have i3 : (j : Int) < (L.length : Int) := by omega
          have i4 : (0 : Int) ≤ (j : Int) := by omega
          cases ht : (s.trace == t)
          · have ht2 : (s.trace != t) = true := by simp [bne, ht]
            go_wp2_with fail
            go_roundw
            case rel => exact ⟨j + 1, by omega, by go_num, HI.out.below (box1 _ (.cells s.c 29))⟩
            case measure => simp [intOf]; omega
          · have ht2 : (s.trace != t) = false := by simp [bne, ht]
            cases hm : mayB s
            · have HMY := Lib.hid hm; clear hm
              go_wp2_with (go_at_call 12; refine (refMay_is HMY.out _ OKs.out.host OKs.out.name OKs.out.kind.1).mono ?_; rintro e w4 ⟨rfl, hb4⟩)
              go_roundw
              case rel => exact ⟨j + 1, by omega, by go_num, HI.out.below (bel2 (box1 _ (.cells s.c 29)) hb4)⟩
              case measure => simp [intOf]; omega
            · have HMY := Lib.hid hm
              obtain ⟨y, hy, hyid, hyc⟩ := HLE.out (by simp [recB, ht, hm])
              clear hm
              have HFY : Hid (f s.id = some y.v) := by show _ = _; rw [← hyid]; exact HI.out.at_.1 y hy
              have hq : decide (cmpI s y < 0) = false := by have := cmpI_neg y s; simp; omega
              have OKy := Lib.hid (HOK.out y (HME.out y hy).1)
              clear hy hyid hyc HLE
              go_wp2_with (first
                | (go_at_call 12
                   refine (refMay_is HMY.out _ OKs.out.host OKs.out.name OKs.out.kind.1).mono ?_; rintro e w4 ⟨rfl, hb4⟩
                   have HX4 := Lib.hid ((Box.new W2 s 29).below hb4 (by simp))
                   have HI4 := Lib.hid (HI.out.below (bel2 (box1 _ (.cells s.c 29)) hb4))
                   clear f0 f1 f2 f3 f4 f5 f6 f7 hb4
                   obtain ⟨c0, c1, c2, c3, c4, c5, c6, c7⟩ := HX4.out.all
                   have q1 := HX4.out.1
                   obtain ⟨k4, _, hm4⟩ := HI4.out.mp
                   have hlook := hm4.look_ok lawU Try.underlying33 (zero_sp w4) (keyU_of OKs.out.id)
                   rw [HFY.out] at hlook
                   simp only [Option.getD_some, Option.isSome_some] at hlook
                   unfold Sp.v at hlook
                   clear hm4)
                | (go_at_call 13
                   refine (refCmp_any s y _ OKs.out.host OKy.out.host OKs.out.name OKy.out.name).mono ?_; rintro e w5 ⟨rfl, hb5⟩
                   have HB5 := Lib.hid hb5; clear hb5))
              go_roundw
              case rel => exact ⟨j + 1, by omega, by go_num, HI4.out.below (bel2 (box1 _ (.cells y.c 29)) HB5.out)⟩
              case measure => simp [intOf]; omega
        · go_wp2_with (go_at_call 8; refine (fixed9_any _).mono ?_; rintro e w7 ⟨rfl, hb7⟩)
          go_ret
          exact ⟨rfl, bel2 HI.out.bw hb7⟩
end Go.Proofs.Ythpdaimeaomnkaa
