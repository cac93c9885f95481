import Derived.Test.YteaafjkgopmmdaaBk
import Derived.Test.YteaafjkgopmmdaaGi
namespace Go.Proofs.Yteaafjkgopmmdaa
open Go Go.Shelf Go.RowKit Go.Sort
set_option maxRecDepth 20000
set_option linter.unusedVariables false

/-! Gaps of the landed code (stage 12): its region that draws its order by an invariant (Gi). -/
/-- What lies in the slots and in memory while the region runs: d tells which operations are done. -/
structure GI (V : World) (a : Option Addr) (n c : Nat) (x y : Int) (s t : Sp) (bo : Bool) (d : Nat → Bool) (x6 x7 x8 x13 x14 x15 x16 x17 x18 x19 x20 : Value) (w : World) : Prop where
  bel : Below V.heap.size V w
  p0 : d 0 = true → x14 = .agg #[.int .i64 x, .int .i64 y]
  p1 : d 1 = true → x15 = .slice a n c
  p2 : d 2 = true → d 3 = false → ∃ pb, x16 = .func (.func 40) #[] #[.pointer (some ⟨pb, 0, none⟩)] ∧ V.heap.size ≤ pb ∧ pb < w.heap.size ∧ w.cell? ⟨pb, 0, none⟩ = some (.slice a n c)
  p3 : d 3 = true → x17 = .tuple #[.agg #[.int .u64 s.trace, .int .u64 s.id, .int .u64 s.parent, .int .u8 s.kind, .string s.host, .string s.name, .int .i64 s.start, .int .i64 s.dur], .agg #[.int .u64 t.trace, .int .u64 t.id, .int .u64 t.parent, .int .u8 t.kind, .string t.host, .string t.name, .int .i64 t.start, .int .i64 t.dur], .bool bo]
  p4 : d 4 = true → x13 = .tuple #[.agg #[.int .u64 s.trace, .int .u64 s.id, .int .u64 s.parent, .int .u8 s.kind, .string s.host, .string s.name, .int .i64 s.start, .int .i64 s.dur], .agg #[.int .u64 t.trace, .int .u64 t.id, .int .u64 t.parent, .int .u8 t.kind, .string t.host, .string t.name, .int .i64 t.start, .int .i64 t.dur], .bool bo]
  p5 : d 5 = true → x18 = .agg #[.int .u64 s.trace, .int .u64 s.id, .int .u64 s.parent, .int .u8 s.kind, .string s.host, .string s.name, .int .i64 s.start, .int .i64 s.dur]
  p6 : d 6 = true → x19 = .agg #[.int .u64 t.trace, .int .u64 t.id, .int .u64 t.parent, .int .u8 t.kind, .string t.host, .string t.name, .int .i64 t.start, .int .i64 t.dur]
  p7 : d 7 = true → x20 = .bool bo
  p8 : d 8 = true → ∃ b, x7 = .pointer (some ⟨b, 0, none⟩) ∧ V.heap.size ≤ b ∧ b < w.heap.size ∧ w.there b 0 8
  p9 : d 9 = true → ∃ b, x8 = .pointer (some ⟨b, 0, none⟩) ∧ V.heap.size ≤ b ∧ b < w.heap.size ∧ w.there b 0 8
  ne : d 8 = true → d 9 = true → x7 ≠ x8
  o10 : d 10 = true → d 8 = true
  o11 : d 11 = true → d 9 = true ∧ d 10 = true
  p10 : d 10 = true → ∃ b, x7 = .pointer (some ⟨b, 0, none⟩) ∧ Box w b s
  p11 : d 11 = true → ∃ b, x8 = .pointer (some ⟨b, 0, none⟩) ∧ Box w b t
  p12 : d 12 = true → x6 = .bool bo
theorem GI.stay {V : World} {a : Option Addr} {n c : Nat} {x y : Int} {s t : Sp} {bo : Bool} {d : Nat → Bool} {x6 x7 x8 x13 x14 x15 x16 x17 x18 x19 x20 : Value} {w w' : World} (h : GI V a n c x y s t bo d x6 x7 x8 x13 x14 x15 x16 x17 x18 x19 x20 w) (hb : Below w.heap.size w w') : GI V a n c x y s t bo d x6 x7 x8 x13 x14 x15 x16 x17 x18 x19 x20 w' where
  bel := bel2 h.bel hb
  p0 := h.p0
  p1 := h.p1
  p2 := fun h2 h3 => by obtain ⟨pb, e, l1, l2, hc⟩ := h.p2 h2 h3; exact ⟨pb, e, l1, Nat.lt_of_lt_of_le l2 hb.size, (hb.cell (p := ⟨pb, 0, none⟩) l2).trans hc⟩
  p3 := h.p3
  p4 := h.p4
  p5 := h.p5
  p6 := h.p6
  p7 := h.p7
  p8 := fun h8 => by obtain ⟨b, e, l1, l2, ht⟩ := h.p8 h8; exact ⟨b, e, l1, Nat.lt_of_lt_of_le l2 hb.size, there_below ht hb l2⟩
  p9 := fun h8 => by obtain ⟨b, e, l1, l2, ht⟩ := h.p9 h8; exact ⟨b, e, l1, Nat.lt_of_lt_of_le l2 hb.size, there_below ht hb l2⟩
  ne := h.ne
  o10 := h.o10
  o11 := h.o11
  p10 := fun h8 => by obtain ⟨b, e, hx⟩ := h.p10 h8; exact ⟨b, e, hx.below hb hx.1⟩
  p11 := fun h8 => by obtain ⟨b, e, hx⟩ := h.p11 h8; exact ⟨b, e, hx.below hb hx.1⟩
  p12 := h.p12
theorem find_at {L : List Sp} {x : Int} {s : Sp} (h : atP L x = some s) : findL L x = if mayB s then some s else none := by
  unfold findL; rw [h]; cases hm : mayB s <;> simp [hm]
set_option maxHeartbeats 1000000 in
theorem end_yes {s : Sp} (hm : mayB s = true) (w : World) (hh : s.host.size ≤ maxLen) (hn : s.name.size ≤ maxLen) : Calls Try.prog 36 #[s.v] w fun e w' => e = .returned (.tuple #[.int .i64 (s.start + s.dur), .bool true]) ∧ Below w.heap.size w w' := by
  have hb0 := box1 w (.cells s.c 42)
  have hmc := may_any s (w.alloc (.cells s.c 42)) hh hn
  rw [hm] at hmc
  have HM := Lib.hid hmc
  have HX := Lib.hid (Box.new w s 42)
  have HB := Lib.hid hb0
  obtain ⟨s1, s2, s3, s4⟩ := mayB_times hm
  have g2 : IntKind.i64.wrap (s.start + s.dur) = s.start + s.dur := IntWalk.i64_in _ (by omega)
  clear hmc hb0 hh hn hm
  unfold Sp.v
  go_enter Try.func36, Try.ntmps36
  go_wp2_with (go_at_call 41
               refine HM.out.mono ?_; rintro e w4 ⟨rfl, hb4⟩
               have HX4 := Lib.hid (HX.out.below hb4 HX.out.1)
               obtain ⟨_, _, _, _, _, _, c6, c7⟩ := HX4.out.all
               have HB4 := Lib.hid (bel2 HB.out hb4); clear hb4)
  go_ret2
  exact ⟨rfl, HB4.out⟩
theorem both_told {L : List Sp} {x y : Int} (h : ((findL L x).isSome && (findL L y).isSome) = true) (hok : ∀ s ∈ L, s.Ok) :
    mayB (orZ (findL L x)) = true ∧ mayB (orZ (findL L y)) = true ∧ (orZ (findL L x)).Ok ∧ (orZ (findL L y)).Ok ∧ gapsL L ⟨x, y⟩ = some ((orZ (findL L y)).start - (orZ (findL L x)).start, (orZ (findL L x)).start + (orZ (findL L x)).dur - (orZ (findL L y)).start - (orZ (findL L y)).dur) := by
  have one : ∀ {z : Int}, (findL L z).isSome = true → ∃ s, s ∈ L ∧ atP L z = some s ∧ mayB s = true ∧ findL L z = some s := by
    intro z hz
    obtain ⟨s, hs⟩ := Option.isSome_iff_exists.1 hz
    have hs' := hs
    unfold findL at hs
    rw [Option.filter_eq_some_iff] at hs
    obtain ⟨n, hn, _, e⟩ := atP_some hs.1
    exact ⟨s, by rw [← e]; exact List.getElem_mem _, hs.1, hs.2, hs'⟩
  simp only [Bool.and_eq_true] at h
  obtain ⟨c, hc, hca, hcm, hcf⟩ := one h.1
  obtain ⟨s, hs, hsa, hsm, hsf⟩ := one h.2
  rw [hcf, hsf]
  refine ⟨hcm, hsm, hok _ hc, hok _ hs, ?_⟩
  rw [gaps_is (p := ⟨x, y⟩) hca hsa, hcm, hsm]
  rfl
theorem both_not {L : List Sp} {x y : Int} (h : ((findL L x).isSome && (findL L y).isSome) = false) : gapsL L ⟨x, y⟩ = none := by
  unfold gapsL
  cases hc : atP L x with
  | none => rfl
  | some c =>
    cases hs : atP L y with
    | none => rfl
    | some s =>
      rw [find_at hc, find_at hs] at h
      cases h1 : mayB c <;> cases h2 : mayB s <;> simp [h1, h2] at h ⊢
theorem below_drew2 {V : World} : Below V.heap.size V V.drew := Below_drew (Below.refl _ _)
theorem below_alloc2 {V w : World} {o : Obj} (h : Below V.heap.size V w) : Below V.heap.size V (w.alloc o) := h.alloc h.size o
set_option maxHeartbeats 8000000 in
theorem gaps_pays12 : GapsPay 22 := by
  intro a c L p w ha hl hok
  have HA := Lib.hid ha; have HOK := Lib.hid hok; clear ha hok
  obtain ⟨x, y⟩ := p
  obtain ⟨s, hs⟩ : ∃ s, s = orZ (findL L x) := ⟨_, rfl⟩
  obtain ⟨t, ht⟩ : ∃ t, t = orZ (findL L y) := ⟨_, rfl⟩
  obtain ⟨bo, hbo⟩ : ∃ b, b = ((findL L x).isSome && (findL L y).isSome) := ⟨_, rfl⟩
  have HBO : Hid (bothV L ⟨x, y⟩ = .tuple #[s.v, t.v, .bool bo]) := by show _ = _; rw [hs, ht, hbo]; rfl
  have HTOLD : Hid (bo = true → mayB s = true ∧ mayB t = true ∧ s.Ok ∧ t.Ok ∧ gapsL L ⟨x, y⟩ = some (t.start - s.start, s.start + s.dur - t.start - t.dur)) := fun h => by
    have := both_told (L := L) (x := x) (y := y) (by rw [← hbo]; exact h) HOK.out
    rw [← hs, ← ht] at this; exact this
  have HNOT : Hid (bo = false → gapsL L ⟨x, y⟩ = none) := fun h => both_not (by rw [← hbo]; exact h)
  clear hs ht hbo
  simp only [Pr.v]
  obtain ⟨V, hV⟩ : ∃ V, V = w.alloc (.cells #[.int .i64 x, .int .i64 y] 35) := ⟨_, rfl⟩
  have HB0 : Hid (Below w.heap.size w V) := by show Below _ _ _; rw [hV]; exact box1 _ _
  have HS0 : Hid (V.heap.size = w.heap.size + 1) := by show _ = _; rw [hV]; simp
  have HK : Hid (∀ pb w', Below V.heap.size V w' → w.heap.size ≤ pb → pb < w'.heap.size → w'.cell? ⟨pb, 0, none⟩ = some (.slice a L.length c) → Calls Try.prog 34 #[.agg #[.int .i64 x, .int .i64 y], .func (.func 40) #[] #[.pointer (some ⟨pb, 0, none⟩)]] w' fun e w2 => e = .returned (.tuple #[s.v, t.v, .bool bo]) ∧ Below w'.heap.size w' w2 ∧ Below V.heap.size V w2) := by
    intro pb w' h h1 h2 h3
    have hw := bel2 HB0.out h
    rw [← HBO.out]
    exact (both_any pb a c L ⟨x, y⟩ w' h2 h3 ((HA.out.below hw).more hw.size) hl HOK.out).mono fun e w2 hh => ⟨hh.1, hh.2, bel2 h hh.2⟩
  have hq : V.cell? ⟨w.heap.size, 0, none⟩ = some (.int .i64 x) ∧ V.cell? ⟨w.heap.size, 1, none⟩ = some (.int .i64 y) := by rw [hV]; exact ⟨by simp, by simp⟩
  have k0 : ∀ w', Below V.heap.size V w' → w'.cell? ⟨w.heap.size, 0, none⟩ = some (.int .i64 x) := fun w' h => (h.cell (p := ⟨w.heap.size, 0, none⟩) (by rw [HS0.out]; simp)).trans hq.1
  have k1 : ∀ w', Below V.heap.size V w' → w'.cell? ⟨w.heap.size, 1, none⟩ = some (.int .i64 y) := fun w' h => (h.cell (p := ⟨w.heap.size, 1, none⟩) (by rw [HS0.out]; simp)).trans hq.2
  clear hq
  simp only [Sp.v] at HK
  go_enter Try.func22, Try.ntmps22
  go_upto_region 1 with fail
  rw [← hV]
  clear hV
  go_cut [6, 7, 8] from 13 to 20 (fun s6 s7 s8 wx => InBoxes V wx s7 s8 s t ∧ s6 = .bool bo)
  case first =>
    refine wp_region_inv (by kernel_rfl) (by kernel_rfl) (fun d ac wx => ∃ x6 x7 x8 x13 x14 x15 x16 x17 x18 x19 x20, ac = ⟨#[.slice a L.length c, .agg #[.int .i64 x, .int .i64 y], undef, .pointer (some ⟨w.heap.size, 0, none⟩), .int .i64 0, .int .i64 0, x6, x7, x8, undef, undef, undef, undef, x13, x14, x15, x16, x17, x18, x19, x20, undef, undef, undef, undef, undef, undef, undef, undef, undef, undef, undef, undef, undef, undef, undef, undef, undef, undef, undef, undef], []⟩ ∧ GI V a L.length c x y s t bo d x6 x7 x8 x13 x14 x15 x16 x17 x18 x19 x20 wx) ?_ ?_ ?_
    · exact ⟨.bool false, undef, undef, undef, undef, undef, undef, undef, undef, undef, undef, rfl, below_drew2, (fun h => by cases h), (fun h => by cases h), (fun h _ => by cases h), (fun h => by cases h), (fun h => by cases h), (fun h => by cases h), (fun h => by cases h), (fun h => by cases h), (fun h => by cases h), (fun h => by cases h), (fun h _ => by cases h), (fun h => by cases h), (fun h => by cases h), (fun h => by cases h), (fun h => by cases h), (fun h => by cases h)⟩
    · intro i o d ac wx ho hd hdeps hI
      obtain ⟨x6, x7, x8, x13, x14, x15, x16, x17, x18, x19, x20, rfl, hG⟩ := hI
      have HG := Lib.hid hG; have HD := Lib.hid hdeps; clear hG
      rcases i with _ | _ | _ | _ | _ | _ | _ | _ | _ | _ | _ | _ | _ | i
      · simp only [List.getElem?_toArray, List.getElem?_cons_zero, Option.some.injEq] at ho
        refine wpOp_at (o := o) (by rw [← ho]; rfl) (by rw [← ho]) ?_
        intro K' hK
        subst ho
        clear hdeps
        have q0 := k0 wx HG.out.bel
        have q1 := k1 wx HG.out.bel
        go_simp
        exact hK _ _ ⟨x6, x7, x8, x13, .agg #[.int .i64 x, .int .i64 y], x15, x16, x17, x18, x19, x20, rfl, ⟨HG.out.bel, fun _ => rfl, HG.out.p1, HG.out.p2, HG.out.p3, HG.out.p4, HG.out.p5, HG.out.p6, HG.out.p7, HG.out.p8, HG.out.p9, HG.out.ne, HG.out.o10, HG.out.o11, HG.out.p10, HG.out.p11, HG.out.p12⟩⟩
      · simp only [List.getElem?_toArray, List.getElem?_cons_succ, List.getElem?_cons_zero, Option.some.injEq] at ho
        refine wpOp_at (o := o) (by rw [← ho]; rfl) (by rw [← ho]) ?_
        intro K' hK
        subst ho
        clear hdeps
        go_simp
        exact hK _ _ ⟨x6, x7, x8, x13, x14, .slice a L.length c, x16, x17, x18, x19, x20, rfl, ⟨HG.out.bel, HG.out.p0, fun _ => rfl, HG.out.p2, HG.out.p3, HG.out.p4, HG.out.p5, HG.out.p6, HG.out.p7, HG.out.p8, HG.out.p9, HG.out.ne, HG.out.o10, HG.out.o11, HG.out.p10, HG.out.p11, HG.out.p12⟩⟩
      · simp only [List.getElem?_toArray, List.getElem?_cons_succ, List.getElem?_cons_zero, Option.some.injEq] at ho
        refine wpOp_at (o := o) (by rw [← ho]; rfl) (by rw [← ho]) ?_
        intro K' hK
        subst ho
        clear hdeps
        have D1 := HD.out ⟨1, .data⟩ (by simp) rfl
        obtain rfl := HG.out.p1 D1
        go_simp
        refine (finder_is a L.length c wx).mono ?_
        rintro e w5 ⟨rfl, rfl⟩
        have HS := Lib.hid (HG.out.stay (box1 wx (.cells #[.slice a L.length c] 22)))
        exact hK _ _ ⟨x6, x7, x8, x13, x14, _, _, x17, x18, x19, x20, rfl, ⟨HS.out.bel, HS.out.p0, HS.out.p1, (fun _ _ => ⟨wx.heap.size, rfl, HG.out.bel.size, by simp, by simp⟩), HS.out.p3, HS.out.p4, HS.out.p5, HS.out.p6, HS.out.p7, HS.out.p8, HS.out.p9, HS.out.ne, HS.out.o10, HS.out.o11, HS.out.p10, HS.out.p11, HS.out.p12⟩⟩
      · simp only [List.getElem?_toArray, List.getElem?_cons_succ, List.getElem?_cons_zero, Option.some.injEq] at ho
        refine wpOp_at (o := o) (by rw [← ho]; rfl) (by rw [← ho]) ?_
        intro K' hK
        subst ho
        clear hdeps
        have D0 := HD.out ⟨0, .data⟩ (by simp) rfl
        have D2 := HD.out ⟨2, .data⟩ (by simp) rfl
        obtain rfl := HG.out.p0 D0
        obtain ⟨pb, rfl, l1, l2, l3⟩ := HG.out.p2 D2 hd
        have hc := HK.out pb wx HG.out.bel (by have := HS0.out; omega) l2 l3
        clear l3
        go_simp
        refine hc.mono ?_
        rintro e w6 ⟨rfl, hb6, hv6⟩
        have HS := Lib.hid (HG.out.stay hb6)
        exact hK _ _ ⟨x6, x7, x8, x13, _, x15, _, _, x18, x19, x20, rfl, ⟨HS.out.bel, HS.out.p0, HS.out.p1, (fun _ h => by cases h), fun _ => rfl, HS.out.p4, HS.out.p5, HS.out.p6, HS.out.p7, HS.out.p8, HS.out.p9, HS.out.ne, HS.out.o10, HS.out.o11, HS.out.p10, HS.out.p11, HS.out.p12⟩⟩
      · simp only [List.getElem?_toArray, List.getElem?_cons_succ, List.getElem?_cons_zero, Option.some.injEq] at ho
        refine wpOp_at (o := o) (by rw [← ho]; rfl) (by rw [← ho]) ?_
        intro K' hK
        subst ho
        clear hdeps
        have D3 := HD.out ⟨3, .data⟩ (by simp) rfl
        obtain rfl := HG.out.p3 D3
        go_simp
        exact hK _ _ ⟨x6, x7, x8, _, x14, x15, x16, _, x18, x19, x20, rfl, ⟨HG.out.bel, HG.out.p0, HG.out.p1, HG.out.p2, HG.out.p3, fun _ => rfl, HG.out.p5, HG.out.p6, HG.out.p7, HG.out.p8, HG.out.p9, HG.out.ne, HG.out.o10, HG.out.o11, HG.out.p10, HG.out.p11, HG.out.p12⟩⟩
      · simp only [List.getElem?_toArray, List.getElem?_cons_succ, List.getElem?_cons_zero, Option.some.injEq] at ho
        refine wpOp_at (o := o) (by rw [← ho]; rfl) (by rw [← ho]) ?_
        intro K' hK
        subst ho
        clear hdeps
        have D4 := HD.out ⟨4, .data⟩ (by simp) rfl
        obtain rfl := HG.out.p4 D4
        go_simp
        exact hK _ _ ⟨x6, x7, x8, _, x14, x15, x16, x17, _, x19, x20, rfl, ⟨HG.out.bel, HG.out.p0, HG.out.p1, HG.out.p2, HG.out.p3, HG.out.p4, fun _ => rfl, HG.out.p6, HG.out.p7, HG.out.p8, HG.out.p9, HG.out.ne, HG.out.o10, HG.out.o11, HG.out.p10, HG.out.p11, HG.out.p12⟩⟩
      · simp only [List.getElem?_toArray, List.getElem?_cons_succ, List.getElem?_cons_zero, Option.some.injEq] at ho
        refine wpOp_at (o := o) (by rw [← ho]; rfl) (by rw [← ho]) ?_
        intro K' hK
        subst ho
        clear hdeps
        have D4 := HD.out ⟨4, .data⟩ (by simp) rfl
        obtain rfl := HG.out.p4 D4
        go_simp
        exact hK _ _ ⟨x6, x7, x8, _, x14, x15, x16, x17, x18, _, x20, rfl, ⟨HG.out.bel, HG.out.p0, HG.out.p1, HG.out.p2, HG.out.p3, HG.out.p4, HG.out.p5, fun _ => rfl, HG.out.p7, HG.out.p8, HG.out.p9, HG.out.ne, HG.out.o10, HG.out.o11, HG.out.p10, HG.out.p11, HG.out.p12⟩⟩
      · simp only [List.getElem?_toArray, List.getElem?_cons_succ, List.getElem?_cons_zero, Option.some.injEq] at ho
        refine wpOp_at (o := o) (by rw [← ho]; rfl) (by rw [← ho]) ?_
        intro K' hK
        subst ho
        clear hdeps
        have D4 := HD.out ⟨4, .data⟩ (by simp) rfl
        obtain rfl := HG.out.p4 D4
        go_simp
        exact hK _ _ ⟨x6, x7, x8, _, x14, x15, x16, x17, x18, x19, _, rfl, ⟨HG.out.bel, HG.out.p0, HG.out.p1, HG.out.p2, HG.out.p3, HG.out.p4, HG.out.p5, HG.out.p6, fun _ => rfl, HG.out.p8, HG.out.p9, HG.out.ne, HG.out.o10, HG.out.o11, HG.out.p10, HG.out.p11, HG.out.p12⟩⟩
      · simp only [List.getElem?_toArray, List.getElem?_cons_succ, List.getElem?_cons_zero, Option.some.injEq] at ho
        refine wpOp_at (o := o) (by rw [← ho]; rfl) (by rw [← ho]) ?_
        intro K' hK
        subst ho
        clear hdeps
        go_simp
        have HS := Lib.hid (HG.out.stay (box1 wx (.cells #[.int .u64 0, .int .u64 0, .int .u64 0, .int .u8 0, .string ⟨#[]⟩, .string ⟨#[]⟩, .int .i64 0, .int .i64 0] 42)))
        exact hK _ _ ⟨x6, _, x8, x13, x14, x15, x16, x17, x18, x19, x20, rfl, ⟨HS.out.bel, HS.out.p0, HS.out.p1, HS.out.p2, HS.out.p3, HS.out.p4, HS.out.p5, HS.out.p6, HS.out.p7, (fun _ => ⟨wx.heap.size, rfl, HG.out.bel.size, by simp, there_last _ _ _ _ _ rfl rfl⟩), HS.out.p9, (fun _ h9 => by obtain ⟨b, e, _, l, _⟩ := HG.out.p9 h9; rw [e]; simp; try omega), (fun _ => rfl), HS.out.o11, (fun h => absurd (HG.out.o10 h) (by rw [hd]; simp)), HS.out.p11, HS.out.p12⟩⟩
      · simp only [List.getElem?_toArray, List.getElem?_cons_succ, List.getElem?_cons_zero, Option.some.injEq] at ho
        refine wpOp_at (o := o) (by rw [← ho]; rfl) (by rw [← ho]) ?_
        intro K' hK
        subst ho
        clear hdeps
        go_simp
        have HS := Lib.hid (HG.out.stay (box1 wx (.cells #[.int .u64 0, .int .u64 0, .int .u64 0, .int .u8 0, .string ⟨#[]⟩, .string ⟨#[]⟩, .int .i64 0, .int .i64 0] 42)))
        exact hK _ _ ⟨x6, x7, _, x13, x14, x15, x16, x17, x18, x19, x20, rfl, ⟨HS.out.bel, HS.out.p0, HS.out.p1, HS.out.p2, HS.out.p3, HS.out.p4, HS.out.p5, HS.out.p6, HS.out.p7, HS.out.p8, (fun _ => ⟨wx.heap.size, rfl, HG.out.bel.size, by simp, there_last _ _ _ _ _ rfl rfl⟩), (fun h9 _ => by obtain ⟨b, e, _, l, _⟩ := HG.out.p8 h9; rw [e]; simp; try omega), HS.out.o10, (fun h => ⟨rfl, (HG.out.o11 h).2⟩), HS.out.p10, (fun h => absurd (HG.out.o11 h).1 (by rw [hd]; simp)), HS.out.p12⟩⟩
      · simp only [List.getElem?_toArray, List.getElem?_cons_succ, List.getElem?_cons_zero, Option.some.injEq] at ho
        refine wpOp_at (o := o) (by rw [← ho]; rfl) (by rw [← ho]) ?_
        intro K' hK
        subst ho
        clear hdeps
        have DA := HD.out ⟨8, .data⟩ (by simp) rfl
        have DV := HD.out ⟨5, .data⟩ (by simp) rfl
        have D3 := HD.out ⟨3, .chain⟩ (by simp) rfl
        obtain rfl := HG.out.p5 DV
        obtain ⟨b, e7, l1, l2, hth⟩ := HG.out.p8 DA
        have HTH := Lib.hid hth
        subst e7
        obtain ⟨fz0, fz1, fz2, fz3, fz4, fz5, fz6, fz7⟩ := there_frozen hth
        obtain ⟨c0, hc0⟩ := Option.isSome_iff_exists.1 (hth 0 (by omega)).1
        obtain ⟨c1, hc1⟩ := Option.isSome_iff_exists.1 (hth 1 (by omega)).1
        obtain ⟨c2, hc2⟩ := Option.isSome_iff_exists.1 (hth 2 (by omega)).1
        obtain ⟨c3, hc3⟩ := Option.isSome_iff_exists.1 (hth 3 (by omega)).1
        obtain ⟨c4, hc4⟩ := Option.isSome_iff_exists.1 (hth 4 (by omega)).1
        obtain ⟨c5, hc5⟩ := Option.isSome_iff_exists.1 (hth 5 (by omega)).1
        obtain ⟨c6, hc6⟩ := Option.isSome_iff_exists.1 (hth 6 (by omega)).1
        obtain ⟨c7, hc7⟩ := Option.isSome_iff_exists.1 (hth 7 (by omega)).1
        simp only [Nat.zero_add] at hc0 hc1 hc2 hc3 hc4 hc5 hc6 hc7
        clear hth
        go_simp
        have hch : ((((((((wx.setCell ⟨b, 0, none⟩ (.int .u64 s.trace)).setCell ⟨b, 1, none⟩ (.int .u64 s.id)).setCell ⟨b, 2, none⟩ (.int .u64 s.parent)).setCell ⟨b, 3, none⟩ (.int .u8 s.kind)).setCell ⟨b, 4, none⟩ (.string s.host)).setCell ⟨b, 5, none⟩ (.string s.name)).setCell ⟨b, 6, none⟩ (.int .i64 s.start)).setCell ⟨b, 7, none⟩ (.int .i64 s.dur)) = wx.setCells b 0 s.c.toList := rfl
        rw [hch]
        clear hch
        have hsz : (wx.setCells b 0 s.c.toList).heap.size = wx.heap.size := by simp [World.setCells, Sp.c, World.setCell]
        exact hK _ _ ⟨x6, _, x8, x13, x14, x15, x16, x17, _, x19, x20, rfl, ⟨Below_setCells l1 _ 0 _ HG.out.bel, HG.out.p0, HG.out.p1, (fun _ h => by have h3 : d 3 = false := h; rw [D3] at h3; cases h3), HG.out.p3, HG.out.p4, HG.out.p5, HG.out.p6, HG.out.p7, (fun h => by obtain ⟨b2, e, m1, m2, m3⟩ := HG.out.p8 h; exact ⟨b2, e, m1, by rw [hsz]; exact m2, World.there_setCells m3 _ _ _⟩), (fun h => by obtain ⟨b2, e, m1, m2, m3⟩ := HG.out.p9 h; exact ⟨b2, e, m1, by rw [hsz]; exact m2, World.there_setCells m3 _ _ _⟩), HG.out.ne, (fun _ => DA), (fun h => ⟨(HG.out.o11 h).1, rfl⟩), (fun _ => ⟨b, rfl, Box.set s HTH.out⟩), (fun h => absurd (HG.out.o11 h).2 (by rw [hd]; simp)), HG.out.p12⟩⟩
      · simp only [List.getElem?_toArray, List.getElem?_cons_succ, List.getElem?_cons_zero, Option.some.injEq] at ho
        refine wpOp_at (o := o) (by rw [← ho]; rfl) (by rw [← ho]) ?_
        intro K' hK
        subst ho
        clear hdeps
        have DA := HD.out ⟨9, .data⟩ (by simp) rfl
        have DV := HD.out ⟨6, .data⟩ (by simp) rfl
        have D10 := HD.out ⟨10, .chain⟩ (by simp) rfl
        have D8 := HG.out.o10 D10
        have D3 := HD.out ⟨3, .phase⟩ (by simp) rfl
        obtain rfl := HG.out.p6 DV
        obtain ⟨b, e7, l1, l2, hth⟩ := HG.out.p9 DA
        have HTH := Lib.hid hth
        subst e7
        obtain ⟨b7, e7, hx7⟩ := HG.out.p10 D10
        have hne := HG.out.ne D8 DA
        have hbb : b7 ≠ b := by rintro rfl; exact hne e7
        have HX7 := Lib.hid hx7; have HBB := Lib.hid hbb; have HE7 := Lib.hid e7; clear hx7 hbb hne e7
        obtain ⟨fz0, fz1, fz2, fz3, fz4, fz5, fz6, fz7⟩ := there_frozen hth
        obtain ⟨c0, hc0⟩ := Option.isSome_iff_exists.1 (hth 0 (by omega)).1
        obtain ⟨c1, hc1⟩ := Option.isSome_iff_exists.1 (hth 1 (by omega)).1
        obtain ⟨c2, hc2⟩ := Option.isSome_iff_exists.1 (hth 2 (by omega)).1
        obtain ⟨c3, hc3⟩ := Option.isSome_iff_exists.1 (hth 3 (by omega)).1
        obtain ⟨c4, hc4⟩ := Option.isSome_iff_exists.1 (hth 4 (by omega)).1
        obtain ⟨c5, hc5⟩ := Option.isSome_iff_exists.1 (hth 5 (by omega)).1
        obtain ⟨c6, hc6⟩ := Option.isSome_iff_exists.1 (hth 6 (by omega)).1
        obtain ⟨c7, hc7⟩ := Option.isSome_iff_exists.1 (hth 7 (by omega)).1
        simp only [Nat.zero_add] at hc0 hc1 hc2 hc3 hc4 hc5 hc6 hc7
        clear hth
        go_simp
        have hch : ((((((((wx.setCell ⟨b, 0, none⟩ (.int .u64 t.trace)).setCell ⟨b, 1, none⟩ (.int .u64 t.id)).setCell ⟨b, 2, none⟩ (.int .u64 t.parent)).setCell ⟨b, 3, none⟩ (.int .u8 t.kind)).setCell ⟨b, 4, none⟩ (.string t.host)).setCell ⟨b, 5, none⟩ (.string t.name)).setCell ⟨b, 6, none⟩ (.int .i64 t.start)).setCell ⟨b, 7, none⟩ (.int .i64 t.dur)) = wx.setCells b 0 t.c.toList := rfl
        rw [hch]
        clear hch
        have hsz : (wx.setCells b 0 t.c.toList).heap.size = wx.heap.size := by simp [World.setCells, Sp.c, World.setCell]
        exact hK _ _ ⟨x6, x7, _, x13, x14, x15, x16, x17, x18, _, x20, rfl, ⟨Below_setCells l1 _ 0 _ HG.out.bel, HG.out.p0, HG.out.p1, (fun _ h => by have h3 : d 3 = false := h; rw [D3] at h3; cases h3), HG.out.p3, HG.out.p4, HG.out.p5, HG.out.p6, HG.out.p7, (fun h => by obtain ⟨b2, e, m1, m2, m3⟩ := HG.out.p8 h; exact ⟨b2, e, m1, by rw [hsz]; exact m2, World.there_setCells m3 _ _ _⟩), (fun h => by obtain ⟨b2, e, m1, m2, m3⟩ := HG.out.p9 h; exact ⟨b2, e, m1, by rw [hsz]; exact m2, World.there_setCells m3 _ _ _⟩), HG.out.ne, HG.out.o10, (fun _ => ⟨DA, D10⟩), (fun _ => ⟨b7, HE7.out, by rw [hsz]; exact HX7.out.1, fun i hi => by rw [World.cell?_setCells_out _ _ _ _ _ (fun h _ => absurd h HBB.out)]; exact HX7.out.2 i hi⟩), (fun _ => ⟨b, rfl, Box.set t HTH.out⟩), HG.out.p12⟩⟩
      · simp only [List.getElem?_toArray, List.getElem?_cons_succ, List.getElem?_cons_zero, Option.some.injEq] at ho
        refine wpOp_at (o := o) (by rw [← ho]; rfl) (by rw [← ho]) ?_
        intro K' hK
        subst ho
        clear hdeps
        have D7 := HD.out ⟨7, .data⟩ (by simp) rfl
        obtain rfl := HG.out.p7 D7
        go_simp
        exact hK _ _ ⟨_, x7, x8, x13, x14, x15, x16, x17, x18, x19, _, rfl, ⟨HG.out.bel, HG.out.p0, HG.out.p1, HG.out.p2, HG.out.p3, HG.out.p4, HG.out.p5, HG.out.p6, HG.out.p7, HG.out.p8, HG.out.p9, HG.out.ne, HG.out.o10, HG.out.o11, HG.out.p10, HG.out.p11, fun _ => rfl⟩⟩
      · cases ho
    · rintro d ac wx ⟨x6, x7, x8, x13, x14, x15, x16, x17, x18, x19, x20, rfl, hG⟩ hall
      obtain ⟨b7, rfl, hx7⟩ := hG.p10 (hall 10 (by decide))
      obtain ⟨b8, rfl, hx8⟩ := hG.p11 (hall 11 (by decide))
      obtain rfl := hG.p12 (hall 12 (by decide))
      have HR : Hid (InBoxes V wx (.pointer (some ⟨b7, 0, none⟩)) (.pointer (some ⟨b8, 0, none⟩)) s t) := ⟨b7, b8, rfl, rfl, hx7, hx8, hG.bel⟩
      clear hG hx7 hx8 hall
      go_wp2_with fail
      go_meet
      case rel => exact ⟨HR.out, rfl⟩
  case rest =>
    obtain ⟨⟨b7, b8, rfl, rfl, hx7, hx8, hbel⟩, rfl⟩ := hcut
    clear HK k0 k1 HA HBO
    have HBC := Lib.hid (bel2 HB0.out hbel); clear hbel
    cases bo with
    | false =>
      have HE := Lib.hid (HNOT.out rfl)
      clear hx7 hx8
      go_wp2_with fail
      go_ret3
      exact ⟨by rw [HE.out]; rfl, HBC.out⟩
    | true =>
      obtain ⟨m1, m2, o1, o2, hg⟩ := HTOLD.out rfl
      have HE := Lib.hid hg
      have hex := end_yes m1 wc o1.host o1.name
      have HEY := Lib.hid (fun w' => end_yes m2 w' o2.host o2.name)
      obtain ⟨s1, s2, s3, s4⟩ := mayB_times m1
      obtain ⟨t1, t2, t3, t4⟩ := mayB_times m2
      have HEX := Lib.hid hex; have HX7 := Lib.hid hx7; have HX8 := Lib.hid hx8
      clear hex hg m1 m2 o1 o2 HTOLD HNOT
      obtain ⟨c0, c1, c2, c3, c4, c5, c6, c7⟩ := hx7.all
      clear hx7 hx8
      obtain ⟨E1, hE1⟩ : ∃ E, E = s.start + s.dur := ⟨_, rfl⟩
      obtain ⟨E2, hE2⟩ : ∃ E, E = t.start + t.dur := ⟨_, rfl⟩
      have g1 : IntKind.i64.wrap (t.start - s.start) = t.start - s.start := IntWalk.i64_in _ (by omega)
      have g4 : IntKind.i64.wrap (E1 - E2) = E1 - E2 := IntWalk.i64_in _ (by omega)
      have HL : Hid (E1 - E2 = s.start + s.dur - t.start - t.dur) := by show _ = _; omega
      rw [← hE1] at HEX
      rw [← hE2] at HEY
      clear hE1 hE2
      simp only [Sp.v] at HEX HEY
      go_wp2_with (first
        | (go_at_call 36
           with_reducible (show Calls Try.prog 36 _ wc _)
           refine HEX.out.mono ?_; rintro e w5 ⟨rfl, hb5⟩
           have HX75 := Lib.hid (HX7.out.below hb5 HX7.out.1)
           have HX85 := Lib.hid (HX8.out.below hb5 HX8.out.1)
           have HB5 := Lib.hid (bel2 HBC.out hb5); clear hb5
           clear c0 c1 c2 c3 c4 c5 c6 c7
           obtain ⟨c0, c1, c2, c3, c4, c5, c6, c7⟩ := HX85.out.all)
        | (go_at_call 36
           refine (HEY.out w5).mono ?_; rintro e w6 ⟨rfl, hb6⟩
           have HX76 := Lib.hid (HX75.out.below hb6 HX75.out.1)
           have HX86 := Lib.hid (HX85.out.below hb6 HX85.out.1)
           have HB6 := Lib.hid (bel2 HB5.out hb6); clear hb6
           clear c0 c1 c2 c3 c4 c5 c6 c7
           obtain ⟨_, _, _, _, _, _, c6, _⟩ := HX86.out.all
           obtain ⟨_, _, _, _, _, _, d6, _⟩ := HX76.out.all))
      go_ret3
      exact ⟨by rw [HE.out, ← HL.out]; rfl, HB6.out⟩
end Go.Proofs.Yteaafjkgopmmdaa

