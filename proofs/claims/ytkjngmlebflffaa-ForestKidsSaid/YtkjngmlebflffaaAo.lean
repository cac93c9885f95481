import Derived.Test.YtkjngmlebflffaaAn
import Derived.Test.YtkjngmlebflffaaUl
import Derived.Test.YtkjngmlebflffaaRt
namespace Go.Proofs.Ytkjngmlebflffaa
open Go Go.RowKit Go.Sort Go.Shelf
set_option linter.unusedVariables false
attribute [local go_sem] Oper.semAt_some

/-! The landed code: how many places each place's part has (stage 11). -/
/-- A place's size, its first kids being added. -/
def szN (P : List Int) (p d j : Nat) : Nat := (((kidsL P (p : Int)).take j).flatMap (blk P (p : Int) (d + 1))).length + 1
theorem szN_zero (P : List Int) (p d : Nat) : szN P p d 0 = 1 := by simp [szN]
theorem szN_next {P : List Int} {p d j s k : Nat} (hj : j < (kidsL P (p : Int)).length) (hk : (kidsL P (p : Int))[j] = k) (hs : Sz P k s) (hl : Lv P p d) : szN P p d (j + 1) = szN P p d j + s := by
  subst hk
  have hkl : Lv P (kidsL P (p : Int))[j] (d + 1) := AtD.kid (x := (p : Int)) (.inr ⟨p, d, rfl, rfl, hl⟩) (List.getElem_mem hj)
  unfold szN
  rw [sz_take hj hs hkl]; omega
theorem szN_all {P : List Int} (hr : rightL P = true) {p d : Nat} (h : Lv P p d) : Sz P p (szN P p d (kidsL P (p : Int)).length) := by
  unfold szN
  rw [List.take_length]; exact sz_done hr h
theorem szN_le {P : List Int} (hr : rightL P = true) {p d : Nat} (h : Lv P p d) (j : Nat) : szN P p d j ≤ P.length + 1 := by
  have h1 := (szN_all hr h).le hr
  have h2 := flat_take_le (kidsL P (p : Int)) (blk P (p : Int) (d + 1)) j
  unfold szN at h1 ⊢
  rw [List.take_length] at h1; omega
/-- The sizes are right from a place of the levels on. -/
def SzAll (P : List Int) (O : List Nat) (i : Nat) (S : List Int) : Prop := ∀ j (hj : j < O.length), i ≤ j → ∃ s : Nat, S[O[j]]? = some (s : Int) ∧ Sz P O[j] s
/-- The sizes while the body runs, and what lies beside. -/
structure SB (w W : World) (n kb sb s0 : Nat) (a : Option Addr) (m c : Nat) (S : List Int) : Prop where
  len : S.length = n
  own : W.ownsRow w.heap.size 3 1 (.slice (some ⟨s0, 0, none⟩) n n) n (intV S)
  bk : Boxed W kb 37 (.slice a m c)
  bs : Boxed W sb 22 (.slice (some ⟨s0, 0, none⟩) n n)
  bw : Below w.heap.size w W
  kne : kb ≠ s0
  sne : sb ≠ s0
theorem SB.lt {w W : World} {n kb sb s0 m c : Nat} {a : Option Addr} {S : List Int} (h : SB w W n kb sb s0 a m c S) : w.heap.size ≤ s0 ∧ s0 < W.heap.size := ⟨(own_shape h.own rfl).1, (own_shape h.own rfl).2.1⟩
theorem SB.set {w W : World} {n kb sb s0 m c : Nat} {a : Option Addr} {S : List Int} (h : SB w W n kb sb s0 a m c S) (j : Nat) (x : Int) : SB w (W.setCell ⟨s0, j, none⟩ (.int .i64 x)) n kb sb s0 a m c (S.set j x) ∧ W.grownBy (W.setCell ⟨s0, j, none⟩ (.int .i64 x)) (some s0) := by
  obtain ⟨h1, h2⟩ := h.own.stored j (.int .i64 x)
  rw [intV_set] at h1
  exact ⟨⟨by rw [List.length_set]; exact h.len, h1, h.bk.kept h2 (by simp [h.kne]), h.bs.kept h2 (by simp [h.sne]), h.bw.setCell (p := ⟨s0, j, none⟩) h.lt.1 _, h.kne, h.sne⟩, h2⟩
theorem SB.below {w W W' : World} {n kb sb s0 m c : Nat} {a : Option Addr} {S : List Int} (h : SB w W n kb sb s0 a m c S) (hb : Below W.heap.size W W') : SB w W' n kb sb s0 a m c S :=
  ⟨h.len, own_below h.own hb, h.bk.kept (Below.to_grown hb) (by simp), h.bs.kept (Below.to_grown hb) (by simp), bel2 h.bw hb, h.kne, h.sne⟩
theorem SB.own_from {w W W' : World} {n kb sb s0 m c : Nat} {a : Option Addr} {S : List Int} {row : Option Nat} (h : SB w W n kb sb s0 a m c S) (hg : W.grownBy W' row) (hr : ∀ r, row = some r → w.heap.size ≤ r ∧ ∃ o : Obj, W.heap[r]? = some o ∧ o.isCells = false) : SB w W' n kb sb s0 a m c S :=
  have hr' := fun r e => (hr r e).2
  ⟨h.len, ownsRow_cells h.own hg hr', boxed_cells h.bk hg hr', boxed_cells h.bs hg hr', h.bw.grown hg h.bw.size (fun g e => (hr g e).1), h.kne, h.sne⟩
theorem wpListIn_make_full {F : Fence} {n : Nat} {P : Program} (w : World) {ops : Array Oper} {rest : List Oper} {o : Oper} {a : Act} {Q : Exit → Act → World → Prop}
    (hg : o.guard = none) (l c : Operand) (t : TypeId) (hop : o.op = Op.makeSlice t l c)
    (base : Nat) (e : TypeId) (i : TypeInfo) (z : Value) (size : Nat) (h1 : P.underlying t = some (.slice e)) (h2 : P.info? e = some i) (h3 : i.zero = some z) (h4 : i.size = size)
    (kl kc : IntKind) (L C : Int) (m : Nat) (hl : a.eval l = .int kl L) (hc : a.eval c = .int kc C) (hL : L = (m : Int)) (hC : C = (m : Int)) (b2 : i.bytes * m ≤ 281474976710656) (b3 : m ≤ maxLen) (b4 : base ≤ w.heap.size)
    (hK : ∀ w', w'.ownsRow base e size (.slice (some ⟨w.heap.size, 0, none⟩) m m) m (madeCells z.cells (m * size)).toList → w.grownBy w' none → wpListIn F n P ops Q rest (a.put o.dst (.slice (some ⟨w.heap.size, 0, none⟩) m m)) w') :
    wpListIn F n P ops Q (o :: rest) a w := by
  refine wpListIn_plain hg fun K hK' => ?_
  obtain ⟨w', hrun, r1, r2⟩ := run_make_full (P := P) w base t e i z size h1 h2 h3 h4 kl kc m b2 b3 b4
  subst hL hC
  unfold Oper.wpIn
  refine ⟨?_, ?_⟩
  · simp [Oper.about, hop]
  · rw [Oper.semAt_plain F _ _ (by rw [hop]; intro c hc'; cases hc')]
    simp [execOp, hop, hl, hc, hrun, Result.andThen]
    exact hK' _ _ (hK w' r1 r2)
set_option maxRecDepth 100000 in
set_option maxHeartbeats 4000000 in
theorem sizes_any (a : Option Addr) (c : Nat) (P : List Int) (w : World) (hr : rightL P = true) (ha : KD w w.heap.size a P) (hl : P.length ≤ 100000) :
    Calls Try.prog 19 #[.slice a (P.length + 1) c] w fun e w' => ∃ b S, e = .returned (.slice (some ⟨b, 0, none⟩) P.length P.length) ∧ b < w'.heap.size ∧ S.length = P.length ∧ Rd w' w'.heap.size (some ⟨b, 0, none⟩) (intV S) ∧ (∀ k, k < P.length → ∃ s : Nat, S[k]? = some (s : Int) ∧ Sz P k s) ∧ Below w.heap.size w w' := by
  obtain ⟨i0, hi0, hz0, hz1, hz2⟩ := info_parts info_int
  have HZ2 := Lib.hid hz2; clear hz2
  have HA := Lib.hid ha; clear ha
  obtain ⟨m, hm⟩ : ∃ m, P.length + 1 = m := ⟨_, rfl⟩
  rw [hm]
  have i8 : IntKind.i64.wrap ((m : Int) - 1) = (P.length : Int) := by rw [IntWalk.i64_in _ (by omega)]; omega
  refine (callsIn_wide (n := 5)).1 ?_
  refine callsIn_of_wp_marks Try.func19 rfl trivial ?_ rfl
  simp only [Try.ntmps19, List.size_toArray, List.length_cons, List.length_nil, Nat.reduceAdd, Nat.reduceSub, Array.replicate_succ, Array.replicate_zero, List.push_toArray, List.append_toArray, List.nil_append, List.cons_append]
  gi_wp2_with (gi_at_make
               refine wpListIn_make_full _ rfl (.tmp 10) (.tmp 10) 22 rfl w.heap.size 3 i0 _ 1 Try.underlying22 hi0 hz0 hz1 .i64 .i64 _ _ P.length rfl rfl rfl rfl (by rw [HZ2.out]; omega) (by unfold maxLen; omega) (by simp) ?_
               intro w1 hown1 hg1
               have HB1 := Lib.hid ((box1 w (.cells #[.slice a m c] 37)).grown hg1 (by simp) (by simp))
               have HO1 := Lib.hid hown1
               have HKB := Lib.hid (((Boxed.new w 37 (.slice a m c))).kept hg1 (by simp))
               clear hown1 hg1
               have hk1 := HKB.out.cell
               have hl1 := HKB.out.lt)
  have hs0 : w.heap.size + 1 < w1.heap.size := by
    have h := (own_shape HO1.out rfl).2.1
    simpa using h
  obtain ⟨w2, hw2⟩ : ∃ w2, w1.alloc (.cells #[.slice (some ⟨w.heap.size + 1, 0, none⟩) P.length P.length] 22) = w2 := ⟨_, rfl⟩
  have HI2 : Hid (SB w w2 P.length w.heap.size w1.heap.size (w.heap.size + 1) a m c (List.replicate P.length 0)) := by
    have hb : Below w1.heap.size w1 w2 := by rw [← hw2]; exact box1 _ _
    have hbx : Boxed w2 w1.heap.size 22 (.slice (some ⟨w.heap.size + 1, 0, none⟩) P.length P.length) := by rw [← hw2]; exact Boxed.new _ _ _
    have e : intV (List.replicate P.length 0) = (madeCells (Value.int .i64 0).cells (P.length * 1)).toList := by
      simp [intV, toList_madeCells_one, Value.cells]
    have ho := HO1.out
    rw [World.size_alloc] at ho
    exact ⟨by simp, own_below (by rw [e]; exact ho) hb, HKB.out.kept (Below.to_grown hb) (by simp), hbx, bel2 HB1.out hb, by omega, by omega⟩
  rw [hw2]
  clear hw2
  refine ⟨trivial, (callsIn_wide.2 (by rw [← hm]; exact levels_any a c P w2 ((HA.out.below HI2.out.bw).more HI2.out.bw.size) hl)).mono ?_⟩
  rintro e w3 ⟨v3, O, rfl, hown3, hL, hb3⟩
  obtain ⟨va3, vc3, rfl, _, _, _⟩ := own_slice hown3
  have HI3 := Lib.hid (HI2.out.below hb3)
  have HO3 := Lib.hid hown3; have HL := Lib.hid hL
  have hs3 := hb3.size
  have hOl := hL.len
  have hs2 := HI2.out.lt
  have hl2 := HI2.out.bs.lt
  clear hown3 hL hb3 HI2 HO1 HKB HB1 hk1
  gi_wp2_with fail
  refine ⟨trivial, (callsIn_wide.2 (backward_is va3 O.length vc3 w3)).mono ?_⟩
  rintro e w4 ⟨rfl, rfl⟩
  gi_wp2_with fail
  obtain ⟨w4, hw4⟩ : ∃ w4, w3.alloc (.cells #[.slice va3 O.length vc3] 22) = w4 := ⟨_, rfl⟩
  have hs4 : w4.heap.size = w3.heap.size + 1 := by rw [← hw4]; simp
  have HI4 : Hid (SB w w4 P.length w.heap.size w1.heap.size (w.heap.size + 1) a m c (List.replicate P.length 0)) := by
    refine HI3.out.below ?_
    rw [← hw4]; exact box1 _ _
  have hb4 : w4.cell? ⟨w3.heap.size, 0, none⟩ = some (.slice va3 O.length vc3) := by rw [← hw4]; simp
  have HR4 : Hid (RdBut w4 w4.heap.size (w.heap.size + 1) va3 (intV (natI O))) := by
    intro h0
    rw [intV_natI_length] at h0
    obtain ⟨b, off, h1, h2, h3⟩ := (Rd.own HO3.out) (by rw [intV_natI_length]; exact h0)
    have h4 := (own_slice HO3.out)
    obtain ⟨_, _, e, _, _, hg⟩ := h4
    obtain ⟨g, hg1, hg2, _⟩ := hg h0
    have e1 : va3 = some ⟨g, 0, none⟩ := by injection e with e _ _; rw [e]; exact hg1
    have e2 : g = b := by rw [h1] at e1; injection e1 with e1; injection e1 with e1; exact e1.symm
    refine ⟨b, off, h1, by omega, by omega, fun j v hv => ?_⟩
    rw [← hw4, (box1 w3 _).cell (p := ⟨b, off + j, none⟩) h2]
    exact h3 j v hv
  rw [hw4]
  clear hw4 HI3 HO3
  refine rangeTold rfl (by omega) (gf := 34) (lb := #[.pointer (some ⟨w3.heap.size, 0, none⟩)]) rfl trivial (enters_of Try.func34 (by kernel_rfl) rfl)
    (encs := fun x : Nat × Nat => #[.int .i64 (x.1 : Int), .int .i64 (x.2 : Int)]) (G := fun pre x W => BackG O pre x) (Kp := KpS w4.heap.size (w.heap.size + 1)) (S := fun xs => xs.length = O.length) ?seq kpS_t ?kpb (fun _ => rfl)
    (fun pre W => ∃ S, SB w W P.length w.heap.size w1.heap.size (w.heap.size + 1) a m c S ∧ SzAll P O (O.length - pre.length) S ∧ w4.heap.size ≤ W.heap.size) ?iown (fun pre => ?gown) ?start
    (fun x => { tmps := #[.slice a m c, .pointer (some ⟨w.heap.size, 0, none⟩), .slice none 0 0, .pointer (some ⟨w1.heap.size, 0, none⟩), undef, .int .i64 (x.2 : Int), undef, undef, .slice a m c, .int .i64 (m : Int), .int .i64 (P.length : Int), .slice (some ⟨w.heap.size + 1, 0, none⟩) P.length P.length, .slice a m c, .slice va3 O.length vc3, .func (.func 34) #[] #[.pointer (some ⟨w3.heap.size, 0, none⟩)], .int .i64 (x.1 : Int), .int .i64 (x.2 : Int), undef, undef, undef, undef, undef, undef, undef, undef, undef, undef, undef, undef, undef, undef, undef, undef, undef, undef, undef, undef, undef, undef, undef, undef, undef], defers := [] }) ?assign ?body ?done
  case seq =>
    intro l J W hW hJ hY h0
    refine back1_in _ l w3.heap.size w4.heap.size (w.heap.size + 1) vc3 va3 O J W hJ hY h0 (by omega) (HR4.out.kept (kpS_b hW hW.size)) (by omega) (by omega) ?_
    exact (hW.cell (p := ⟨w3.heap.size, 0, none⟩) (by simp; omega)).trans hb4
  case kpb =>
    intro W l o o' hl' hk ho
    refine ⟨(grownBy_putObj' W l o').size, fun j hj hne => World.putObj_heap_other (by omega)⟩
  case iown =>
    rintro s X Y row ⟨S, h1, h2, h3⟩ hg hrow
    exact ⟨S, h1.own_from hg (fun r e => ⟨by have := (hrow r e).1; have := HI4.out.bw.size; omega, (hrow r e).2⟩), h2, Nat.le_trans h3 hg.size⟩
  case gown => exact fun s X Y row h hg hrow => h
  case start => exact ⟨_, HI4.out, fun j hj h => absurd hj (by simp at h; omega), Nat.le_refl _⟩
  case assign =>
    intro l x W K hK
    gi_wp2
    exact hK
  case body =>
    rintro l pre ⟨i, p⟩ W ⟨S, hS, hZ, hW⟩ ⟨hlen, hi, hp⟩
    dsimp only at hi hp
    have hil : i < O.length := by omega
    have hpO : O[i] = p := by rw [List.getElem?_eq_getElem hil] at hp; exact Option.some.inj hp
    have hpP : p < P.length := by rw [← hpO]; exact HL.out.lt _ (List.getElem_mem hil)
    obtain ⟨d, hd⟩ := lv_some hr hpP
    have hkl := kids_le P (p : Int)
    have HS := Lib.hid hS; have HZ := Lib.hid hZ
    have hSl := hS.len
    have c1 := hS.own.cellAt p (by omega)
    rw [intV_get (by omega)] at c1
    have f1 := hS.own.frozenAt p
    have b1 := hS.bk.cell
    have b2 := hS.bs.cell
    obtain ⟨HS1', hg1⟩ := hS.set p 1
    have HS1 := Lib.hid HS1'; have HG1 := Lib.hid hg1
    have b3 := HS1'.bk.cell
    have b4 := HS1'.bs.cell
    obtain ⟨b5, o5, ha5, hlt5, u5, c5, hc5w, hu5⟩ := HA.out.get (j := p + 1) (K := kidsL P (p : Int)) (by omega) (by show kidsL P (((p + 1 : Nat) : Int) - 1) = _; congr 1; omega)
    subst ha5
    have HU5 := Lib.hid hu5
    have hc5 := (HS1'.bw.cell (p := ⟨b5, o5 + (p + 1), none⟩) hlt5).trans hc5w
    clear hc5w
    obtain ⟨y, hy⟩ : ∃ y, p + 1 = y := ⟨_, rfl⟩
    rw [hy] at hc5
    have i3 : (p : Int) < (P.length : Int) := by omega
    have i4 : (0 : Int) ≤ (p : Int) := by omega
    have i5 : IntKind.i64.wrap ((p : Int) + 1) = (y : Int) := by rw [IntWalk.i64_in _ (by omega)]; omega
    have i6 : (y : Int) < (m : Int) := by omega
    have i7 : (0 : Int) ≤ (y : Int) := by omega
    have HI := Lib.hid hi
    clear hS hZ HS1' hg1 hu5 hi hp
    generalize S[p]'(by omega) = sp0 at c1
    gi_wp2_with fail
    gi_loopw [26] (fun i wr => ∃ j : Nat, j ≤ (kidsL P (p : Int)).length ∧ i = .int .i64 j ∧ SB w wr P.length w.heap.size w1.heap.size (w.heap.size + 1) (some ⟨b5, o5, none⟩) m c (S.set p ((szN P p d j : Nat) : Int)) ∧ W.grownBy wr (some (w.heap.size + 1))) (fun i _ => (kidsL P (p : Int)).length - (intOf i).toNat)
    case atStart => exact ⟨0, Nat.zero_le _, rfl, by rw [szN_zero]; exact HS1.out, HG1.out⟩
    clear c1 f1 b1 b2 b3 b4 hc5
    case round =>
      obtain ⟨j, hj, rfl, hS2, hg2⟩ := hrel
      have HS2 := Lib.hid hS2; have HG2 := Lib.hid hg2
      have hSl2 := hS2.len
      by_cases hlt : j < (kidsL P (p : Int)).length
      · obtain ⟨b6, o6, ha6, hlt6, hc6⟩ := (HU5.out.below hS2.bw).num (i := j) (by rw [natI_length]; exact hlt)
        rw [natI_get hlt] at hc6
        subst ha6
        obtain ⟨q, hq1, hq2, hq3⟩ := HL.out.behind hr hil (k := (kidsL P (p : Int))[j]) (by rw [hpO]; exact List.getElem_mem hlt)
        obtain ⟨s, hs1, hs2⟩ := HZ.out q hq2 (by have := HI.out; omega)
        rw [hq3] at hs1 hs2
        have HN := Lib.hid (szN_next hlt rfl hs2 hd)
        have hszl := szN_le hr hd (j + 1)
        have hkp := HL.out.lt _ (List.getElem_mem hq2)
        have hne : O[q] ≠ O[i] := fun e => by have := nd_at HL.out.nd hq2 hil e; omega
        rw [hq3, hpO] at hne
        rw [hq3] at hkp
        generalize hkk : (kidsL P (p : Int))[j] = k at *
        generalize szN P p d j = t at *
        obtain ⟨t1, ht1⟩ : ∃ t1, szN P p d (j + 1) = t1 := ⟨_, rfl⟩
        rw [ht1] at HN hszl
        have HT := Lib.hid ht1; clear ht1
        have c1 := hS2.own.cellAt p (by omega)
        rw [intV_get (by omega), List.getElem_set_self] at c1
        have c2 := hS2.own.cellAt k (by omega)
        have hkS : k < (S.set p (t : Int)).length := by rw [List.length_set]; omega
        have e2 : (S.set p (t : Int))[k]? = some (s : Int) := by rw [List.getElem?_set_ne (fun e => hne e.symm)]; exact hs1
        rw [intV_get hkS, (List.getElem?_eq_some_iff.1 e2).2] at c2
        have b1 := hS2.bs.cell
        have hl6 := hS2.lt
        have hl7 := hS2.bs.lt
        have j3 : (j : Int) < ((kidsL P (p : Int)).length : Int) := by omega
        have j4 : (0 : Int) ≤ (j : Int) := by omega
        have j5 : (k : Int) < (P.length : Int) := by omega
        have j6 : (0 : Int) ≤ (k : Int) := by omega
        have hn := HN.out
        have j7 : IntKind.i64.wrap ((t : Int) + (s : Int)) = (t1 : Int) := by rw [IntWalk.i64_in _ (by omega)]; omega
        clear hS2 hg2 hs1 hs2 hq1 e2 hn
        gi_wp2_with fail
        have hcg : ∀ d os m o, m < wr.heap.size → (grow (redrawn wr d) os).cell? ⟨m, o, none⟩ = wr.cell? ⟨m, o, none⟩ := fun d os m o h => (below_regrown wr d os).cell h
        refine wpIn_round_tail 9 (by kernel_rfl) (by kernel_rfl) (by kernel_rfl) (fun a w h => h) ?_
        simp only [List.take_succ_cons, List.take_zero, List.drop_succ_cons, List.drop_zero]
        iterate 9 (first | go_big_quiet_step (fail) | fail)
        refine wpQuiet_nil ?_
        intro W3 hw'
        obtain ⟨⟨d3, os⟩, hw''⟩ := hw'
        have hb3 := below_regrown wr d3 os
        rw [← hw''] at hb3
        clear hw'' hcg c1 c2 b1 hc6
        have HS3 := Lib.hid (HS2.out.below hb3)
        have HG3 := Lib.hid (grownBy_step HG2.out ⟨hb3.os, hb3.tape, hb3.output, hb3.size, fun i hi _ => hb3.block i hi⟩)
        have c1 := HS3.out.own.cellAt p (by omega)
        rw [intV_get (by omega), List.getElem_set_self] at c1
        have f1 := HS3.out.own.frozenAt p
        have HX3 := Lib.hid (HS3.out.set p (t1 : Int))
        rw [List.set_set] at HX3
        have HG4 := Lib.hid (grownBy_step HG3.out HX3.out.2)
        go_wp2_with fail
        gi_wp2_with fail
        exact ⟨⟨j + 1, by omega, by go_num, by rw [HT.out]; exact HX3.out.1, HG4.out⟩, by simp [intOf]; omega⟩
      · obtain rfl : j = (kidsL P (p : Int)).length := by omega
        have HF : Hid (SzAll P O (O.length - (pre ++ [(i, p)]).length) (S.set p ((szN P p d (kidsL P (p : Int)).length : Nat) : Int))) := by
          intro q hq hle
          rw [List.length_append] at hle
          have := HI.out
          by_cases e : q = i
          · subst e
            rw [hpO]
            exact ⟨_, by rw [List.getElem?_set_self (by omega)], szN_all hr hd⟩
          · have hne : O[q] ≠ p := fun e2 => e (nd_at HL.out.nd hq hil (e2.trans hpO.symm))
            obtain ⟨s, hs1, hs2⟩ := HZ.out q hq (by simp at hle; omega)
            exact ⟨s, by rw [List.getElem?_set_ne (fun e2 => hne e2.symm)]; exact hs1, hs2⟩
        have hW4 := hg2.size
        clear hS2 hg2
        gi_wp2_with fail
        exact ⟨KeepsFrom.of_grownBy HG2.out (fun j e => by injection e with e; omega), kpS_g HG2.out hW, _, HS2.out, HF.out, Nat.le_trans hW hW4⟩
  case done =>
    rintro D xs W hD hxs ⟨S, hS, hZ, hW⟩ hK
    have HS := Lib.hid hS; have HZ := Lib.hid hZ; have HK := Lib.hid hK
    have b2 := hS.bs.cell
    clear hS hZ hK
    gi_wp2_with fail
    refine ⟨by simp, .inl ⟨_, _, rfl, run_takeDeferred HK.out, ?_⟩⟩
    have HS5 : Hid (SB w (W.putObj D (.deferred none)) P.length w.heap.size w1.heap.size (w.heap.size + 1) a m c S) := by
      refine HS.out.own_from (grownBy_putObj' W D (.deferred none)) (fun r e => ?_)
      injection e with e
      subst e
      exact ⟨by omega, _, HK.out, rfl⟩
    refine ⟨_, results_tmp rfl _ _ _, w.heap.size + 1, S, rfl, HS5.out.lt.2, HS5.out.len, Rd.own HS5.out.own, fun k hk => ?_, HS5.out.bw⟩
    obtain ⟨j, hj, e⟩ := List.mem_iff_getElem.1 (HL.out.all hr k hk)
    subst e
    exact HZ.out j hj (by omega)
end Go.Proofs.Ytkjngmlebflffaa
