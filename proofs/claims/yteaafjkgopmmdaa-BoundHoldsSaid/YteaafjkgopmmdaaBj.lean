import Derived.Test.YteaafjkgopmmdaaBi
import Derived.Deep.QuietTactic
namespace Go.Proofs.Yteaafjkgopmmdaa
open Go Go.Shelf Go.RowKit Go.Sort
set_option linter.unusedVariables false

/-! The landed code's two spans of a pair (stage 12). -/
theorem setCell_same {w : World} {p : Addr} {v : Value} (h : w.cell? p = some v) : w.setCell p v = w := by
  obtain ⟨b, o, s⟩ := p
  unfold World.cell? at h
  unfold World.setCell
  cases hb : w.heap[b]? with
  | none => rw [hb] at h; cases h
  | some ob =>
    rw [hb] at h
    have hlt := (Array.getElem?_eq_some_iff.1 hb).1
    have key : w.heap.modify b (fun x => match x with
        | .cells c elem frozen => .cells (if s.isSome then c else c.setIfInBounds o v) elem frozen
        | o => o) = w.heap := by
      apply Array.ext_getElem?
      intro i
      rw [Array.getElem?_modify]
      split
      · rename_i e
        subst e
        rw [hb]
        cases ob with
        | cells c t f =>
          simp only at h
          cases s with
          | some _ => rfl
          | none =>
            simp only [Option.isSome_none, Bool.false_eq_true, if_false, Option.map_some] at h ⊢
            congr 2
            apply Array.ext_getElem?
            intro j
            rw [Array.getElem?_setIfInBounds]
            split
            · rename_i e; subst e; rw [h]; split
              · rfl
              · rename_i hno; exact absurd (Array.getElem?_eq_some_iff.1 h).1 hno
            · rfl
        | _ => rfl
      · rfl
    show ({ w with heap := _ } : World) = w
    rw [show ∀ h', h' = w.heap → ({ w with heap := h' } : World) = w from fun h' e => by subst e; rfl]
    exact key
theorem results_three {P : Program} {fn : Func} {p q u : Tmp} {ty ty' : TypeId} (h : fn.results = #[.cell p ty, .cell q ty', .tmp u]) {tmps : Array Value} {b c : Nat} (hp : tmps.getD p undef = .pointer (some ⟨b, 0, none⟩)) (hq : tmps.getD q undef = .pointer (some ⟨c, 0, none⟩)) {x : Value} (hu : tmps.getD u undef = x) {w : World} {v v' : Value}
    (hld : (loadVar ty ⟨b, 0, none⟩).run P w = .ok v w) (hld' : (loadVar ty' ⟨c, 0, none⟩).run P w = .ok v' w) : (results fn tmps).run P w = .ok (.tuple #[v, v', x]) w := by
  have hp' : tmps[p]?.getD undef = .pointer (some ⟨b, 0, none⟩) := by rw [← hp]; simp
  have hq' : tmps[q]?.getD undef = .pointer (some ⟨c, 0, none⟩) := by rw [← hq]; simp
  have hu' : tmps[u]?.getD undef = x := by rw [← hu]; simp
  simp [results, h, asAddr, hp', hq', hu', hld, hld']
theorem Box.set {w : World} {n : Nat} (s : Sp) (ht : w.there n 0 8) : Box (w.setCells n 0 s.c.toList) n s := by
  have h := World.rangeAt_setCells_same w n 0 s.c.toList ht
  refine ⟨?_, fun i hi => ?_⟩
  · have h0 := h 0 _ (by simp [Sp.c]; rfl)
    exact block_lt_of_cell h0
  · have hv : s.c.toList[i]? = s.c[i]? := by simp
    have hi' : i < s.c.toList.length := hi
    have := h i _ (List.getElem?_eq_getElem hi')
    rw [Nat.zero_add] at this
    rw [this, ← List.getElem?_eq_getElem hi', hv]
theorem Box.load {w : World} {n : Nat} {s : Sp} (h : Box w n s) : (loadVar 42 ⟨n, 0, none⟩).run Try.prog w = .ok s.v w :=
  run_loadVar_mid (P := Try.prog) _ n 0 42 s.c.toList _ (fun j v hv => by
    have hj : j < 8 := (List.getElem?_eq_some_iff.1 hv).1
    rw [Nat.zero_add, h.2 j hj, ← hv]; simp) Try.underlying42 rfl (by kernel_rfl)
theorem there_frozen {w : World} {n : Nat} (h : w.there n 0 8) : w.frozen? ⟨n, 0, none⟩ = false ∧ w.frozen? ⟨n, 1, none⟩ = false ∧ w.frozen? ⟨n, 2, none⟩ = false ∧ w.frozen? ⟨n, 3, none⟩ = false ∧ w.frozen? ⟨n, 4, none⟩ = false ∧ w.frozen? ⟨n, 5, none⟩ = false ∧ w.frozen? ⟨n, 6, none⟩ = false ∧ w.frozen? ⟨n, 7, none⟩ = false :=
  ⟨(h 0 (by omega)).2, (h 1 (by omega)).2, (h 2 (by omega)).2, (h 3 (by omega)).2, (h 4 (by omega)).2, (h 5 (by omega)).2, (h 6 (by omega)).2, (h 7 (by omega)).2⟩
/-- A store of what lies there leaves the world as it is. -/
theorem Box.again {w : World} {n : Nat} {s : Sp} (h : Box w n s) : ∀ d i, ∀ hi : i < 8, (w.drewN d).setCell ⟨n, i, none⟩ (s.c[i]'hi) = w.drewN d := fun d i hi =>
  setCell_same (by rw [World.cell?_drewN, h.2 i hi]; exact Array.getElem?_eq_getElem (show i < s.c.size from hi))
theorem Box.agains {w : World} {n : Nat} {s : Sp} (h : Box w n s) : (∀ d, (w.drewN d).setCell ⟨n, 0, none⟩ (.int .u64 s.trace) = w.drewN d) ∧ (∀ d, (w.drewN d).setCell ⟨n, 1, none⟩ (.int .u64 s.id) = w.drewN d) ∧ (∀ d, (w.drewN d).setCell ⟨n, 2, none⟩ (.int .u64 s.parent) = w.drewN d) ∧ (∀ d, (w.drewN d).setCell ⟨n, 3, none⟩ (.int .u8 s.kind) = w.drewN d) ∧ (∀ d, (w.drewN d).setCell ⟨n, 4, none⟩ (.string s.host) = w.drewN d) ∧ (∀ d, (w.drewN d).setCell ⟨n, 5, none⟩ (.string s.name) = w.drewN d) ∧ (∀ d, (w.drewN d).setCell ⟨n, 6, none⟩ (.int .i64 s.start) = w.drewN d) ∧ (∀ d, (w.drewN d).setCell ⟨n, 7, none⟩ (.int .i64 s.dur) = w.drewN d) :=
  ⟨fun d => h.again d 0 (by omega), fun d => h.again d 1 (by omega), fun d => h.again d 2 (by omega), fun d => h.again d 3 (by omega), fun d => h.again d 4 (by omega), fun d => h.again d 5 (by omega), fun d => h.again d 6 (by omega), fun d => h.again d 7 (by omega)⟩
def bothV (L : List Sp) (p : Pr) : Value := .tuple #[(orZ (findL L p.client)).v, (orZ (findL L p.server)).v, .bool ((findL L p.client).isSome && (findL L p.server).isSome)]
set_option maxHeartbeats 8000000 in
theorem both_any (pb : Nat) (a : Option Addr) (c : Nat) (L : List Sp) (p : Pr) (w : World) (hpb : pb < w.heap.size) (hc : w.cell? ⟨pb, 0, none⟩ = some (.slice a L.length c)) (ha : Rd w w.heap.size a (flatL L)) (hl : L.length ≤ 100000) (hok : ∀ s ∈ L, s.Ok) :
    Calls Try.prog 34 #[p.v, .func (.func 40) #[] #[.pointer (some ⟨pb, 0, none⟩)]] w fun e w' => e = .returned (bothV L p) ∧ Below w.heap.size w w' := by
  have HA := Lib.hid ha; have HOK := Lib.hid hok; have HC := Lib.hid hc; clear ha hok hc
  obtain ⟨x, y⟩ := p
  obtain ⟨s, hs⟩ : ∃ s, s = orZ (findL L x) := ⟨_, rfl⟩
  obtain ⟨t, ht⟩ : ∃ t, t = orZ (findL L y) := ⟨_, rfl⟩
  obtain ⟨bx, hbx⟩ : ∃ b, b = (findL L x).isSome := ⟨_, rfl⟩
  obtain ⟨by_, hby⟩ : ∃ b, b = (findL L y).isSome := ⟨_, rfl⟩
  have HX := Lib.hid hs; have HY := Lib.hid ht; have HXB := Lib.hid hbx; have HYB := Lib.hid hby
  have HE : Hid (bothV L ⟨x, y⟩ = .tuple #[s.v, t.v, .bool (bx && by_)]) := by show _ = _; rw [hs, ht, hbx, hby]; rfl
  clear hs ht hbx hby
  simp only [Pr.v]
  -- the worlds
  have HB0 := Lib.hid (box1 w (.cells #[.int .i64 x, .int .i64 y] 35))
  have HS0 : Hid ((w.alloc (.cells #[.int .i64 x, .int .i64 y] 35)).heap.size = w.heap.size + 1) := by show _ = _; simp
  obtain ⟨V, hV⟩ : ∃ V, V = w.alloc (.cells #[.int .i64 x, .int .i64 y] 35) := ⟨_, rfl⟩
  have HV := Lib.hid hV
  have HVX : Hid (V.cell? ⟨w.heap.size, 0, none⟩ = some (.int .i64 x) ∧ V.cell? ⟨w.heap.size, 1, none⟩ = some (.int .i64 y)) := by
    show _ ∧ _; rw [hV]; exact ⟨by simp, by simp⟩
  rw [← hV] at HB0 HS0
  obtain ⟨W0, hW0⟩ : ∃ W0, W0 = (V.alloc (.cells zSp.c 42)).alloc (.cells zSp.c 42) := ⟨_, rfl⟩
  have HBV0 : Hid (Below V.heap.size V W0) := by show Below _ _ _; rw [hW0]; exact (box1 V _).alloc (by simp) _
  have HS1 : Hid (W0.heap.size = w.heap.size + 3) := by show _ = _; rw [hW0]; simp [HS0.out]
  have HT1 : Hid (W0.there (w.heap.size + 1) 0 8) := by show W0.there _ _ _; rw [hW0]; exact World.there_alloc (there_last _ _ _ _ _ rfl (by rw [HS0.out])) _
  have HT2 : Hid (W0.there (w.heap.size + 1 + 1) 0 8) := by show W0.there _ _ _; rw [hW0]; exact there_last _ _ _ _ _ rfl (by simp [HS0.out])
  have HX1 : Hid (Box W0 (w.heap.size + 1) zSp) := by show Box _ _ _; rw [hW0]; exact (Box.at_ V zSp _ _ (by rw [HS0.out])).below (box1 _ _) (by simp [HS0.out])
  have HX2 : Hid (Box W0 (w.heap.size + 1 + 1) zSp) := by show Box _ _ _; rw [hW0]; exact Box.at_ _ zSp _ _ (by simp [HS0.out])
  obtain ⟨q0, q1⟩ := HVX.out
  have hp0 : W0.cell? ⟨w.heap.size, 0, none⟩ = some (.int .i64 x) := (HBV0.out.cell (p := ⟨w.heap.size, 0, none⟩) (by rw [HS0.out]; simp)).trans q0
  have hp1 : W0.cell? ⟨w.heap.size, 1, none⟩ = some (.int .i64 y) := (HBV0.out.cell (p := ⟨w.heap.size, 1, none⟩) (by rw [HS0.out]; simp)).trans q1
  clear q0 q1
  have HBW0 := Lib.hid (bel2 HB0.out HBV0.out)
  simp only [Sp.c, zSp] at hW0
  have HP0 := Lib.hid hp0; have HP1 := Lib.hid hp1; clear hp0 hp1
  go_enter Try.func34, Try.ntmps34
  go_wp2_with fail
  rw [← hV, ← hW0]
  clear hV hW0
  refine (find_any pb a c L x W0 (by have := HS1.out; omega) ((HBW0.out.cell (p := ⟨pb, 0, none⟩) hpb).trans HC.out) ((HA.out.below HBW0.out).more HBW0.out.size) hl HOK.out).mono ?_
  rw [← HX.out, ← HXB.out]
  rintro e w4 ⟨rfl, hb4⟩
  simp only [Sp.v]
  have HT14 := Lib.hid (there_below HT1.out hb4 (by rw [HS1.out]; omega))
  have HT24 := Lib.hid (there_below HT2.out hb4 (by rw [HS1.out]; omega))
  have HX14 := Lib.hid (HX1.out.below hb4 (by rw [HS1.out]; omega))
  have HX24 := Lib.hid (HX2.out.below hb4 (by rw [HS1.out]; omega))
  have HBV4 := Lib.hid (HBV0.out.trans (hb4.mono HBV0.out.size))
  clear hb4
  obtain ⟨fz0, fz1, fz2, fz3, fz4, fz5, fz6, fz7⟩ := there_frozen HT14.out
  obtain ⟨cz0, cz1, cz2, cz3, cz4, cz5, cz6, cz7⟩ := HX14.out.all
  go_upto_region 2 with fail
  clear fz0 fz1 fz2 fz3 fz4 fz5 fz6 fz7 cz0 cz1 cz2 cz3 cz4 cz5 cz6 cz7
  obtain ⟨W5, hW5⟩ : ∃ W5, W5 = w4.setCells (w.heap.size + 1) 0 s.c.toList := ⟨_, rfl⟩
  have hch : W5 = ((((((((w4.setCell ⟨w.heap.size + 1, 0, none⟩ (.int .u64 s.trace)).setCell ⟨w.heap.size + 1, 1, none⟩ (.int .u64 s.id)).setCell ⟨w.heap.size + 1, 2, none⟩ (.int .u64 s.parent)).setCell ⟨w.heap.size + 1, 3, none⟩ (.int .u8 s.kind)).setCell ⟨w.heap.size + 1, 4, none⟩ (.string s.host)).setCell ⟨w.heap.size + 1, 5, none⟩ (.string s.name)).setCell ⟨w.heap.size + 1, 6, none⟩ (.int .i64 s.start)).setCell ⟨w.heap.size + 1, 7, none⟩ (.int .i64 s.dur)) := by rw [hW5]; rfl
  rw [← hch]
  clear hch
  have HX15 : Hid (Box W5 (w.heap.size + 1) s) := by show Box _ _ _; rw [hW5]; exact Box.set s HT14.out
  have HT15 : Hid (W5.there (w.heap.size + 1) 0 8) := by show W5.there _ _ _; rw [hW5]; exact World.there_setCells HT14.out _ _ _
  have HT25 : Hid (W5.there (w.heap.size + 1 + 1) 0 8) := by show W5.there _ _ _; rw [hW5]; exact World.there_setCells HT24.out _ _ _
  have HBV5 : Hid (Below V.heap.size V W5) := by show Below _ _ _; rw [hW5]; exact Below_setCells (by rw [HS0.out]; omega) _ 0 _ HBV4.out
  have HX25 : Hid (Box W5 (w.heap.size + 1 + 1) zSp) := by
    show Box _ _ _; rw [hW5]
    refine ⟨Nat.lt_of_lt_of_le HX24.out.1 (Below_setCells (B := 0) (Nat.zero_le _) _ 0 _ (Below.refl 0 w4)).size, fun i hi => ?_⟩
    rw [World.cell?_setCells_out _ _ _ _ _ (fun h _ => absurd h (by show ¬ _; simp)), HX24.out.2 i hi]
  have HBW5 := Lib.hid (bel2 HB0.out HBV5.out)
  clear hW5
  have hq1 : W5.cell? ⟨w.heap.size, 1, none⟩ = some (.int .i64 y) := (HBV5.out.cell (p := ⟨w.heap.size, 1, none⟩) (by rw [HS0.out]; simp)).trans HVX.out.2
  go_wp2_with fail
  refine (find_any pb a c L y W5 (Nat.lt_of_lt_of_le hpb HBW5.out.size) ((HBW5.out.cell (p := ⟨pb, 0, none⟩) hpb).trans HC.out) ((HA.out.below HBW5.out).more HBW5.out.size) hl HOK.out).mono ?_
  rw [← HY.out, ← HYB.out]
  rintro e w6 ⟨rfl, hb6⟩
  simp only [Sp.v]
  clear hq1
  have HT16 := Lib.hid (there_below HT15.out hb6 HX15.out.1)
  have HT26 := Lib.hid (there_below HT25.out hb6 HX25.out.1)
  have HX16 := Lib.hid (HX15.out.below hb6 HX15.out.1)
  have HX26 := Lib.hid (HX25.out.below hb6 HX25.out.1)
  have HBW6 := Lib.hid (bel2 HBW5.out hb6)
  clear hb6
  obtain ⟨fz0, fz1, fz2, fz3, fz4, fz5, fz6, fz7⟩ := there_frozen HT26.out
  obtain ⟨cz0, cz1, cz2, cz3, cz4, cz5, cz6, cz7⟩ := HX26.out.all
  go_upto_region 3 with fail
  clear fz0 fz1 fz2 fz3 fz4 fz5 fz6 fz7 cz0 cz1 cz2 cz3 cz4 cz5 cz6 cz7
  obtain ⟨W7, hW7⟩ : ∃ W7, W7 = w6.setCells (w.heap.size + 1 + 1) 0 t.c.toList := ⟨_, rfl⟩
  have hch : W7 = ((((((((w6.setCell ⟨w.heap.size + 1 + 1, 0, none⟩ (.int .u64 t.trace)).setCell ⟨w.heap.size + 1 + 1, 1, none⟩ (.int .u64 t.id)).setCell ⟨w.heap.size + 1 + 1, 2, none⟩ (.int .u64 t.parent)).setCell ⟨w.heap.size + 1 + 1, 3, none⟩ (.int .u8 t.kind)).setCell ⟨w.heap.size + 1 + 1, 4, none⟩ (.string t.host)).setCell ⟨w.heap.size + 1 + 1, 5, none⟩ (.string t.name)).setCell ⟨w.heap.size + 1 + 1, 6, none⟩ (.int .i64 t.start)).setCell ⟨w.heap.size + 1 + 1, 7, none⟩ (.int .i64 t.dur)) := by rw [hW7]; rfl
  rw [← hch]
  clear hch
  have HX27 : Hid (Box W7 (w.heap.size + 1 + 1) t) := by show Box _ _ _; rw [hW7]; exact Box.set t HT26.out
  have HT17 : Hid (W7.there (w.heap.size + 1) 0 8) := by show W7.there _ _ _; rw [hW7]; exact World.there_setCells HT16.out _ _ _
  have HT27 : Hid (W7.there (w.heap.size + 1 + 1) 0 8) := by show W7.there _ _ _; rw [hW7]; exact World.there_setCells HT26.out _ _ _
  have HBW7 : Hid (Below w.heap.size w W7) := by show Below _ _ _; rw [hW7]; exact Below_setCells (by omega) _ 0 _ HBW6.out
  have HX17 : Hid (Box W7 (w.heap.size + 1) s) := by
    show Box _ _ _; rw [hW7]
    refine ⟨Nat.lt_of_lt_of_le HX16.out.1 (Below_setCells (B := 0) (Nat.zero_le _) _ 0 _ (Below.refl 0 w6)).size, fun i hi => ?_⟩
    rw [World.cell?_setCells_out _ _ _ _ _ (fun h _ => absurd h (by show ¬ _; simp)), HX16.out.2 i hi]
  clear hW7
  obtain ⟨fa0, fa1, fa2, fa3, fa4, fa5, fa6, fa7⟩ := there_frozen HT17.out
  obtain ⟨fb0, fb1, fb2, fb3, fb4, fb5, fb6, fb7⟩ := there_frozen HT27.out
  obtain ⟨ca0, ca1, ca2, ca3, ca4, ca5, ca6, ca7⟩ := HX17.out.all
  obtain ⟨cb0, cb1, cb2, cb3, cb4, cb5, cb6, cb7⟩ := HX27.out.all
  obtain ⟨sa0, sa1, sa2, sa3, sa4, sa5, sa6, sa7⟩ := HX17.out.agains
  obtain ⟨sb0, sb1, sb2, sb3, sb4, sb5, sb6, sb7⟩ := HX27.out.agains
  cases bx with
  | false =>
    refine wp_region_quiet_lit (by kernel_rfl) (by kernel_rfl) ?_
    iterate 9 (go_big_quiet_step (fail))
    refine wpQuiet_nil ?_
    rintro w8 ⟨n8, rfl⟩
    clear fa0 fa1 fa2 fa3 fa4 fa5 fa6 fa7 fb0 fb1 fb2 fb3 fb4 fb5 fb6 fb7 ca0 ca1 ca2 ca3 ca4 ca5 ca6 ca7 cb0 cb1 cb2 cb3 cb4 cb5 cb6 cb7 sa0 sa1 sa2 sa3 sa4 sa5 sa6 sa7 sb0 sb1 sb2 sb3 sb4 sb5 sb6 sb7
    go_wp2_with fail
    refine bodyPost_ret (v := .tuple #[s.v, t.v, .bool (false)]) (results_three (p := 4) (q := 5) (u := 6) (ty := 42) (ty' := 42) (b := w.heap.size + 1) (c := w.heap.size + 1 + 1) (x := .bool (false)) rfl rfl rfl rfl (Box.load ⟨HX17.out.1, fun i hi => HX17.out.2 i hi⟩) (Box.load ⟨HX27.out.1, fun i hi => HX27.out.2 i hi⟩)) rfl ?_
    exact ⟨by rw [HE.out]; rfl, Below_drewN HBW7.out _⟩
  | true =>
    refine wp_region_quiet_lit (by kernel_rfl) (by kernel_rfl) ?_
    iterate 9 (go_big_quiet_step (fail))
    refine wpQuiet_nil ?_
    rintro w8 ⟨n8, rfl⟩
    clear fa0 fa1 fa2 fa3 fa4 fa5 fa6 fa7 fb0 fb1 fb2 fb3 fb4 fb5 fb6 fb7 ca0 ca1 ca2 ca3 ca4 ca5 ca6 ca7 cb0 cb1 cb2 cb3 cb4 cb5 cb6 cb7 sa0 sa1 sa2 sa3 sa4 sa5 sa6 sa7 sb0 sb1 sb2 sb3 sb4 sb5 sb6 sb7
    go_wp2_with fail
    refine bodyPost_ret (v := .tuple #[s.v, t.v, .bool (by_)]) (results_three (p := 4) (q := 5) (u := 6) (ty := 42) (ty' := 42) (b := w.heap.size + 1) (c := w.heap.size + 1 + 1) (x := .bool (by_)) rfl rfl rfl rfl (Box.load ⟨HX17.out.1, fun i hi => HX17.out.2 i hi⟩) (Box.load ⟨HX27.out.1, fun i hi => HX27.out.2 i hi⟩)) rfl ?_
    exact ⟨by rw [HE.out]; rfl, Below_drewN HBW7.out _⟩
end Go.Proofs.Yteaafjkgopmmdaa

