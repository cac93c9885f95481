import Derived.Test.YthfhmohbfoolnaaFd
namespace Go.Proofs.Ythfhmohbfoolnaa
open Go Go.RowKit

theorem size_fs : (Try.prog.info? 28).map (·.size) = some 3 := by kernel_rfl
theorem load_fs (W : World) (b : Nat) (cs : Array Value) (ht : W.there b 0 cs.size) (hc : cs.size = 3 := by rfl) : (loadVar 28 ⟨b, 0, none⟩).run Try.prog (W.setCells b 0 cs.toList) = .ok (.agg cs) (W.setCells b 0 cs.toList) :=
  run_loadVar_mid (P := Try.prog) _ b 0 28 _ _ (World.rangeAt_setCells_same W b 0 cs.toList ht) Try.underlying28 rfl (by rw [size_fs]; simp [hc])
theorem own_sets {base size n b : Nat} {e : TypeId} {v : Value} {xs : List Value} : ∀ {w : World} (_ : w.ownsRow base e size v n xs) (_ : b < base) (us : List Value) (o : Nat), (w.setCells b o us).ownsRow base e size v n xs
  | _, h, _, [], _ => h
  | _, h, hb, _ :: us, o => own_sets (own_set h hb o) hb us (o + 1)
theorem keep_app {w w8 ow : World} {row : Value} {base size n : Nat} {e : TypeId} {xs : List Value} {b g o : Nat} {v0 v1 v2 v3 v4 v5 : Value} (hg : w.grownBy w8 row.ownBlock) (ho : ow.ownsRow base e size row n xs) (hb : b < w.heap.size) (hgl : g < w.heap.size) (hbb : b < base) (hgb : g < base)
    (c : w.cell? ⟨b, 0, none⟩ = some v0) (c1 : w.cell? ⟨g, o, none⟩ = some v1) (c2 : w.cell? ⟨g, o + 1, none⟩ = some v2) (c3 : w.cell? ⟨g, o + 2, none⟩ = some v3) (c4 : w.cell? ⟨g, o + 3, none⟩ = some v4) (c5 : w.cell? ⟨g, o + 4, none⟩ = some v5) (f : w.frozen? ⟨b, 0, none⟩ = false) :
    w8.cell? ⟨b, 0, none⟩ = some v0 ∧ w8.cell? ⟨g, o, none⟩ = some v1 ∧ w8.cell? ⟨g, o + 1, none⟩ = some v2 ∧ w8.cell? ⟨g, o + 2, none⟩ = some v3 ∧ w8.cell? ⟨g, o + 3, none⟩ = some v4 ∧ w8.cell? ⟨g, o + 4, none⟩ = some v5 ∧ w8.frozen? ⟨b, 0, none⟩ = false := by
  have n1 : some b ≠ row.ownBlock := own_ne ho (.inr hbb)
  have n2 : some g ≠ row.ownBlock := own_ne ho (.inr hgb)
  exact ⟨(hg.cell_far ⟨b, 0, none⟩ hb n1).trans c, (hg.cell_far ⟨g, o, none⟩ hgl n2).trans c1, (hg.cell_far ⟨g, o + 1, none⟩ hgl n2).trans c2, (hg.cell_far ⟨g, o + 2, none⟩ hgl n2).trans c3, (hg.cell_far ⟨g, o + 3, none⟩ hgl n2).trans c4, (hg.cell_far ⟨g, o + 4, none⟩ hgl n2).trans c5, (hg.frozen_far ⟨b, 0, none⟩ hb n1).trans f⟩
set_option maxRecDepth 20000 in
set_option maxHeartbeats 8000000 in
theorem put_fs (a : Option Addr) (c : Nat) (L : List Fl) (fu : Int) (dn : Bool) (x : Fl) (w : World) (hr : Rd w w.heap.size a (flF L)) (hl : L.length ≤ 1000000000) :
    Calls Try.prog 53 #[fsv a L.length c fu dn, x.v] w (FsOut w ⟨putF L x, fu, dn⟩) := by
  have HR := Lib.hid hr; clear hr
  obtain ⟨i0, hi0, hz0, hz1, hz2⟩ := info_parts info_fl
  have HZ2 := Lib.hid hz2; clear hz2
  unfold fsv Fl.v
  go_enter Try.func53, Try.ntmps53
  go_wp2_with fail
  obtain ⟨W3, hW3⟩ : ∃ W3, W3 = (((w.alloc (.cells #[.slice a L.length c, .int .i64 fu, .bool dn] 28)).alloc (.cells #[.int .u32 (x.n : Int), .bool x.there, .bool x.kept, .string x.now, .string x.safe] 85)).alloc (.cells #[.slice none 0 0, .int .i64 0, .bool false] 28)) := ⟨_, rfl⟩
  rw [← hW3]
  have HS3 : Hid (W3.heap.size = w.heap.size + 3) := by show _ = _; rw [hW3]; simp
  have HB3 : Hid (Below w.heap.size w W3) := by show Below _ _ _; rw [hW3]; exact ((box1 w _).alloc (by simp) _).alloc (by simp; omega) _
  have HC0 : Hid (W3.cell? ⟨w.heap.size, 0, none⟩ = some (.slice a L.length c)) := by show _ = _; rw [hW3]; go_simp
  have HC1 : Hid (W3.cell? ⟨w.heap.size, 1, none⟩ = some (.int .i64 fu)) := by show _ = _; rw [hW3]; go_simp
  have HC2 : Hid (W3.cell? ⟨w.heap.size, 2, none⟩ = some (.bool dn)) := by show _ = _; rw [hW3]; go_simp
  have HFZ : Hid (W3.there w.heap.size 0 3) := by
    show W3.there _ _ _; rw [hW3]
    exact World.there_alloc (World.there_alloc (there_last w #[.slice a L.length c, .int .i64 fu, .bool dn] 28 _ 3 rfl rfl) _) _
  have HRES : Hid (W3.there (w.heap.size + 1 + 1) 0 3) := by
    show W3.there _ _ _; rw [hW3]
    exact there_last _ #[.slice none 0 0, .int .i64 0, .bool false] 28 _ 3 rfl (by simp)
  have HX3 : Hid (FlAt W3 (w.heap.size + 1) 0 x) := by
    show FlAt _ _ _ _; rw [hW3]
    exact (FlAt.new _ x 85 _ (by simp)).alloc _
  have HR3 : Hid (Rd W3 w.heap.size a (flF L)) := HR.out.below HB3.out
  have hs3 : W3.heap.size = w.heap.size + 1 + 1 + 1 := HS3.out
  rw [← hs3]
  obtain ⟨B, hB⟩ : ∃ B, B = W3.heap.size := ⟨_, rfl⟩
  rw [← hB]
  have HBS : Hid (B = W3.heap.size) := hB
  have HBW : Hid (B = w.heap.size + 3) := by show _ = _; rw [hB]; exact HS3.out
  clear hW3 hs3 hB
  go_loopw [5, 6, 7] (fun v ld i wr => ∃ (k : Nat) (acc : List Fl) (l : Bool), k ≤ L.length ∧ i = .int .i64 k ∧ ld = .bool l ∧ walkF x (L.take k) = (acc, l) ∧ wr.ownsRow B 85 5 v acc.length (flF acc) ∧ RowKit.Below B W3 wr) (fun _ _ i _ => L.length - (intOf i).toNat)
  case atStart =>
    refine ⟨0, [], false, Nat.zero_le _, rfl, rfl, rfl, ?_, by rw [HBS.out]; exact (Below.refl _ _).alloc (Nat.le_refl _) _⟩
    have h := World.ownsRow_made (base := B) (e := 85) (size := 5) W3 #[] 0 (by rw [HBS.out]; exact Nat.le_refl _) (by decide) rfl
    rw [← HBS.out] at h
    exact h
  case round =>
    obtain ⟨k, acc, l, hk, rfl, rfl, hwk, hown, hbw⟩ := hrel
    have hal : acc.length ≤ k + 1 := by
      have h := walkF_le x L k hk
      rw [hwk] at h; simp only at h; split at h <;> omega
    have HO := Lib.hid hown; have HW := Lib.hid hbw; have HAL := Lib.hid hal; have HWK := Lib.hid hwk; clear hown hbw hal hwk
    have HSZ : Hid (B ≤ wr.heap.size) := by show _ ≤ _; have := HW.out.size; rw [← HBS.out] at this; exact this
    have hc0 : wr.cell? ⟨w.heap.size, 0, none⟩ = some (.slice a L.length c) := by rw [HW.out.cell (p := ⟨w.heap.size, 0, none⟩) (by show w.heap.size < B; rw [HBW.out]; omega)]; exact HC0.out
    have HXR : Hid (FlAt wr (w.heap.size + 1) 0 x) := HX3.out.below HW.out (by rw [HBW.out]; omega)
    have n0 : w.heap.size < wr.heap.size := by have := HSZ.out; have := HBW.out; omega
    have n1 : w.heap.size + 1 < wr.heap.size := by have := HSZ.out; have := HBW.out; omega
    by_cases hlt : k < L.length
    · obtain ⟨b, off, ha, hbl, e0, e1, e2, e3, e4⟩ := flF_elem (HR3.out.below ((HW.out.mono (by rw [HBW.out]; omega)))) hlt
      subst ha
      have i1 : (0 : Int) ≤ (k : Int) := by omega
      have i2 : (k : Int) < (L.length : Int) := by omega
      have HT : Hid (walkF x (L.take (k + 1)) = stepF x (acc, l) L[k]) := by show _ = _; rw [walkF_succ hlt, HWK.out]
      generalize L[k] = y at *
      obtain ⟨d0, d1, d2, d3, d4⟩ := HXR.out
      have HY : Hid (FlAt (wr.alloc (.cells y.c 85)) wr.heap.size 0 y) := FlAt.new _ _ _ _ rfl
      by_cases hn : y.n = x.n
      · have hgn : ¬ x.n < y.n := by omega
        have hgt : decide (x.n < y.n) = false := decide_eq_false hgn
        have hne : ((y.n : Int) != (x.n : Int)) = false := by simp [hn]
        have HST : Hid (stepF x (acc, l) y = (acc, l)) := by
          show _ = _
          have : ¬ x.n < y.n := by omega
          simp [stepF, hn]
        clear hn
        go_wp2_with fail
        go_roundw
        case rel => exact ⟨k + 1, acc, l, by omega, by go_num, rfl, by rw [HT.out, HST.out], HO.out.alloc _, HW.out.alloc HSZ.out _⟩
        case measure => simp [intOf]; omega
      · have hne : ((y.n : Int) != (x.n : Int)) = true := by simp; omega
        by_cases hlt' : x.n < y.n
        · have hgt : decide (x.n < y.n) = true := decide_eq_true hlt'
          cases l
          · have HST : Hid (stepF x (acc, false) y = (acc ++ [x] ++ [y], true)) := by
              show _ = _
              simp [stepF, hn, hlt']
            clear hn
            go_wp2_with (first
              | (at_builtin; (refine wpList_append_rd _ rfl (.tmp 32) (.tmp 34) 26 (by rfl) B 85 i0 _ 5 40 Try.underlying26 hi0 hz0 hz1 HZ2.out rfl (by omega) u5 acc.length _ (by rfl) ((HO.out.alloc _).alloc _) _ _ 1 1 (flF [x]) (by rfl) rfl (lit_at (wr.alloc (.cells y.c 85)) x.c _ _ (by simp)) (flF_one _) (by have := HAL.out; unfold maxLen; omega) (by have := HAL.out; omega) (by have := HSZ.out; simp; omega) ?_)
                 intro v8 w8 hown8 hg8 _
                 have hb8 := Below.of_grown ((HW.out.alloc HSZ.out (.cells y.c 85)).alloc (by have := HSZ.out; simp; omega) (.cells x.c 85)) hg8 (by have := HSZ.out; simp; omega) (fun g h => (own_shape HO.out h).1)
                 have hy8 := (HY.out.alloc (.cells x.c 85)).grown hg8 (by simp; omega) (own_ne HO.out (.inl (Nat.le_refl _)))
                 have hx8 := FlAt.below HX3.out hb8 (by rw [HBW.out]; omega)
                 have HO8 := Lib.hid hown8; have HB8 := Lib.hid hb8; clear hown8 hg8 hb8
                 obtain ⟨f0, f1, f2, f3, f4⟩ := hy8
                 obtain ⟨g0, g1, g2, g3, g4⟩ := hx8)
              | (refine wpList_append_rd _ rfl (.tmp 41) (.tmp 43) 26 (by rfl) B 85 i0 _ 5 40 Try.underlying26 hi0 hz0 hz1 HZ2.out rfl (by omega) v8 (acc.length + 1) _ (by rfl) (HO8.out.alloc _) _ _ 1 1 (flF [y]) (by rfl) rfl (lit_at w8 y.c _ _ (by simp)) (flF_one _) (by have := HAL.out; unfold maxLen; omega) (by have := HAL.out; omega) (by have := HB8.out.size; rw [← HBS.out] at this; simp; omega) ?_
                 intro v9 w9 hown9 hg9 _
                 have hb9 := Below.of_grown (HB8.out.alloc (by have := HB8.out.size; rw [← HBS.out] at this; exact this) (.cells y.c 85)) hg9 (by have := HB8.out.size; rw [← HBS.out] at this; simp; omega) (fun g h => (own_shape HO8.out h).1)
                 have HO9 := Lib.hid hown9; have HB9 := Lib.hid hb9; clear hown9 hg9 hb9))
            go_roundw
            case rel => exact ⟨k + 1, acc ++ [x] ++ [y], true, by omega, by go_num, rfl, by rw [HT.out, HST.out], by rw [flF_append, flF_append, List.length_append, List.length_append]; exact HO9.out, HB9.out⟩
            case measure => simp [intOf]; omega
          · have HST : Hid (stepF x (acc, true) y = (acc ++ [y], true)) := by
              show _ = _
              simp [stepF, hn]
            clear hn
            go_wp2_with (at_builtin; refine wpList_append_rd _ rfl (.tmp 41) (.tmp 43) 26 (by rfl) B 85 i0 _ 5 40 Try.underlying26 hi0 hz0 hz1 HZ2.out rfl (by omega) u5 acc.length _ (by rfl) ((HO.out.alloc _).alloc _) _ _ 1 1 (flF [y]) (by rfl) rfl (lit_at (wr.alloc (.cells y.c 85)) y.c _ _ (by simp)) (flF_one _) (by have := HAL.out; unfold maxLen; omega) (by have := HAL.out; omega) (by have := HSZ.out; simp; omega) ?_
                         intro v9 w9 hown9 hg9 _
                         have hb9 := Below.of_grown ((HW.out.alloc HSZ.out (.cells y.c 85)).alloc (by have := HSZ.out; simp; omega) (.cells y.c 85)) hg9 (by have := HSZ.out; simp; omega) (fun g h => (own_shape HO.out h).1)
                         have HO9 := Lib.hid hown9; have HB9 := Lib.hid hb9; clear hown9 hg9 hb9)
            go_roundw
            case rel => exact ⟨k + 1, acc ++ [y], true, by omega, by go_num, rfl, by rw [HT.out, HST.out], by rw [flF_append, List.length_append]; exact HO9.out, HB9.out⟩
            case measure => simp [intOf]; omega
        · have hgt : decide (x.n < y.n) = false := decide_eq_false hlt'
          have HST : Hid (stepF x (acc, l) y = (acc ++ [y], l)) := by
            show _ = _
            simp [stepF, hn, hlt']
          clear hn
          go_wp2_with (at_builtin; refine wpList_append_rd _ rfl (.tmp 41) (.tmp 43) 26 (by rfl) B 85 i0 _ 5 40 Try.underlying26 hi0 hz0 hz1 HZ2.out rfl (by omega) u5 acc.length _ (by rfl) ((HO.out.alloc _).alloc _) _ _ 1 1 (flF [y]) (by rfl) rfl (lit_at (wr.alloc (.cells y.c 85)) y.c _ _ (by simp)) (flF_one _) (by have := HAL.out; unfold maxLen; omega) (by have := HAL.out; omega) (by have := HSZ.out; simp; omega) ?_
                       intro v9 w9 hown9 hg9 _
                       have hb9 := Below.of_grown ((HW.out.alloc HSZ.out (.cells y.c 85)).alloc (by have := HSZ.out; simp; omega) (.cells y.c 85)) hg9 (by have := HSZ.out; simp; omega) (fun g h => (own_shape HO.out h).1)
                       have HO9 := Lib.hid hown9; have HB9 := Lib.hid hb9; clear hown9 hg9 hb9)
          go_roundw
          case rel => exact ⟨k + 1, acc ++ [y], l, by omega, by go_num, rfl, by rw [HT.out, HST.out], by rw [flF_append, List.length_append]; exact HO9.out, HB9.out⟩
          case measure => simp [intOf]; omega
    · have : k = L.length := by omega
      subst this
      obtain ⟨d0, d1, d2, d3, d4⟩ := HXR.out
      have HWX : Hid (walkF x L = (acc, l)) := by show _ = _; have h := HWK.out; rwa [List.take_length] at h
      cases l
      · have HM : Hid (insF L x = acc ++ [x]) := by show _ = _; unfold insF; rw [HWX.out]; rfl
        go_wp2_with (at_builtin; refine wpList_append_rd _ rfl (.tmp 47) (.tmp 49) 26 (by rfl) B 85 i0 _ 5 40 Try.underlying26 hi0 hz0 hz1 HZ2.out rfl (by omega) u5 acc.length _ (by rfl) (HO.out.alloc _) _ _ 1 1 (flF [x]) (by rfl) rfl (lit_at wr x.c _ _ (by simp)) (flF_one _) (by have := HAL.out; unfold maxLen; omega) (by have := HAL.out; omega) (by have := HSZ.out; simp; omega) ?_
                     intro v9 w9 hown9 hg9 _
                     have hb9 := Below.of_grown (HW.out.alloc HSZ.out (.cells x.c 85)) hg9 (by have := HSZ.out; simp; omega) (fun g h => (own_shape HO.out h).1)
                     have HO9 := Lib.hid hown9; have HB9 := Lib.hid hb9; clear hown9 hg9 hb9
                     have HSW : Hid (B ≤ w9.heap.size) := by show _ ≤ _; have := HB9.out.size; rw [← HBS.out] at this; exact this
                     have HBR : Hid (Below B W3 w9) := HB9.out
                     have hcW : w9.cell? ⟨w.heap.size, 0, none⟩ = some (.slice a L.length c) := by rw [HB9.out.cell (p := ⟨w.heap.size, 0, none⟩) (by show w.heap.size < B; rw [HBW.out]; omega)]; exact HC0.out
                     have hfW : w9.frozen? ⟨w.heap.size, 0, none⟩ = false := by rw [HB9.out.frozen (p := ⟨w.heap.size, 0, none⟩) (by show w.heap.size < B; rw [HBW.out]; omega)]; exact (HFZ.out 0 (by omega)).2
                     have n9 : w.heap.size < w9.heap.size := by have := HSW.out; have := HBW.out; omega)
        have HOM : Hid (w9.ownsRow B 85 5 v9 (insF L x).length (flF (insF L x))) := by show World.ownsRow _ _ _ _ _ _ _; rw [HM.out, List.length_append, flF_append]; exact HO9.out
        obtain ⟨B2, hB2⟩ : ∃ B2, B2 = w9.heap.size := ⟨_, rfl⟩
        rw [← hB2]
        obtain ⟨a2, c2, rfl, hac1, hac2, _⟩ := own_slice HOM.out
        obtain ⟨M, hM⟩ : ∃ M, M = insF L x := ⟨_, rfl⟩
        rw [← hM]
        rw [← hM] at HOM hac1
        have hml : M.length ≤ L.length + 1 := by rw [hM]; exact insF_le L x
        have HQ0 : Hid (Q2 w ((w9.setCell ⟨w.heap.size, 0, none⟩ (.slice (some ⟨B2, 0, none⟩) 0 0)).alloc (.cells #[] 85)) B B2 (.slice a2 M.length c2) M fu dn 0 (.slice (some ⟨B2, 0, none⟩) 0 0)) := by
          show Q2 _ _ _ _ _ _ _ _ _ _
          rw [← World.setCell_alloc_past _ _ _ _ (by have := HSW.out; have := HBW.out; show w.heap.size < _; omega)]
          have hsz := HSW.out
          have hbb := HBW.out
          refine { hk := Nat.zero_le _, c0 := World.cell?_setCell_same _ _ _ (u := .slice a L.length c) (by rw [World.cell?_alloc_lt _ _ _ (by show w.heap.size < _; omega)]; exact hcW), c1 := ?_, c2 := ?_, f0 := ?_, rs := ?_, om := ?_, ov := ?_, bb := by omega, vb := ?_, bs := by omega, b2 := ?_, bw := ?_ }
          · rw [World.cell?_setCell_other _ _ _ _ (by simp), World.cell?_alloc_lt _ _ _ (by show w.heap.size < _; omega), HBR.out.cell (p := ⟨w.heap.size, 1, none⟩) (by show w.heap.size < _; omega)]; exact HC1.out
          · rw [World.cell?_setCell_other _ _ _ _ (by simp), World.cell?_alloc_lt _ _ _ (by show w.heap.size < _; omega), HBR.out.cell (p := ⟨w.heap.size, 2, none⟩) (by show w.heap.size < _; omega)]; exact HC2.out
          · rw [World.frozen?_setCell, World.frozen?_alloc_past _ _ _ (by show w.heap.size < _; omega)]; exact hfW
          · intro j hj
            obtain ⟨r1, r2⟩ := World.there_alloc (there_below HRES.out HBR.out (by omega)) (.cells #[] 85) j hj
            exact ⟨by rw [World.cell?_setCell_other _ _ _ _ (by simp)]; exact r1, by rw [World.frozen?_setCell]; exact r2⟩
          · exact own_set (HOM.out.alloc _) (by omega) 0
          · have h := World.ownsRow_made (base := B2) (e := 85) (size := 5) w9 #[] 0 (by omega) (by decide) rfl
            rw [← hB2] at h
            exact own_set h (by omega) 0
          · intro g hg; have := (own_shape HOM.out hg).2.1; omega
          · simp; omega
          · exact ((HB3.out.trans (HBR.out.mono (by omega))).alloc (by omega) _).setCell (Nat.le_refl _) _
        have HMM := Lib.hid hM
        clear hM hB2 hcW hfW
        go_loopw [9] (fun i wr => ∃ (k : Nat) (vv : Value), i = .int .i64 k ∧ Q2 w wr B B2 (.slice a2 M.length c2) M fu dn k vv) (fun i _ => M.length - (intOf i).toNat)
        case atStart => exact ⟨0, _, rfl, HQ0.out⟩
        case round =>
          obtain ⟨k, vv, rfl, hq⟩ := hrel
          have HQ := Lib.hid hq
          have hk2 := hq.hk
          have hc0 := hq.c0
          have hf0 := hq.f0
          have HB2 := Lib.hid hq.b2
          clear hq
          have m0 : w.heap.size < wr.heap.size := by have := HBW.out; have := HSW.out; have := HB2.out; have := HQ.out.bs; omega
          by_cases hlt : k < M.length
          · obtain ⟨g2, o2, ha2, hbl2, e0, e1, e2, e3, e4⟩ := flF_elem (Rd.own HQ.out.om) hlt
            subst ha2
            have i1 : (0 : Int) ≤ (k : Int) := by omega
            have i2 : (k : Int) < (M.length : Int) := by omega
            obtain ⟨y, hy⟩ : ∃ y, y = M[k] := ⟨_, rfl⟩
            rw [← hy] at e0 e1 e2 e3 e4
            obtain ⟨yn, yt, yk, yw, ys⟩ := y
            simp only at e0 e1 e2 e3 e4
            have HYK := Lib.hid hy
            clear hy
            cases yt
            · cases yk
              · have HS := Lib.hid (HQ.out.skip hlt (by rw [← HYK.out]; rfl))
                go_wp2_with fail
                go_roundw
                case rel => exact ⟨k + 1, vv, by go_num, HS.out⟩
                case measure => simp [intOf]; omega
              · skip
                have HP : Hid (hasF M[k] = true) := by show _ = _; rw [← HYK.out]; rfl
                have hle : ((M.take k).filter hasF).length ≤ L.length + 1 := Nat.le_trans (List.length_filter_le _ _) (by rw [List.length_take]; omega)
                have HLE := Lib.hid hle; clear hle
                have hg2B : g2 < B2 := HQ.out.vb g2 rfl
                have hwB : w.heap.size < B2 := by have := HQ.out.bb; have := HQ.out.bs; omega
                go_wp2_with fail
                go_region_law
                  ((refine step_append_lies _ (by rfl) (.tmp 72) (.tmp 77) 26 (by rfl) B2 85 i0 _ 5 40 Try.underlying26 hi0 hz0 hz1 HZ2.out rfl (by omega) vv ((M.take k).filter hasF).length _ (by rfl) (Q2.alloc (Q2.drew HQ.out) _).ov ⟨wr.heap.size, 0, none⟩ 1 1 (flF [⟨yn, false, true, yw, ys⟩]) (by rfl) rfl (lit_cells wr.drew #[.int .u32 (yn : Int), .bool false, .bool true, .string yw, .string ys] _) (flF_one _) (by omega) (by have := HLE.out; unfold maxLen; omega) (by have := HLE.out; omega) (by have := HB2.out; simp; omega) (wr.heap.size + 1) (by simp) ?_
                    intro g8 c8 w8 hown8 hg8 _ _
                    have c8' := (hg8.cell_far ⟨w.heap.size, 0, none⟩ (by have := HB2.out; show w.heap.size < (wr.drew.alloc _).heap.size; simp; omega) (own_ne HQ.out.ov (.inr hwB))).trans (Q2.alloc (Q2.drew HQ.out) _).c0
                    have f8' := (hg8.frozen_far ⟨w.heap.size, 0, none⟩ (by have := HB2.out; show w.heap.size < (wr.drew.alloc _).heap.size; simp; omega) (own_ne HQ.out.ov (.inr hwB))).trans (Q2.alloc (Q2.drew HQ.out) _).f0))
                all_goals
                  go_wp2_with fail
                  go_roundw
                  case rel => exact ⟨k + 1, _, by go_num, (Q2.alloc (Q2.drew HQ.out) _).next hlt HP.out hg8 (by rw [← HYK.out]; exact hown8)⟩
                  case measure => simp [intOf]; omega
            · skip
              have HP : Hid (hasF M[k] = true) := by show _ = _; rw [← HYK.out]; rfl
              have hle : ((M.take k).filter hasF).length ≤ L.length + 1 := Nat.le_trans (List.length_filter_le _ _) (by rw [List.length_take]; omega)
              have HLE := Lib.hid hle; clear hle
              have hg2B : g2 < B2 := HQ.out.vb g2 rfl
              have hwB : w.heap.size < B2 := by have := HQ.out.bb; have := HQ.out.bs; omega
              go_wp2_with fail
              go_region_law
                ((refine step_append_lies _ (by rfl) (.tmp 72) (.tmp 77) 26 (by rfl) B2 85 i0 _ 5 40 Try.underlying26 hi0 hz0 hz1 HZ2.out rfl (by omega) vv ((M.take k).filter hasF).length _ (by rfl) (Q2.alloc (Q2.drew HQ.out) _).ov ⟨wr.heap.size, 0, none⟩ 1 1 (flF [⟨yn, true, yk, yw, ys⟩]) (by rfl) rfl (lit_cells wr.drew #[.int .u32 (yn : Int), .bool true, .bool yk, .string yw, .string ys] _) (flF_one _) (by omega) (by have := HLE.out; unfold maxLen; omega) (by have := HLE.out; omega) (by have := HB2.out; simp; omega) (wr.heap.size + 1) (by simp) ?_
                  intro g8 c8 w8 hown8 hg8 _ _
                  have c8' := (hg8.cell_far ⟨w.heap.size, 0, none⟩ (by have := HB2.out; show w.heap.size < (wr.drew.alloc _).heap.size; simp; omega) (own_ne HQ.out.ov (.inr hwB))).trans (Q2.alloc (Q2.drew HQ.out) _).c0
                  have f8' := (hg8.frozen_far ⟨w.heap.size, 0, none⟩ (by have := HB2.out; show w.heap.size < (wr.drew.alloc _).heap.size; simp; omega) (own_ne HQ.out.ov (.inr hwB))).trans (Q2.alloc (Q2.drew HQ.out) _).f0))
              all_goals
                go_wp2_with fail
                go_roundw
                case rel => exact ⟨k + 1, _, by go_num, (Q2.alloc (Q2.drew HQ.out) _).next hlt HP.out hg8 (by rw [← HYK.out]; exact hown8)⟩
                case measure => simp [intOf]; omega
          · have : k = M.length := by omega
            subst this
            have HV : Hid (wr.ownsRow B2 85 5 vv (putF L x).length (flF (putF L x))) := by
              show World.ownsRow _ _ _ _ _ _ _
              have h := HQ.out.ov
              rw [List.take_length, HMM.out] at h
              exact h
            obtain ⟨a3, c3, rfl, h3a, h3b, _⟩ := own_slice HV.out
            have H3a := Lib.hid h3a; have H3b := Lib.hid h3b; clear h3a h3b
            have hc1 := HQ.out.c1
            have hc2 := HQ.out.c2
            have hw2 : w.heap.size + 2 < B2 := by have := HQ.out.bb; have := HQ.out.bs; omega
            go_wp2_with (refine wpList_store_mid rfl 28 (.tmp 4) (.tmp 80) rfl (w.heap.size + 1 + 1) 0 #[.slice a3 (putF L x).length c3, .int .i64 fu, .bool dn] ?hx ?hy ?ht ?hi ?h1 ?h
                         case hx => rfl
                         case hy => rfl
                         case ht => exact HQ.out.rs
                         case hi => exact size_fs
                         case h1 => simp [Value.oneCell'])
            refine bodyPost_ret (v := fsv a3 (putF L x).length c3 fu dn) (results_cell (p := 4) (ty := 28) (b := w.heap.size + 1 + 1) rfl rfl (load_fs _ _ _ HQ.out.rs)) rfl ?_
            exact ⟨a3, c3, rfl, H3a.out, H3b.out, Rd.own (own_sets HV.out (by omega) _ 0), (fun b o s e => by have := (own_shape (k := b) HV.out (by rw [e]; rfl)).1; omega), Below_setCells (by omega) _ 0 _ HQ.out.bw⟩
      · have HM : Hid (insF L x = acc) := by show _ = _; unfold insF; rw [HWX.out]; rfl
        have HOM : Hid (wr.ownsRow B 85 5 u5 (insF L x).length (flF (insF L x))) := by show World.ownsRow _ _ _ _ _ _ _; rw [HM.out]; exact HO.out
        have HSW : Hid (B ≤ wr.heap.size) := by show _ ≤ _; have := HW.out.size; rw [← HBS.out] at this; exact this
        have HBR : Hid (Below B W3 wr) := HW.out
        have hcW : wr.cell? ⟨w.heap.size, 0, none⟩ = some (.slice a L.length c) := by rw [HW.out.cell (p := ⟨w.heap.size, 0, none⟩) (by show w.heap.size < B; rw [HBW.out]; omega)]; exact HC0.out
        have hfW : wr.frozen? ⟨w.heap.size, 0, none⟩ = false := by rw [HW.out.frozen (p := ⟨w.heap.size, 0, none⟩) (by show w.heap.size < B; rw [HBW.out]; omega)]; exact (HFZ.out 0 (by omega)).2
        go_wp2_with fail
        obtain ⟨B2, hB2⟩ : ∃ B2, B2 = wr.heap.size := ⟨_, rfl⟩
        rw [← hB2]
        obtain ⟨a2, c2, rfl, hac1, hac2, _⟩ := own_slice HOM.out
        obtain ⟨M, hM⟩ : ∃ M, M = insF L x := ⟨_, rfl⟩
        rw [← hM]
        rw [← hM] at HOM hac1
        have hml : M.length ≤ L.length + 1 := by rw [hM]; exact insF_le L x
        have HQ0 : Hid (Q2 w ((wr.setCell ⟨w.heap.size, 0, none⟩ (.slice (some ⟨B2, 0, none⟩) 0 0)).alloc (.cells #[] 85)) B B2 (.slice a2 M.length c2) M fu dn 0 (.slice (some ⟨B2, 0, none⟩) 0 0)) := by
          show Q2 _ _ _ _ _ _ _ _ _ _
          rw [← World.setCell_alloc_past _ _ _ _ (by have := HSW.out; have := HBW.out; show w.heap.size < _; omega)]
          have hsz := HSW.out
          have hbb := HBW.out
          refine { hk := Nat.zero_le _, c0 := World.cell?_setCell_same _ _ _ (u := .slice a L.length c) (by rw [World.cell?_alloc_lt _ _ _ (by show w.heap.size < _; omega)]; exact hcW), c1 := ?_, c2 := ?_, f0 := ?_, rs := ?_, om := ?_, ov := ?_, bb := by omega, vb := ?_, bs := by omega, b2 := ?_, bw := ?_ }
          · rw [World.cell?_setCell_other _ _ _ _ (by simp), World.cell?_alloc_lt _ _ _ (by show w.heap.size < _; omega), HBR.out.cell (p := ⟨w.heap.size, 1, none⟩) (by show w.heap.size < _; omega)]; exact HC1.out
          · rw [World.cell?_setCell_other _ _ _ _ (by simp), World.cell?_alloc_lt _ _ _ (by show w.heap.size < _; omega), HBR.out.cell (p := ⟨w.heap.size, 2, none⟩) (by show w.heap.size < _; omega)]; exact HC2.out
          · rw [World.frozen?_setCell, World.frozen?_alloc_past _ _ _ (by show w.heap.size < _; omega)]; exact hfW
          · intro j hj
            obtain ⟨r1, r2⟩ := World.there_alloc (there_below HRES.out HBR.out (by omega)) (.cells #[] 85) j hj
            exact ⟨by rw [World.cell?_setCell_other _ _ _ _ (by simp)]; exact r1, by rw [World.frozen?_setCell]; exact r2⟩
          · exact own_set (HOM.out.alloc _) (by omega) 0
          · have h := World.ownsRow_made (base := B2) (e := 85) (size := 5) wr #[] 0 (by omega) (by decide) rfl
            rw [← hB2] at h
            exact own_set h (by omega) 0
          · intro g hg; have := (own_shape HOM.out hg).2.1; omega
          · simp; omega
          · exact ((HB3.out.trans (HBR.out.mono (by omega))).alloc (by omega) _).setCell (Nat.le_refl _) _
        have HMM := Lib.hid hM
        clear hM hB2 hcW hfW
        go_loopw [9] (fun i wr => ∃ (k : Nat) (vv : Value), i = .int .i64 k ∧ Q2 w wr B B2 (.slice a2 M.length c2) M fu dn k vv) (fun i _ => M.length - (intOf i).toNat)
        case atStart => exact ⟨0, _, rfl, HQ0.out⟩
        case round =>
          obtain ⟨k, vv, rfl, hq⟩ := hrel
          have HQ := Lib.hid hq
          have hk2 := hq.hk
          have hc0 := hq.c0
          have hf0 := hq.f0
          have HB2 := Lib.hid hq.b2
          clear hq
          have m0 : w.heap.size < wr.heap.size := by have := HBW.out; have := HSW.out; have := HB2.out; have := HQ.out.bs; omega
          by_cases hlt : k < M.length
          · obtain ⟨g2, o2, ha2, hbl2, e0, e1, e2, e3, e4⟩ := flF_elem (Rd.own HQ.out.om) hlt
            subst ha2
            have i1 : (0 : Int) ≤ (k : Int) := by omega
            have i2 : (k : Int) < (M.length : Int) := by omega
            obtain ⟨y, hy⟩ : ∃ y, y = M[k] := ⟨_, rfl⟩
            rw [← hy] at e0 e1 e2 e3 e4
            obtain ⟨yn, yt, yk, yw, ys⟩ := y
            simp only at e0 e1 e2 e3 e4
            have HYK := Lib.hid hy
            clear hy
            cases yt
            · cases yk
              · have HS := Lib.hid (HQ.out.skip hlt (by rw [← HYK.out]; rfl))
                go_wp2_with fail
                go_roundw
                case rel => exact ⟨k + 1, vv, by go_num, HS.out⟩
                case measure => simp [intOf]; omega
              · skip
                have HP : Hid (hasF M[k] = true) := by show _ = _; rw [← HYK.out]; rfl
                have hle : ((M.take k).filter hasF).length ≤ L.length + 1 := Nat.le_trans (List.length_filter_le _ _) (by rw [List.length_take]; omega)
                have HLE := Lib.hid hle; clear hle
                have hg2B : g2 < B2 := HQ.out.vb g2 rfl
                have hwB : w.heap.size < B2 := by have := HQ.out.bb; have := HQ.out.bs; omega
                go_wp2_with fail
                go_region_law
                  ((refine step_append_lies _ (by rfl) (.tmp 72) (.tmp 77) 26 (by rfl) B2 85 i0 _ 5 40 Try.underlying26 hi0 hz0 hz1 HZ2.out rfl (by omega) vv ((M.take k).filter hasF).length _ (by rfl) (Q2.alloc (Q2.drew HQ.out) _).ov ⟨wr.heap.size, 0, none⟩ 1 1 (flF [⟨yn, false, true, yw, ys⟩]) (by rfl) rfl (lit_cells wr.drew #[.int .u32 (yn : Int), .bool false, .bool true, .string yw, .string ys] _) (flF_one _) (by omega) (by have := HLE.out; unfold maxLen; omega) (by have := HLE.out; omega) (by have := HB2.out; simp; omega) (wr.heap.size + 1) (by simp) ?_
                    intro g8 c8 w8 hown8 hg8 _ _
                    have c8' := (hg8.cell_far ⟨w.heap.size, 0, none⟩ (by have := HB2.out; show w.heap.size < (wr.drew.alloc _).heap.size; simp; omega) (own_ne HQ.out.ov (.inr hwB))).trans (Q2.alloc (Q2.drew HQ.out) _).c0
                    have f8' := (hg8.frozen_far ⟨w.heap.size, 0, none⟩ (by have := HB2.out; show w.heap.size < (wr.drew.alloc _).heap.size; simp; omega) (own_ne HQ.out.ov (.inr hwB))).trans (Q2.alloc (Q2.drew HQ.out) _).f0))
                all_goals
                  go_wp2_with fail
                  go_roundw
                  case rel => exact ⟨k + 1, _, by go_num, (Q2.alloc (Q2.drew HQ.out) _).next hlt HP.out hg8 (by rw [← HYK.out]; exact hown8)⟩
                  case measure => simp [intOf]; omega
            · skip
              have HP : Hid (hasF M[k] = true) := by show _ = _; rw [← HYK.out]; rfl
              have hle : ((M.take k).filter hasF).length ≤ L.length + 1 := Nat.le_trans (List.length_filter_le _ _) (by rw [List.length_take]; omega)
              have HLE := Lib.hid hle; clear hle
              have hg2B : g2 < B2 := HQ.out.vb g2 rfl
              have hwB : w.heap.size < B2 := by have := HQ.out.bb; have := HQ.out.bs; omega
              go_wp2_with fail
              go_region_law
                ((refine step_append_lies _ (by rfl) (.tmp 72) (.tmp 77) 26 (by rfl) B2 85 i0 _ 5 40 Try.underlying26 hi0 hz0 hz1 HZ2.out rfl (by omega) vv ((M.take k).filter hasF).length _ (by rfl) (Q2.alloc (Q2.drew HQ.out) _).ov ⟨wr.heap.size, 0, none⟩ 1 1 (flF [⟨yn, true, yk, yw, ys⟩]) (by rfl) rfl (lit_cells wr.drew #[.int .u32 (yn : Int), .bool true, .bool yk, .string yw, .string ys] _) (flF_one _) (by omega) (by have := HLE.out; unfold maxLen; omega) (by have := HLE.out; omega) (by have := HB2.out; simp; omega) (wr.heap.size + 1) (by simp) ?_
                  intro g8 c8 w8 hown8 hg8 _ _
                  have c8' := (hg8.cell_far ⟨w.heap.size, 0, none⟩ (by have := HB2.out; show w.heap.size < (wr.drew.alloc _).heap.size; simp; omega) (own_ne HQ.out.ov (.inr hwB))).trans (Q2.alloc (Q2.drew HQ.out) _).c0
                  have f8' := (hg8.frozen_far ⟨w.heap.size, 0, none⟩ (by have := HB2.out; show w.heap.size < (wr.drew.alloc _).heap.size; simp; omega) (own_ne HQ.out.ov (.inr hwB))).trans (Q2.alloc (Q2.drew HQ.out) _).f0))
              all_goals
                go_wp2_with fail
                go_roundw
                case rel => exact ⟨k + 1, _, by go_num, (Q2.alloc (Q2.drew HQ.out) _).next hlt HP.out hg8 (by rw [← HYK.out]; exact hown8)⟩
                case measure => simp [intOf]; omega
          · have : k = M.length := by omega
            subst this
            have HV : Hid (wr.ownsRow B2 85 5 vv (putF L x).length (flF (putF L x))) := by
              show World.ownsRow _ _ _ _ _ _ _
              have h := HQ.out.ov
              rw [List.take_length, HMM.out] at h
              exact h
            obtain ⟨a3, c3, rfl, h3a, h3b, _⟩ := own_slice HV.out
            have H3a := Lib.hid h3a; have H3b := Lib.hid h3b; clear h3a h3b
            have hc1 := HQ.out.c1
            have hc2 := HQ.out.c2
            have hw2 : w.heap.size + 2 < B2 := by have := HQ.out.bb; have := HQ.out.bs; omega
            go_wp2_with (refine wpList_store_mid rfl 28 (.tmp 4) (.tmp 80) rfl (w.heap.size + 1 + 1) 0 #[.slice a3 (putF L x).length c3, .int .i64 fu, .bool dn] ?hx ?hy ?ht ?hi ?h1 ?h
                         case hx => rfl
                         case hy => rfl
                         case ht => exact HQ.out.rs
                         case hi => exact size_fs
                         case h1 => simp [Value.oneCell'])
            refine bodyPost_ret (v := fsv a3 (putF L x).length c3 fu dn) (results_cell (p := 4) (ty := 28) (b := w.heap.size + 1 + 1) rfl rfl (load_fs _ _ _ HQ.out.rs)) rfl ?_
            exact ⟨a3, c3, rfl, H3a.out, H3b.out, Rd.own (own_sets HV.out (by omega) _ 0), (fun b o s e => by have := (own_shape (k := b) HV.out (by rw [e]; rfl)).1; omega), Below_setCells (by omega) _ 0 _ HQ.out.bw⟩
end Go.Proofs.Ythfhmohbfoolnaa
