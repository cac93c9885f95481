import Derived.Test.YtgeoggilnkcacaaQe
namespace Go.Proofs.Ytgeoggilnkcacaa
open Go Go.RowKit Go.Sort
set_option maxRecDepth 20000
set_option linter.unusedVariables false

/-! The document's Layers (stage 15). -/
theorem rep_snoc (n : Nat) (x : Int) : List.replicate (n + 1) x = List.replicate n x ++ [x] := List.replicate_succ'
theorem intV_snoc (l : List Int) (x : Int) : intV (l ++ [x]) = intV l ++ [.int .i64 x] := by simp [intV]
/-- Two rows of unlike kinds, a base for both. -/
structure Two (ta tb : TypeId) (B : Nat) (w wr : World) (va vb : Value) (A C : List Int) : Prop where
  oa : wr.ownsRow B ta 1 va A.length (intV A)
  ob : wr.ownsRow B tb 1 vb C.length (intV C)
  bw : Below B w wr
theorem Two.first {ta tb : TypeId} {B : Nat} {w wr w4 : World} {va vb va' : Value} {A C : List Int} {x : Int} (h : Two ta tb B w wr va vb A C) (hne : ta ≠ tb) (hB : B ≤ wr.heap.size) (o : Obj) (ho : w4.ownsRow B ta 1 va' (A.length + 1) (intV A ++ [.int .i64 x])) (hg : (wr.alloc o).grownBy w4 va.ownBlock) : Two ta tb B w w4 va' vb (A ++ [x]) C := by
  have ha := own_below h.oa (box1 wr o)
  have hb := own_below h.ob (box1 wr o)
  refine ⟨by rw [List.length_append, intV_snoc]; exact ho, hb.kept hg (rows_apart15 hb ha hne.symm), (h.bw.alloc hB o).grown hg (by simp; omega) (fun g hg' => (own_shape h.oa hg').1)⟩
theorem Two.second {ta tb : TypeId} {B : Nat} {w wr w4 : World} {va vb vb' : Value} {A C : List Int} {x : Int} (h : Two ta tb B w wr va vb A C) (hne : ta ≠ tb) (hB : B ≤ wr.heap.size) (o : Obj) (ho : w4.ownsRow B tb 1 vb' (C.length + 1) (intV C ++ [.int .i64 x])) (hg : (wr.alloc o).grownBy w4 vb.ownBlock) : Two ta tb B w w4 va vb' A (C ++ [x]) := by
  have ha := own_below h.oa (box1 wr o)
  have hb := own_below h.ob (box1 wr o)
  refine ⟨ha.kept hg (rows_apart15 ha hb hne), by rw [List.length_append, intV_snoc]; exact ho, (h.bw.alloc hB o).grown hg (by simp; omega) (fun g hg' => (own_shape h.ob hg').1)⟩
theorem row_take {m : Nat} {E : List Ed} {k h : Nat} (hh : h < m) : (rowQ m E (k + 1)).take (h + 1) = (rowQ m E (k + 1)).take h ++ [(leastN (rowQ m E k) E h E.length).1] := by
  have hl : h < (rowQ m E (k + 1)).length := by rw [rowQ_length]; exact hh
  rw [List.take_succ_eq_append_getElem hl]
  congr 2
  have := rowQ_get (E := E) (k := k) hh
  rw [List.getD_eq_getElem?_getD, List.getElem?_eq_getElem hl] at this
  exact this
theorem by_take {m : Nat} {E : List Ed} {k h : Nat} (hh : h < m) : (byL m E (k + 1)).take (h + 1) = (byL m E (k + 1)).take h ++ [(leastN (rowQ m E k) E h E.length).2] := by
  have hl : h < (byL m E (k + 1)).length := by rw [byL_length]; exact hh
  rw [List.take_succ_eq_append_getElem hl]
  congr 2
  have := byL_get (E := E) (k := k) hh
  rw [List.getD_eq_getElem?_getD, List.getElem?_eq_getElem hl] at this
  exact this
theorem Two.le {ta tb : TypeId} {B : Nat} {w wr : World} {va vb : Value} {A C : List Int} (h : Two ta tb B w wr va vb A C) (hB : B ≤ w.heap.size) : B ≤ wr.heap.size := Nat.le_trans hB h.bw.size
theorem Two.below {ta tb : TypeId} {B : Nat} {w wr w' : World} {va vb : Value} {A C : List Int} (h : Two ta tb B w wr va vb A C) (hB : B ≤ w.heap.size) (hb : Below wr.heap.size wr w') : Two ta tb B w w' va vb A C :=
  ⟨own_below h.oa hb, own_below h.ob hb, h.bw.trans (hb.mono (h.le hB))⟩
set_option maxHeartbeats 16000000 in
theorem refLayers_from (n : Int) (a : Option Addr) (c : Nat) (E : List Ed) (w : World) (ha : Rd w w.heap.size a (edsV E)) (hl : E.length ≤ 100000) (hok : ∀ e ∈ E, e.Ok) (hn : I64 n) :
    Calls Try.prog 18 #[.int .i64 n, .slice a E.length c] w fun x w' => ∃ a1 c1 a2 c2, x = .returned (.tuple #[.slice a1 (laysL n E).length c1, .slice a2 (bysL n E).length c2]) ∧ RdRowsF w' w'.heap.size w.heap.size a1 (laysL n E) ∧ RdRows w' w'.heap.size a2 (bysL n E) ∧ Below w.heap.size w w' := by
  obtain ⟨i0, hi0, hz0, hz1, hz2⟩ := info_parts info_int15
  obtain ⟨j0, hj0, hy0, hy1, hy2⟩ := info_parts info_i6415
  obtain ⟨k0, hk0, hx0, hx1, hx2⟩ := info_parts info_row15
  obtain ⟨l0, hl0, hw0, hw1, hw2⟩ := info_parts info_row6415
  have HZ2 := Lib.hid hz2; have HY2 := Lib.hid hy2; have HX2 := Lib.hid hx2; have HW2 := Lib.hid hw2; clear hz2 hy2 hx2 hw2
  have HA := Lib.hid ha; have HM := Lib.hid (refMay_any15 n a c E w ha hl hok hn); clear ha hok hn
  obtain ⟨r, hr⟩ : ∃ r, mayE n E = r := ⟨_, rfl⟩
  rw [hr] at HM
  cases r with
  | false =>
    have e1 : laysL n E = [] := by unfold laysL; rw [hr]; rfl
    have e2 : bysL n E = [] := by unfold bysL; rw [hr]; rfl
    rw [e1, e2]
    go_enter Try.func18, Try.ntmps18
    go_wp2_with (go_at_call 11
                 refine HM.out.mono ?_
                 rintro x w1 ⟨rfl, hb1⟩
                 have HB1 := Lib.hid hb1; clear hb1)
    go_ret2
    exact ⟨none, 0, none, 0, rfl, fun i h => absurd h (Nat.not_lt_zero _), fun i h => absurd h (Nat.not_lt_zero _), HB1.out⟩
  | true =>
    obtain ⟨h0, h32, hE⟩ := mayE_iff.1 hr
    obtain ⟨m, rfl⟩ : ∃ m : Nat, n = (m : Int) := ⟨n.toNat, by omega⟩
    have e1 : laysL (m : Int) E = (List.range (m + 1)).map (rowQ m E) := by unfold laysL; rw [hr]; rfl
    have e2 : bysL (m : Int) E = (List.range (m + 1)).map (byL m E) := by unfold bysL; rw [hr]; rfl
    have HE := Lib.hid hE; have HG1 := Lib.hid e1; have HG2 := Lib.hid e2
    have hL1 : (laysL (m : Int) E).length = m + 1 := by rw [e1]; simp
    have hL2 : (bysL (m : Int) E).length = m + 1 := by rw [e2]; simp
    rw [hL1, hL2]
    generalize laysL (m : Int) E = G1 at *
    generalize bysL (m : Int) E = G2 at *
    clear e1 e2 hE hr hL1 hL2
    have hm32 : m ≤ 32 := by omega
    go_enter Try.func18, Try.ntmps18
    go_wp2_with (go_at_call 11
                 refine HM.out.mono ?_
                 rintro x w1 ⟨rfl, hb1⟩
                 have HB1 := Lib.hid hb1; clear hb1)
    obtain ⟨W0, hW0⟩ : ∃ W0, (w1.alloc (.cells #[] 2)).alloc (.cells #[] 3) = W0 := ⟨_, rfl⟩
    have hs1 := HB1.out.size
    have HT0 : Hid (Two 2 3 w.heap.size w W0 (.slice (some ⟨w1.heap.size, 0, none⟩) 0 0) (.slice (some ⟨w1.heap.size + 1, 0, none⟩) 0 0) [] []) := by
      rw [← hW0]
      have h2 := World.ownsRow_made (w1.alloc (.cells #[] 2)) (e := 3) (base := w.heap.size) (size := 1) #[] 0 (by simp; omega) (by decide) rfl
      rw [World.size_alloc] at h2
      exact ⟨own_below (World.ownsRow_made w1 #[] 0 hs1 (by decide) rfl) (box1 _ _), h2, (HB1.out.alloc hs1 _).alloc (by simp; omega) _⟩
    rw [hW0]
    clear hW0
    go_loopw [6, 7, 8] (fun va vb vi wr => ∃ (h : Nat) (xa xb : Value), h ≤ m ∧ vi = .int .i64 (h : Int) ∧ xa = va ∧ xb = vb ∧ Two 2 3 w.heap.size w wr xa xb (List.replicate h 0) (List.replicate h (-1))) (fun _ _ vi _ => m - (intOf vi).toNat)
    case atStart => exact ⟨0, _, _, Nat.zero_le _, rfl, rfl, rfl, HT0.out⟩
    clear HT0
    case round =>
      obtain ⟨h, xa, xb, hh, rfl, ea, eb, hT⟩ := hrel
      subst ea eb
      have hTl := hT.le (Nat.le_refl _)
      have hoa := hT.oa
      have hob := hT.ob
      rw [List.length_replicate] at hoa hob
      obtain ⟨aa, ca, rfl, _, _, _⟩ := own_slice hoa
      obtain ⟨ab, cb, rfl, _, _, _⟩ := own_slice hob
      have HT := Lib.hid hT; have HOA := Lib.hid hoa; clear hT hoa hob
      generalize wr = W1 at *
      by_cases hlt : h < m
      · have i3 : (h : Int) < (m : Int) := by omega
        go_wp2_with (first
          | (at_builtin
             refine wpList_append_rd _ rfl (.tmp 28) (.tmp 29) 27 rfl w.heap.size 2 j0 _ 1 8 Try.underlying27 hj0 hy0 hy1 HY2.out rfl (by omega) (.slice aa h ca) h _ rfl (own_below HOA.out (box1 _ _)) _ _ 1 1 [.int .i64 0] rfl rfl (lit_rd W1 #[.int .i64 0] _) (by intro u hu; obtain rfl := List.mem_singleton.1 hu; rfl) (by unfold maxLen; omega) (by omega) (by simp; omega) ?_
             intro v4 w4 hown4 hg4 _
             obtain ⟨va4, vc4, rfl, _, _, _⟩ := own_slice hown4
             have HT4 : Hid (Two 2 3 w.heap.size w w4 (.slice va4 (h + 1) vc4) (.slice ab h cb) (List.replicate (h + 1) 0) (List.replicate h (-1))) := by
               have := HT.out.first (by decide) hTl _ (x := 0) (by rw [List.length_replicate]; exact hown4) hg4
               rw [← rep_snoc] at this; exact this
             have hT4l := HT4.out.le (Nat.le_refl _)
             clear hown4 hg4)
          | (at_builtin
             have hob4 := HT4.out.ob
             rw [List.length_replicate] at hob4
             refine wpList_append_rd _ rfl (.tmp 31) (.tmp 32) 44 rfl w.heap.size 3 i0 _ 1 8 Try.underlying44 hi0 hz0 hz1 HZ2.out rfl (by omega) (.slice ab h cb) h _ rfl (own_below hob4 (box1 _ _)) _ _ 1 1 [.int .i64 (-1)] rfl rfl (lit_rd w4 #[.int .i64 (-1)] _) (by intro u hu; obtain rfl := List.mem_singleton.1 hu; rfl) (by unfold maxLen; omega) (by omega) (by simp; omega) ?_
             intro v6 w6 hown6 hg6 _
             have HT6 : Hid (Two 2 3 w.heap.size w w6 (.slice va4 (h + 1) vc4) v6 (List.replicate (h + 1) 0) (List.replicate (h + 1) (-1))) := by
               have := HT4.out.second (by decide) hT4l _ (x := -1) (by rw [List.length_replicate]; exact hown6) hg6
               rw [← rep_snoc] at this; exact this
             clear hown6 hg6 hob4))
        go_roundw
        case rel => exact ⟨h + 1, _, _, by omega, by go_num, rfl, rfl, HT6.out⟩
        case measure => simp [intOf]; omega
      · obtain rfl : m = h := by omega
        go_wp2_with fail
        have hW1 := HT.out.le (Nat.le_refl _)
        obtain ⟨W2, hW2⟩ : ∃ W2, (W1.alloc (.cells #[.slice aa m ca] 27)).alloc (.cells #[.slice ab m cb] 44) = W2 := ⟨_, rfl⟩
        have HR1 : Hid (RowsT 27 2 w.heap.size W2 (.slice (some ⟨W1.heap.size, 0, none⟩) 1 1) [rowQ m E 0] [.slice aa m ca]) := by
          have ho := HT.out.oa
          have h1 := RowsT.one_ (sl := 27) hW1 (g := rowQ m E 0) (by rw [rowQ_length]; rw [List.length_replicate] at ho; exact ho) rfl
          rw [← hW2]; exact h1.below (box1 _ _)
        have HR2 : Hid (RowsT 44 3 w.heap.size W2 (.slice (some ⟨W1.heap.size + 1, 0, none⟩) 1 1) [byL m E 0] [.slice ab m cb]) := by
          have ho := own_below HT.out.ob (box1 W1 (.cells #[.slice aa m ca] 27))
          have h1 := RowsT.one_ (sl := 44) (w := W1.alloc (.cells #[.slice aa m ca] 27)) (B := w.heap.size) (by simp; omega) (g := byL m E 0) (by rw [byL_length]; rw [List.length_replicate] at ho; exact ho) rfl
          rw [World.size_alloc] at h1
          rw [← hW2]; exact h1
        have HB2 : Hid (Below w.heap.size w W2) := by
          rw [← hW2]; exact (HT.out.bw.alloc hW1 _).alloc (by simp; omega) _
        rw [hW2]
        clear hW2 HT HOA hW1
        go_loopw [9, 10, 11] (fun vo vy vk wr => ∃ (k : Nat) (xo xy : Value) (vs1 vs2 : List Value), k ≤ m ∧ vk = .int .i64 ((k + 1 : Nat) : Int) ∧ xo = vo ∧ xy = vy ∧ RowsT 27 2 w.heap.size wr xo ((List.range (k + 1)).map (rowQ m E)) vs1 ∧ RowsT 44 3 w.heap.size wr xy ((List.range (k + 1)).map (byL m E)) vs2 ∧ Below w.heap.size w wr) (fun _ _ vk _ => m + 1 - (intOf vk).toNat)
        case atStart => exact ⟨0, _, _, _, _, Nat.zero_le _, rfl, rfl, rfl, HR1.out, HR2.out, HB2.out⟩
        clear HR1 HR2 HB2
        case round =>
          obtain ⟨k, xo, xy, vs1, vs2, hk, rfl, eo, ey, hR1, hR2, hb⟩ := hrel
          subst eo ey
          have ho1 := hR1.own
          have ho2 := hR2.own
          rw [List.length_map, List.length_range] at ho1 ho2
          obtain ⟨ao, co, rfl, _, _, _⟩ := own_slice ho1
          obtain ⟨ay, cy, rfl, _, _, _⟩ := own_slice ho2
          have HR1 := Lib.hid hR1; have HR2 := Lib.hid hR2; have HBW := Lib.hid hb; have HO1 := Lib.hid ho1; have HO2 := Lib.hid ho2
          have hBs := hb.size
          clear hR1 hR2 hb ho1 ho2
          generalize wr = W3 at *
          obtain ⟨y, hy⟩ : ∃ y, k + 1 = y := ⟨_, rfl⟩
          rw [hy]
          by_cases hlt : k < m
          · have i3 : (y : Int) ≤ (m : Int) := by omega
            have i3' : y ≤ m := by omega
            have i4 : IntKind.i64.wrap ((y : Int) - 1) = (k : Int) := by rw [IntWalk.i64_in _ (by omega)]; omega
            have i5 : (k : Int) < (y : Int) := by omega
            have i6 : (0 : Int) ≤ (k : Int) := by omega
            have h1' := HR1.out
            rw [hy] at h1'
            have hG : ((List.range y).map (rowQ m E)).length = y := by simp
            have h1'' : RowsT 27 2 w.heap.size W3 (.slice ao ((List.range y).map (rowQ m E)).length co) ((List.range y).map (rowQ m E)) vs1 := by rw [hG]; exact h1'
            obtain ⟨b1, o1, hb1, hlt1, u1, c1, d1, hu1⟩ := h1''.rd.get (i := k) (g := rowQ m E k) (by rw [hG]; omega) (by simp)
            rw [rowQ_length] at d1
            subst hb1
            have HU1 := Lib.hid hu1
            clear h1' hG h1'' hu1
            go_wp2_with fail
            obtain ⟨W4, hW4⟩ : ∃ W4, (W3.alloc (.cells #[] 2)).alloc (.cells #[] 3) = W4 := ⟨_, rfl⟩
            have HT0 : Hid (Two 2 3 W3.heap.size W3 W4 (.slice (some ⟨W3.heap.size, 0, none⟩) 0 0) (.slice (some ⟨W3.heap.size + 1, 0, none⟩) 0 0) [] []) := by
              rw [← hW4]
              have h2 := World.ownsRow_made (w := W3.alloc (.cells #[] 2)) (e := 3) (base := W3.heap.size) (size := 1) #[] 0 (by simp) (by decide) rfl
              rw [World.size_alloc] at h2
              exact ⟨own_below (World.ownsRow_made W3 #[] 0 (Nat.le_refl _) (by decide) rfl) (box1 _ _), h2, (box1 W3 _).alloc (by simp) _⟩
            rw [hW4]
            clear hW4
            go_loopw [12, 13, 14] (fun va vb vi wr => ∃ (h : Nat) (xa xb : Value), h ≤ m ∧ vi = .int .i64 (h : Int) ∧ xa = va ∧ xb = vb ∧ Two 2 3 W3.heap.size W3 wr xa xb ((rowQ m E (k + 1)).take h) ((byL m E (k + 1)).take h)) (fun _ _ vi _ => m - (intOf vi).toNat)
            case atStart => exact ⟨0, _, _, Nat.zero_le _, rfl, rfl, rfl, HT0.out⟩
            clear HT0
            case round =>
              obtain ⟨h, xa, xb, hh, rfl, ea, eb, hT⟩ := hrel
              subst ea eb
              have hTl := hT.le (Nat.le_refl _)
              have hoa := hT.oa
              have hob := hT.ob
              have l1 : ((rowQ m E (k + 1)).take h).length = h := by rw [List.length_take, rowQ_length]; omega
              have l2 : ((byL m E (k + 1)).take h).length = h := by rw [List.length_take, byL_length]; omega
              rw [l1] at hoa
              rw [l2] at hob
              obtain ⟨aa2, ca2, rfl, _, _, _⟩ := own_slice hoa
              obtain ⟨ab2, cb2, rfl, _, _, _⟩ := own_slice hob
              have HT := Lib.hid hT; have HOA := Lib.hid hoa; have HL1 := Lib.hid l1; have HL2 := Lib.hid l2
              have hbt := hT.bw
              have d2 := (hbt.cell (p := ⟨b1, o1 + k, none⟩) hlt1).trans d1
              have HU2 := Lib.hid ((HU1.out.below hbt).more hbt.size)
              have HAW := Lib.hid ((HA.out.below (HBW.out.trans (hbt.mono hBs))).more (Nat.le_trans hBs hbt.size))
              clear hT hoa hob hbt l1 l2
              generalize wr = W5 at *
              by_cases hlt2 : h < m
              · have j3 : (h : Int) < (m : Int) := by omega
                have HK1 := Lib.hid (row_take (E := E) (k := k) hlt2)
                have HK2 := Lib.hid (by_take (E := E) (k := k) hlt2)
                have HC := Lib.hid (leastQ_any u1 c1 (rowQ m E k) a c E h W5 HU2.out HAW.out (row_Low HE.out (by omega)) (by rw [rowQ_length]; exact hlt2) (by rw [rowQ_length]; exact HE.out) (by rw [rowQ_length]; omega) hl)
                rw [rowQ_length] at HC
                generalize leastN (rowQ m E k) E h E.length = z at *
                obtain ⟨z1, z2⟩ := z
                simp only at HK1 HK2 HC
                go_wp2_with (first
                  | (go_at_call 27
                     refine HC.out.mono ?_
                     rintro x w6 ⟨rfl, hb6⟩
                     have HT6 := Lib.hid (HT.out.below (Nat.le_refl _) hb6)
                     have hT6l := HT6.out.le (Nat.le_refl _)
                     have HOA6 := Lib.hid (own_below HOA.out hb6)
                     clear hb6)
                  | (at_builtin
                     refine wpList_append_rd _ rfl (.tmp 61) (.tmp 63) 27 rfl W3.heap.size 2 j0 _ 1 8 Try.underlying27 hj0 hy0 hy1 HY2.out rfl (by omega) (.slice aa2 h ca2) h _ rfl (own_below HOA6.out (box1 _ _)) _ _ 1 1 [.int .i64 z1] rfl rfl (lit_rd w6 #[.int .i64 z1] _) (by intro u hu; obtain rfl := List.mem_singleton.1 hu; rfl) (by unfold maxLen; omega) (by omega) (by simp; omega) ?_
                     intro v7 w7 hown7 hg7 _
                     obtain ⟨va7, vc7, rfl, _, _, _⟩ := own_slice hown7
                     have HT7 : Hid (Two 2 3 W3.heap.size W3 w7 (.slice va7 (h + 1) vc7) (.slice ab2 h cb2) ((rowQ m E (k + 1)).take (h + 1)) ((byL m E (k + 1)).take h)) := by
                       have := HT6.out.first (by decide) hT6l _ (x := z1) (by rw [HL1.out]; exact hown7) hg7
                       rw [← HK1.out] at this; exact this
                     have hT7l := HT7.out.le (Nat.le_refl _)
                     clear hown7 hg7)
                  | (at_builtin
                     have hob7 := HT7.out.ob
                     rw [HL2.out] at hob7
                     refine wpList_append_rd _ rfl (.tmp 65) (.tmp 67) 44 rfl W3.heap.size 3 i0 _ 1 8 Try.underlying44 hi0 hz0 hz1 HZ2.out rfl (by omega) (.slice ab2 h cb2) h _ rfl (own_below hob7 (box1 _ _)) _ _ 1 1 [.int .i64 z2] rfl rfl (lit_rd w7 #[.int .i64 z2] _) (by intro u hu; obtain rfl := List.mem_singleton.1 hu; rfl) (by unfold maxLen; omega) (by omega) (by simp; omega) ?_
                     intro v8 w8 hown8 hg8 _
                     have HT8 : Hid (Two 2 3 W3.heap.size W3 w8 (.slice va7 (h + 1) vc7) v8 ((rowQ m E (k + 1)).take (h + 1)) ((byL m E (k + 1)).take (h + 1))) := by
                       have := HT7.out.second (by decide) hT7l _ (x := z2) (by rw [HL2.out]; exact hown8) hg8
                       rw [← HK2.out] at this; exact this
                     clear hown8 hg8 hob7))
                go_roundw
                case rel => exact ⟨h + 1, _, _, by omega, by go_num, rfl, rfl, HT8.out⟩
                case measure => simp [intOf]; omega
              · obtain rfl : m = h := by omega
                have hbt := HT.out.bw
                have hs5 := hbt.size
                have HA5 : Hid (W5.ownsRow w.heap.size 2 1 (.slice aa2 m ca2) (rowQ m E (k + 1)).length (intV (rowQ m E (k + 1)))) := by
                  have h := HT.out.oa
                  rw [List.take_of_length_le (by rw [rowQ_length]; exact Nat.le_refl _)] at h
                  exact own_base h hBs
                have HB5 : Hid (W5.ownsRow w.heap.size 3 1 (.slice ab2 m cb2) (byL m E (k + 1)).length (intV (byL m E (k + 1)))) := by
                  have h := HT.out.ob
                  rw [List.take_of_length_le (by rw [byL_length]; exact Nat.le_refl _)] at h
                  exact own_base h hBs
                obtain ⟨GA, hGA⟩ : ∃ GA, (List.range (k + 1)).map (rowQ m E) = GA := ⟨_, rfl⟩
                obtain ⟨GB, hGB⟩ : ∃ GB, (List.range (k + 1)).map (byL m E) = GB := ⟨_, rfl⟩
                have lA : GA.length = y := by rw [← hGA, List.length_map, List.length_range, hy]
                have lB : GB.length = y := by rw [← hGB, List.length_map, List.length_range, hy]
                have HGA : Hid ((List.range (k + 1 + 1)).map (rowQ m E) = GA ++ [rowQ m E (k + 1)]) := by show _ = _; rw [← hGA]; exact range_map_take _
                have HGB : Hid ((List.range (k + 1 + 1)).map (byL m E) = GB ++ [byL m E (k + 1)]) := by show _ = _; rw [← hGB]; exact range_map_take _
                have HLA := Lib.hid lA; have HLB := Lib.hid lB
                rw [hGA, hy] at HR1
                rw [hGB, hy] at HR2
                have HR15 := Lib.hid (HR1.out.below hbt)
                have HR25 := Lib.hid (HR2.out.below hbt)
                have HBW5 := Lib.hid (HBW.out.trans (hbt.mono hBs))
                have ho15 := HR15.out.own
                rw [lA] at ho15
                have HO15 := Lib.hid ho15
                clear hbt ho15 hGA hGB lA lB HR1 HR2 HT HOA HL1 HL2 HAW HU2 d2
                go_wp2_with (first
                  | (at_builtin
                     refine wpList_append_rd _ rfl (.tmp 69) (.tmp 71) 38 rfl w.heap.size 27 l0 _ 1 24 Try.underlying38 hl0 hw0 hw1 HW2.out rfl (by omega) (.slice (some ⟨b1, o1, none⟩) y co) y _ rfl (own_below HO15.out (box1 _ _)) _ _ 1 1 [.slice aa2 m ca2] rfl rfl (lit_rd W5 #[.slice aa2 m ca2] _) (by intro u hu; obtain rfl := List.mem_singleton.1 hu; rfl) (by unfold maxLen; omega) (by omega) (by simp; omega) ?_
                     intro v7 w7 hown7 hg7 _
                     obtain ⟨va7, vc7, rfl, _, _, _⟩ := own_slice hown7
                     have HR17 := Lib.hid (HR15.out.push (by decide) HA5.out rfl _ (by rw [HLA.out]; exact hown7) hg7)
                     have hoo := own_below HO15.out (box1 W5 (.cells #[.slice aa2 m ca2] 27))
                     have HR27 := Lib.hid ((HR25.out.below (box1 W5 _)).other hoo hg7 (by decide) (by decide))
                     have HB7 := Lib.hid ((own_below HB5.out (box1 W5 _)).kept hg7 (rows_apart15 (own_below HB5.out (box1 W5 (.cells #[.slice aa2 m ca2] 27))) hoo (by decide)))
                     have HBW7 := Lib.hid ((HBW5.out.alloc (Nat.le_trans hBs hs5) _).grown hg7 (by simp; omega) (fun g hg' => (own_shape hoo hg').1))
                     have ho27 := HR27.out.own
                     rw [HLB.out] at ho27
                     have HO27 := Lib.hid ho27
                     have hs7 := HBW7.out.size
                     clear hown7 hg7 ho27 hoo)
                  | (at_builtin
                     refine wpList_append_rd _ rfl (.tmp 73) (.tmp 75) 39 rfl w.heap.size 44 k0 _ 1 24 Try.underlying39 hk0 hx0 hx1 HX2.out rfl (by omega) (.slice ay y cy) y _ rfl (own_below HO27.out (box1 _ _)) _ _ 1 1 [.slice ab2 m cb2] rfl rfl (lit_rd w7 #[.slice ab2 m cb2] _) (by intro u hu; obtain rfl := List.mem_singleton.1 hu; rfl) (by unfold maxLen; omega) (by omega) (by simp; omega) ?_
                     intro v8 w8 hown8 hg8 _
                     have HR28 := Lib.hid (HR27.out.push (by decide) HB7.out rfl _ (by rw [HLB.out]; exact hown8) hg8)
                     have hoo := own_below HO27.out (box1 w7 (.cells #[.slice ab2 m cb2] 44))
                     have HR18 := Lib.hid ((HR17.out.below (box1 w7 _)).other hoo hg8 (by decide) (by decide))
                     have HBW8 := Lib.hid ((HBW7.out.alloc hs7 _).grown hg8 (by simp; omega) (fun g hg' => (own_shape hoo hg').1))
                     rw [← HGB.out] at HR28
                     rw [← HGA.out] at HR18
                     clear hown8 hg8 hoo))
                go_roundw
                case rel => exact ⟨k + 1, _, _, _, _, by omega, by rw [hy]; go_num, rfl, rfl, HR18.out, HR28.out, HBW8.out⟩
                case measure => simp [intOf]; omega
          · have i3 : ¬ (y : Int) ≤ (m : Int) := by omega
            obtain rfl : m = k := by omega
            have HF1 : Hid (RowsT 27 2 w.heap.size W3 (.slice ao G1.length co) G1 vs1) := by
              have h := HR1.out
              rw [← HG1.out] at h
              have e : G1.length = m + 1 := by rw [HG1.out]; simp
              show RowsT _ _ _ _ _ _ _
              rw [e]; exact h
            have HF2 : Hid (RowsT 44 3 w.heap.size W3 (.slice ay G2.length cy) G2 vs2) := by
              have h := HR2.out
              rw [← HG2.out] at h
              have e : G2.length = m + 1 := by rw [HG2.out]; simp
              show RowsT _ _ _ _ _ _ _
              rw [e]; exact h
            subst hy
            go_wp2_with fail
            go_ret2
            exact ⟨ao, co, ay, ⟨cy, rfl⟩, HF1.out.rdF, HF2.out.rd, HBW.out⟩
theorem refLayers_any : LayersPay 18 := fun n a c E w ha hl hok hn => (refLayers_from n a c E w ha hl hok hn).mono fun _ _ h => by
  obtain ⟨a1, c1, a2, c2, h1, h2, h3, h4⟩ := h
  exact ⟨a1, c1, a2, c2, h1, h2.rows, h3, h4⟩
end Go.Proofs.Ytgeoggilnkcacaa

