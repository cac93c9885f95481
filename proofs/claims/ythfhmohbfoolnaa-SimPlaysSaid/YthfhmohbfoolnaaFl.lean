import Derived.Test.YthfhmohbfoolnaaFk
namespace Go.Proofs.Ythfhmohbfoolnaa
open Go Go.RowKit

def Ft.v (t : Ft) : Value := .agg #[.bool t.keep, .int .i64 t.bytes, .slice t.ga t.g.length t.gc]
def Ft.l (t : Ft) : List Value := [.bool t.keep, .int .i64 t.bytes, .slice t.ga t.g.length t.gc]
theorem there5 {w : World} {b : Nat} (h : w.there b 0 5) : ∃ u0 u1 u2 u3 u4, w.cell? ⟨b, 0, none⟩ = some u0 ∧ w.cell? ⟨b, 1, none⟩ = some u1 ∧ w.cell? ⟨b, 2, none⟩ = some u2 ∧ w.cell? ⟨b, 3, none⟩ = some u3 ∧ w.cell? ⟨b, 4, none⟩ = some u4 ∧
    w.frozen? ⟨b, 0, none⟩ = false ∧ w.frozen? ⟨b, 1, none⟩ = false ∧ w.frozen? ⟨b, 2, none⟩ = false ∧ w.frozen? ⟨b, 3, none⟩ = false ∧ w.frozen? ⟨b, 4, none⟩ = false := by
  obtain ⟨a0, b0⟩ := h 0 (by omega)
  obtain ⟨a1, b1⟩ := h 1 (by omega)
  obtain ⟨a2, b2⟩ := h 2 (by omega)
  obtain ⟨a3, b3⟩ := h 3 (by omega)
  obtain ⟨a4, b4⟩ := h 4 (by omega)
  obtain ⟨u0, e0⟩ := Option.isSome_iff_exists.1 a0
  obtain ⟨u1, e1⟩ := Option.isSome_iff_exists.1 a1
  obtain ⟨u2, e2⟩ := Option.isSome_iff_exists.1 a2
  obtain ⟨u3, e3⟩ := Option.isSome_iff_exists.1 a3
  obtain ⟨u4, e4⟩ := Option.isSome_iff_exists.1 a4
  simp only [Nat.zero_add] at *
  exact ⟨u0, u1, u2, u3, u4, e0, e1, e2, e3, e4, b0, b1, b2, b3, b4⟩
theorem frozen5 {w : World} {b : Nat} (h : w.there b 0 5) : w.frozen? ⟨b, 0, none⟩ = false ∧ w.frozen? ⟨b, 1, none⟩ = false ∧ w.frozen? ⟨b, 2, none⟩ = false ∧ w.frozen? ⟨b, 3, none⟩ = false ∧ w.frozen? ⟨b, 4, none⟩ = false := by
  obtain ⟨_, _, _, _, _, _, _, _, _, _, b0, b1, b2, b3, b4⟩ := there5 h
  exact ⟨b0, b1, b2, b3, b4⟩
theorem load_fl3 (W : World) (x : Fl) (n : Nat) (o : Obj) (hn : n = W.heap.size) : (loadVar 85 ⟨n, 0, none⟩).run Try.prog ((W.alloc (.cells x.c 85)).alloc o) = .ok x.v ((W.alloc (.cells x.c 85)).alloc o) :=
  run_loadVar_mid (P := Try.prog) _ n 0 85 _ _ (World.rangeAt_alloc (rangeAt_last W x.c 85 n hn) o) Try.underlying85 rfl size_fl
theorem load_flS (W : World) (b : Nat) (cs : Array Value) (ht : W.there b 0 cs.size) (hc : cs.size = 5 := by rfl) : (loadVar 85 ⟨b, 0, none⟩).run Try.prog (W.setCells b 0 cs.toList) = .ok (.agg cs) (W.setCells b 0 cs.toList) :=
  run_loadVar_mid (P := Try.prog) _ b 0 85 _ _ (World.rangeAt_setCells_same W b 0 cs.toList ht) Try.underlying85 rfl (by rw [size_fl]; simp [hc])
set_option maxRecDepth 20000 in
set_option maxHeartbeats 4000000 in
theorem left_kept (xn : Nat) (xt : Bool) (xw xs : ByteArray) (t : Ft) (w : World) (hr : Rd w w.heap.size t.ga (bV t.g)) (hw : xw.size ≤ 1000000000000) :
    Calls Try.prog 54 #[(⟨xn, xt, false, xw, xs⟩ : Fl).v, t.v] w fun e w' => e = .returned (leftF ⟨xn, xt, false, xw, xs⟩ t).v ∧ Below w.heap.size w w' := by
  obtain ⟨kp, tb, ga, gc, g⟩ := t
  have HR := Lib.hid hr; clear hr
  simp only at *
  unfold Fl.v Ft.v
  simp only
  go_enter Try.func54, Try.ntmps54
  go_wp2_with fail
  obtain ⟨W4, hW4⟩ : ∃ W4, W4 = ((((w.alloc (.cells #[.int .u32 (xn : Int), .bool xt, .bool false, .string xw, .string xs] 85)).alloc (.cells #[.bool kp, .int .i64 tb, .slice ga g.length gc] 52)).alloc (.cells #[.int .u32 0, .bool false, .bool false, .string ⟨#[]⟩, .string ⟨#[]⟩] 85)).alloc (.cells #[.int .u32 (xn : Int), .bool kp, .bool false, .string ⟨#[]⟩, .string ⟨#[]⟩] 85)) := ⟨_, rfl⟩
  have HS4 : Hid (W4.heap.size = w.heap.size + 4) := by show _ = _; rw [hW4]; simp
  have HB4 : Hid (Below w.heap.size w W4) := by show Below _ _ _; rw [hW4]; exact (((box1 w _).alloc (by simp) _).alloc (by simp; omega) _).alloc (by simp; omega) _
  have HX4 : Hid (FlAt W4 w.heap.size 0 ⟨xn, xt, false, xw, xs⟩) := by
    show FlAt _ _ _ _; rw [hW4]
    exact (((FlAt.new w ⟨xn, xt, false, xw, xs⟩ _ _ rfl).alloc _).alloc _).alloc _
  have HY4 : Hid (FlAt W4 (w.heap.size + 1 + 1 + 1) 0 ⟨xn, kp, false, ⟨#[]⟩, ⟨#[]⟩⟩) := by
    show FlAt _ _ _ _; rw [hW4]
    exact FlAt.new _ ⟨xn, kp, false, ⟨#[]⟩, ⟨#[]⟩⟩ _ _ (by simp)
  have HT4 : Hid (W4.cell? ⟨w.heap.size + 1, 0, none⟩ = some (.bool kp) ∧ W4.cell? ⟨w.heap.size + 1, 1, none⟩ = some (.int .i64 tb) ∧ W4.cell? ⟨w.heap.size + 1, 2, none⟩ = some (.slice ga g.length gc)) := by
    show _ ∧ _; rw [hW4]; refine ⟨?_, ?_, ?_⟩ <;> go_simp
  have HYT : Hid (W4.there (w.heap.size + 1 + 1 + 1) 0 5) := by
    show W4.there _ _ _; rw [hW4]
    exact there_last _ _ _ _ 5 rfl (by simp)
  have HRT : Hid (W4.there (w.heap.size + 1 + 1) 0 5) := by
    show W4.there _ _ _; rw [hW4]
    exact World.there_alloc (there_last _ _ _ _ 5 rfl (by simp)) _
  have HR4 : Hid (Rd W4 W4.heap.size ga (bV g)) := (HR.out.below HB4.out).more HB4.out.size
  rw [← hW4]
  clear hW4
  obtain ⟨P, hP⟩ : ∃ P, P = partF xw.data.toList 0 tb g := ⟨_, rfl⟩
  refine (part_any xw 0 tb ga gc g W4 HR4.out (Nat.zero_le _) hw).mono ?_
  rw [← hP]
  rintro e w1 ⟨rfl, hb1⟩
  have HPP := Lib.hid hP
  clear hP
  have HX1 : Hid (FlAt w1 w.heap.size 0 ⟨xn, xt, false, xw, xs⟩) := HX4.out.below hb1 (by rw [HS4.out]; omega)
  have HY1 : Hid (FlAt w1 (w.heap.size + 1 + 1 + 1) 0 ⟨xn, kp, false, ⟨#[]⟩, ⟨#[]⟩⟩) := HY4.out.below hb1 (by rw [HS4.out]; omega)
  have HT1 : Hid (w1.cell? ⟨w.heap.size + 1, 0, none⟩ = some (.bool kp) ∧ w1.cell? ⟨w.heap.size + 1, 1, none⟩ = some (.int .i64 tb) ∧ w1.cell? ⟨w.heap.size + 1, 2, none⟩ = some (.slice ga g.length gc)) := by
    obtain ⟨a0, a1, a2⟩ := HT4.out
    refine ⟨?_, ?_, ?_⟩
    · rw [hb1.cell (p := ⟨w.heap.size + 1, 0, none⟩) (by show w.heap.size + 1 < _; rw [HS4.out]; omega)]; exact a0
    · rw [hb1.cell (p := ⟨w.heap.size + 1, 1, none⟩) (by show w.heap.size + 1 < _; rw [HS4.out]; omega)]; exact a1
    · rw [hb1.cell (p := ⟨w.heap.size + 1, 2, none⟩) (by show w.heap.size + 1 < _; rw [HS4.out]; omega)]; exact a2
  have YT1 : Hid (w1.there (w.heap.size + 1 + 1 + 1) 0 5) := there_below HYT.out hb1 (by rw [HS4.out]; omega)
  have RT1 : Hid (w1.there (w.heap.size + 1 + 1) 0 5) := there_below HRT.out hb1 (by rw [HS4.out]; omega)
  have HB1 : Hid (Below w.heap.size w w1) := HB4.out.trans (hb1.mono HB4.out.size)
  have HW1 : Hid (w.heap.size + 4 ≤ w1.heap.size) := by show _ ≤ _; have := hb1.size; rw [HS4.out] at this; exact this
  obtain ⟨x0, x1, x2, x3, x4⟩ := HX1.out
  obtain ⟨y0, y1, y2, y3, y4⟩ := HY1.out
  obtain ⟨fy0, fy1, fy2, fy3, fy4⟩ := frozen5 YT1.out
  obtain ⟨r0, r1, r2, r3, r4, c0, c1, c2, c3, c4, fr0, fr1, fr2, fr3, fr4⟩ := there5 RT1.out
  obtain ⟨t0, t1, t2⟩ := HT1.out
  clear hb1
  cases kp
  · have HE : Hid (leftF ⟨xn, xt, false, xw, xs⟩ ⟨false, tb, ga, gc, g⟩ = ⟨xn, false, false, ⟨#[]⟩, ⟨#[]⟩⟩) := by show _ = _; simp [leftF]; rfl
    have e3 : ((w1.setCell ⟨w.heap.size + 1 + 1 + 1, 3, none⟩ (.string (bs P))).setCell ⟨w.heap.size + 1 + 1 + 1, 3, none⟩ (.string ⟨#[]⟩)).cell? ⟨w.heap.size + 1 + 1 + 1, 3, none⟩ = some (.string ⟨#[]⟩) :=
      World.cell?_setCell_same _ _ _ (World.cell?_setCell_same _ _ _ (u := .string ⟨#[]⟩) (by simpa using y3))
    go_wp2_with fail
    obtain ⟨X, hX⟩ : ∃ X, X = ((((w1.setCell ⟨w.heap.size + 1 + 1 + 1, 3, none⟩ (.string (bs P))).setCell ⟨w.heap.size + 1 + 1 + 1, 3, none⟩ (.string ⟨#[]⟩)).setCell ⟨w.heap.size + 1 + 1 + 1, 2, none⟩ (.bool false)).setCell ⟨w.heap.size + 1 + 1 + 1, 4, none⟩ (.string ⟨#[]⟩)) := ⟨_, rfl⟩
    have TX : X.there (w.heap.size + 1 + 1) 0 5 := by rw [hX]; exact (World.there_setCells (World.there_setCells (World.there_setCells (World.there_setCells RT1.out (w.heap.size + 1 + 1 + 1) 3 [.string (bs P)]) (w.heap.size + 1 + 1 + 1) 3 [.string ⟨#[]⟩]) (w.heap.size + 1 + 1 + 1) 2 [.bool false]) (w.heap.size + 1 + 1 + 1) 4 [.string ⟨#[]⟩])
    have BX : Below w.heap.size w X := by rw [hX]; exact ((((HB1.out.setCell (by show w.heap.size ≤ w.heap.size + 1 + 1 + 1; omega) _).setCell (by show w.heap.size ≤ w.heap.size + 1 + 1 + 1; omega) _).setCell (by show w.heap.size ≤ w.heap.size + 1 + 1 + 1; omega) _).setCell (by show w.heap.size ≤ w.heap.size + 1 + 1 + 1; omega) _)
    rw [← hX]
    refine bodyPost_ret (v := (⟨xn, false, false, ⟨#[]⟩, ⟨#[]⟩⟩ : Fl).v) (results_cell (p := 4) (ty := 85) (b := w.heap.size + 1 + 1) rfl rfl (load_flS X (w.heap.size + 1 + 1) #[.int .u32 (xn : Int), .bool false, .bool false, .string (⟨#[]⟩), .string (⟨#[]⟩)] TX)) rfl ⟨by rw [HE.out]; rfl, ?_⟩
    exact Below_setCells (b := w.heap.size + 1 + 1) (by omega) [.int .u32 (xn : Int), .bool false, .bool false, .string (⟨#[]⟩), .string (⟨#[]⟩)] 0 _ BX
  · have HE : Hid (leftF ⟨xn, xt, false, xw, xs⟩ ⟨true, tb, ga, gc, g⟩ = ⟨xn, true, true, bs P, bs P⟩) := by show _ = _; simp [leftF, HPP.out]
    go_wp2_with fail
    obtain ⟨X, hX⟩ : ∃ X, X = (((w1.setCell ⟨w.heap.size + 1 + 1 + 1, 3, none⟩ (.string (bs P))).setCell ⟨w.heap.size + 1 + 1 + 1, 2, none⟩ (.bool true)).setCell ⟨w.heap.size + 1 + 1 + 1, 4, none⟩ (.string (bs P))) := ⟨_, rfl⟩
    have TX : X.there (w.heap.size + 1 + 1) 0 5 := by rw [hX]; exact (World.there_setCells (World.there_setCells (World.there_setCells RT1.out (w.heap.size + 1 + 1 + 1) 3 [.string (bs P)]) (w.heap.size + 1 + 1 + 1) 2 [.bool true]) (w.heap.size + 1 + 1 + 1) 4 [.string (bs P)])
    have BX : Below w.heap.size w X := by rw [hX]; exact (((HB1.out.setCell (by show w.heap.size ≤ w.heap.size + 1 + 1 + 1; omega) _).setCell (by show w.heap.size ≤ w.heap.size + 1 + 1 + 1; omega) _).setCell (by show w.heap.size ≤ w.heap.size + 1 + 1 + 1; omega) _)
    rw [← hX]
    refine bodyPost_ret (v := (⟨xn, true, true, bs P, bs P⟩ : Fl).v) (results_cell (p := 4) (ty := 85) (b := w.heap.size + 1 + 1) rfl rfl (load_flS X (w.heap.size + 1 + 1) #[.int .u32 (xn : Int), .bool true, .bool true, .string (bs P), .string (bs P)] TX)) rfl ⟨by rw [HE.out]; rfl, ?_⟩
    exact Below_setCells (b := w.heap.size + 1 + 1) (by omega) [.int .u32 (xn : Int), .bool true, .bool true, .string (bs P), .string (bs P)] 0 _ BX
theorem left_gone (xn : Nat) (xw xs : ByteArray) (t : Ft) (w : World) :
    Calls Try.prog 54 #[(⟨xn, false, true, xw, xs⟩ : Fl).v, t.v] w fun e w' => e = .returned (leftF ⟨xn, false, true, xw, xs⟩ t).v ∧ Below w.heap.size w w' := by
  obtain ⟨kp, tb, ga, gc, g⟩ := t
  unfold Fl.v Ft.v
  simp only
  cases kp
  · have HE : Hid (leftF ⟨xn, false, true, xw, xs⟩ ⟨false, tb, ga, gc, g⟩ = ⟨xn, true, true, xs, xs⟩) := by show _ = _; simp [leftF]
    go_enter Try.func54, Try.ntmps54
    go_wp2_with fail
    refine bodyPost_ret (v := (⟨xn, true, true, xs, xs⟩ : Fl).v) (results_cell (p := 4) (ty := 85) (b := w.heap.size + 1 + 1) rfl rfl (load_fl3 _ ⟨xn, true, true, xs, xs⟩ _ _ (by simp))) rfl ⟨by rw [HE.out]; rfl, ?_⟩
    exact (((box1 w _).alloc (by simp) _).alloc (by simp; omega) _).alloc (by simp; omega) _
  · have HE : Hid (leftF ⟨xn, false, true, xw, xs⟩ ⟨true, tb, ga, gc, g⟩ = ⟨xn, false, false, ⟨#[]⟩, ⟨#[]⟩⟩) := by show _ = _; simp [leftF]; rfl
    go_enter Try.func54, Try.ntmps54
    go_wp2_with fail
    refine bodyPost_ret (v := (⟨xn, false, false, ⟨#[]⟩, ⟨#[]⟩⟩ : Fl).v) (results_cell (p := 4) (ty := 85) (b := w.heap.size + 1 + 1) rfl rfl (load_fl3 _ ⟨xn, false, false, ⟨#[]⟩, ⟨#[]⟩⟩ _ _ (by simp))) rfl ⟨by rw [HE.out]; rfl, ?_⟩
    exact (((box1 w _).alloc (by simp) _).alloc (by simp; omega) _).alloc (by simp; omega) _
theorem FlAt.set_ne {w : World} {b o b' o' : Nat} {v : Value} {x : Fl} (h : FlAt w b o x) (hb : b' ≠ b) : FlAt (w.setCell ⟨b', o', none⟩ v) b o x := by
  obtain ⟨h0, h1, h2, h3, h4⟩ := h
  refine ⟨?_, ?_, ?_, ?_, ?_⟩ <;> (rw [World.cell?_setCell_other _ _ _ _ (fun e => hb (by injection e))]; assumption)
theorem left_part (xn : Nat) (kp : Bool) (tb : Int) (ga : Option Addr) (gc : Nat) (g : List UInt8) (xw xs : ByteArray) (K : Nat) (hK : K = commonF xw.data.toList xs.data.toList) (hc : ¬ (K < xs.size ∧ kp = false)) : leftF ⟨xn, true, true, xw, xs⟩ ⟨kp, tb, ga, gc, g⟩ = ⟨xn, true, true, bs (partF xw.data.toList K tb g), bs (partF xw.data.toList K tb g)⟩ := by
  subst hK; simp only [leftF]; simp [hc]
set_option maxRecDepth 20000 in
set_option maxHeartbeats 4000000 in
theorem left_both (xn : Nat) (xw xs : ByteArray) (t : Ft) (w : World) (hr : Rd w w.heap.size t.ga (bV t.g)) (hw : xw.size ≤ 1000000000000) (hs : xs.size ≤ 1000000000000) :
    Calls Try.prog 54 #[(⟨xn, true, true, xw, xs⟩ : Fl).v, t.v] w fun e w' => e = .returned (leftF ⟨xn, true, true, xw, xs⟩ t).v ∧ Below w.heap.size w w' := by
  obtain ⟨kp, tb, ga, gc, g⟩ := t
  have HR := Lib.hid hr; clear hr
  simp only at *
  unfold Fl.v Ft.v
  simp only
  go_enter Try.func54, Try.ntmps54
  go_wp2_with fail
  obtain ⟨W4, hW4⟩ : ∃ W4, W4 = ((((w.alloc (.cells #[.int .u32 (xn : Int), .bool true, .bool true, .string xw, .string xs] 85)).alloc (.cells #[.bool kp, .int .i64 tb, .slice ga g.length gc] 52)).alloc (.cells #[.int .u32 0, .bool false, .bool false, .string ⟨#[]⟩, .string ⟨#[]⟩] 85)).alloc (.cells #[.int .u32 (xn : Int), .bool false, .bool false, .string ⟨#[]⟩, .string ⟨#[]⟩] 85)) := ⟨_, rfl⟩
  have HS4 : Hid (W4.heap.size = w.heap.size + 4) := by show _ = _; rw [hW4]; simp
  have HB4 : Hid (Below w.heap.size w W4) := by show Below _ _ _; rw [hW4]; exact (((box1 w _).alloc (by simp) _).alloc (by simp; omega) _).alloc (by simp; omega) _
  have HX4 : Hid (FlAt W4 w.heap.size 0 ⟨xn, true, true, xw, xs⟩) := by
    show FlAt _ _ _ _; rw [hW4]
    exact (((FlAt.new w ⟨xn, true, true, xw, xs⟩ _ _ rfl).alloc _).alloc _).alloc _
  have HY4 : Hid (FlAt W4 (w.heap.size + 1 + 1 + 1) 0 ⟨xn, false, false, ⟨#[]⟩, ⟨#[]⟩⟩) := by
    show FlAt _ _ _ _; rw [hW4]
    exact FlAt.new _ ⟨xn, false, false, ⟨#[]⟩, ⟨#[]⟩⟩ _ _ (by simp)
  have HT4 : Hid (W4.cell? ⟨w.heap.size + 1, 0, none⟩ = some (.bool kp) ∧ W4.cell? ⟨w.heap.size + 1, 1, none⟩ = some (.int .i64 tb) ∧ W4.cell? ⟨w.heap.size + 1, 2, none⟩ = some (.slice ga g.length gc)) := by
    show _ ∧ _; rw [hW4]; refine ⟨?_, ?_, ?_⟩ <;> go_simp
  have HYT : Hid (W4.there (w.heap.size + 1 + 1 + 1) 0 5) := by
    show W4.there _ _ _; rw [hW4]
    exact there_last _ _ _ _ 5 rfl (by simp)
  have HRT : Hid (W4.there (w.heap.size + 1 + 1) 0 5) := by
    show W4.there _ _ _; rw [hW4]
    exact World.there_alloc (there_last _ _ _ _ 5 rfl (by simp)) _
  have HR4 : Hid (Rd W4 W4.heap.size ga (bV g)) := (HR.out.below HB4.out).more HB4.out.size
  rw [← hW4]
  clear hW4
  obtain ⟨K, hK⟩ : ∃ K, K = commonF xw.data.toList xs.data.toList := ⟨_, rfl⟩
  have hKw : K ≤ xw.size := by rw [hK, ← data_length]; exact (common_le _ _).1
  refine (common_any xw xs W4 hw hs).mono ?_
  rw [← hK]
  rintro e w1 ⟨rfl, hb1⟩
  have HK := Lib.hid hK
  clear hK
  have HX1 : Hid (FlAt w1 w.heap.size 0 ⟨xn, true, true, xw, xs⟩) := HX4.out.below hb1 (by rw [HS4.out]; omega)
  have HY1 : Hid (FlAt w1 (w.heap.size + 1 + 1 + 1) 0 ⟨xn, false, false, ⟨#[]⟩, ⟨#[]⟩⟩) := HY4.out.below hb1 (by rw [HS4.out]; omega)
  have HT1 : Hid (w1.cell? ⟨w.heap.size + 1, 0, none⟩ = some (.bool kp) ∧ w1.cell? ⟨w.heap.size + 1, 1, none⟩ = some (.int .i64 tb) ∧ w1.cell? ⟨w.heap.size + 1, 2, none⟩ = some (.slice ga g.length gc)) := by
    obtain ⟨a0, a1, a2⟩ := HT4.out
    refine ⟨?_, ?_, ?_⟩
    · rw [hb1.cell (p := ⟨w.heap.size + 1, 0, none⟩) (by show w.heap.size + 1 < _; rw [HS4.out]; omega)]; exact a0
    · rw [hb1.cell (p := ⟨w.heap.size + 1, 1, none⟩) (by show w.heap.size + 1 < _; rw [HS4.out]; omega)]; exact a1
    · rw [hb1.cell (p := ⟨w.heap.size + 1, 2, none⟩) (by show w.heap.size + 1 < _; rw [HS4.out]; omega)]; exact a2
  have YT1 : Hid (w1.there (w.heap.size + 1 + 1 + 1) 0 5) := there_below HYT.out hb1 (by rw [HS4.out]; omega)
  have RT1 : Hid (w1.there (w.heap.size + 1 + 1) 0 5) := there_below HRT.out hb1 (by rw [HS4.out]; omega)
  have HB1 : Hid (Below w.heap.size w w1) := HB4.out.trans (hb1.mono HB4.out.size)
  have HW1 : Hid (w.heap.size + 4 ≤ w1.heap.size) := by show _ ≤ _; have := hb1.size; rw [HS4.out] at this; exact this
  obtain ⟨x0, x1, x2, x3, x4⟩ := HX1.out
  obtain ⟨y0, y1, y2, y3, y4⟩ := HY1.out
  obtain ⟨fy0, fy1, fy2, fy3, fy4⟩ := frozen5 YT1.out
  obtain ⟨r0, r1, r2, r3, r4, c0, c1, c2, c3, c4, fr0, fr1, fr2, fr3, fr4⟩ := there5 RT1.out
  obtain ⟨t0, t1, t2⟩ := HT1.out
  clear hb1
  by_cases hc : K < xs.size ∧ kp = false
  · obtain ⟨hc1, rfl⟩ := hc
    have d1 : decide (K < xs.size) = true := decide_eq_true hc1
    have HE : Hid (leftF ⟨xn, true, true, xw, xs⟩ ⟨false, tb, ga, gc, g⟩ = ⟨xn, true, true, xs, xs⟩) := by show _ = _; simp [leftF, ← HK.out, hc1]
    go_wp2_with fail
    obtain ⟨X, hX⟩ : ∃ X, X = ((((w1.setCell ⟨w.heap.size + 1 + 1 + 1, 1, none⟩ (.bool true)).setCell ⟨w.heap.size + 1 + 1 + 1, 3, none⟩ (.string xs)).setCell ⟨w.heap.size + 1 + 1 + 1, 2, none⟩ (.bool true)).setCell ⟨w.heap.size + 1 + 1 + 1, 4, none⟩ (.string xs)) := ⟨_, rfl⟩
    have TX : X.there (w.heap.size + 1 + 1) 0 5 := by rw [hX]; exact (World.there_setCells (World.there_setCells (World.there_setCells (World.there_setCells RT1.out (w.heap.size + 1 + 1 + 1) 1 [.bool true]) (w.heap.size + 1 + 1 + 1) 3 [.string xs]) (w.heap.size + 1 + 1 + 1) 2 [.bool true]) (w.heap.size + 1 + 1 + 1) 4 [.string xs])
    have BX : Below w.heap.size w X := by rw [hX]; exact ((((HB1.out.setCell (by show w.heap.size ≤ w.heap.size + 1 + 1 + 1; omega) _).setCell (by show w.heap.size ≤ w.heap.size + 1 + 1 + 1; omega) _).setCell (by show w.heap.size ≤ w.heap.size + 1 + 1 + 1; omega) _).setCell (by show w.heap.size ≤ w.heap.size + 1 + 1 + 1; omega) _)
    rw [← hX]
    refine bodyPost_ret (v := (⟨xn, true, true, xs, xs⟩ : Fl).v) (results_cell (p := 4) (ty := 85) (b := w.heap.size + 1 + 1) rfl rfl (load_flS X (w.heap.size + 1 + 1) #[.int .u32 (xn : Int), .bool true, .bool true, .string (xs), .string (xs)] TX)) rfl ⟨by rw [HE.out]; rfl, ?_⟩
    exact Below_setCells (b := w.heap.size + 1 + 1) (by omega) [.int .u32 (xn : Int), .bool true, .bool true, .string (xs), .string (xs)] 0 _ BX
  · have HE0 := Lib.hid (left_part xn kp tb ga gc g xw xs K HK.out hc)
    obtain ⟨P, hP⟩ : ∃ P, P = partF xw.data.toList K tb g := ⟨_, rfl⟩
    have HE : Hid (leftF ⟨xn, true, true, xw, xs⟩ ⟨kp, tb, ga, gc, g⟩ = ⟨xn, true, true, bs P, bs P⟩) := by show _ = _; rw [HE0.out, hP]
    obtain ⟨X1, hX1⟩ : ∃ X1, X1 = w1.setCell ⟨w.heap.size + 1 + 1 + 1, 1, none⟩ (.bool true) := ⟨_, rfl⟩
    have HXx : Hid (FlAt X1 w.heap.size 0 ⟨xn, true, true, xw, xs⟩) := by show FlAt _ _ _ _; rw [hX1]; exact HX1.out.set_ne (by omega)
    have HYx : Hid (FlAt X1 (w.heap.size + 1 + 1 + 1) 0 ⟨xn, true, false, ⟨#[]⟩, ⟨#[]⟩⟩) := by
      show FlAt _ _ _ _; rw [hX1]
      obtain ⟨z0, z1, z2, z3, z4⟩ := HY1.out
      refine ⟨?_, World.cell?_setCell_same _ _ _ z1, ?_, ?_, ?_⟩ <;> (rw [World.cell?_setCell_other _ _ _ _ (by simp)]; assumption)
    have HTx : Hid (X1.cell? ⟨w.heap.size + 1, 0, none⟩ = some (.bool kp) ∧ X1.cell? ⟨w.heap.size + 1, 1, none⟩ = some (.int .i64 tb) ∧ X1.cell? ⟨w.heap.size + 1, 2, none⟩ = some (.slice ga g.length gc)) := by
      show _ ∧ _; rw [hX1]
      obtain ⟨a0, a1, a2⟩ := HT1.out
      refine ⟨?_, ?_, ?_⟩ <;> (rw [World.cell?_setCell_other _ _ _ _ (fun e => by injection e with e; omega)]; assumption)
    have HYTx : Hid (X1.there (w.heap.size + 1 + 1 + 1) 0 5) := by show X1.there _ _ _; rw [hX1]; exact World.there_setCells YT1.out (w.heap.size + 1 + 1 + 1) 1 [.bool true]
    have HRTx : Hid (X1.there (w.heap.size + 1 + 1) 0 5) := by show X1.there _ _ _; rw [hX1]; exact World.there_setCells RT1.out (w.heap.size + 1 + 1 + 1) 1 [.bool true]
    have HBx : Hid (Below w.heap.size w X1) := by show Below _ _ _; rw [hX1]; exact HB1.out.setCell (by show w.heap.size ≤ w.heap.size + 1 + 1 + 1; omega) _
    have HSx : Hid (w.heap.size + 4 ≤ X1.heap.size) := by show _ ≤ _; rw [hX1]; have := HW1.out; simp; omega
    have HRx : Hid (Rd X1 X1.heap.size ga (bV g)) := (HR.out.below HBx.out).more HBx.out.size
    have HP := Lib.hid hP
    have d2 : ¬ K < xs.size ∨ kp = true := by
      by_cases h : K < xs.size
      · right; cases kp
        · exact absurd ⟨h, rfl⟩ hc
        · rfl
      · exact .inl h
    clear hc hP
    have HX1' := Lib.hid hX1
    clear hX1
    rcases d2 with hc1 | rfl
    · have d1 : decide (K < xs.size) = false := decide_eq_false hc1
      go_wp2_with fail
      rw [← HX1'.out]
      clear x0 x1 x2 x3 x4 y0 y1 y2 y3 y4 t0 t1 t2 c0 c1 c2 c3 c4 fr0 fr1 fr2 fr3 fr4 fy0 fy1 fy2 fy3 fy4
      refine (part_any xw K tb ga gc g X1 HRx.out hKw hw).mono ?_
      rw [← HP.out]
      rintro e w2 ⟨rfl, hb2⟩
      have HX2 : Hid (FlAt w2 w.heap.size 0 ⟨xn, true, true, xw, xs⟩) := HXx.out.below hb2 (by have := HSx.out; omega)
      have HY2 : Hid (FlAt w2 (w.heap.size + 1 + 1 + 1) 0 ⟨xn, true, false, ⟨#[]⟩, ⟨#[]⟩⟩) := HYx.out.below hb2 (by have := HSx.out; omega)
      have HT2 : Hid (w2.cell? ⟨w.heap.size + 1, 0, none⟩ = some (.bool kp) ∧ w2.cell? ⟨w.heap.size + 1, 1, none⟩ = some (.int .i64 tb) ∧ w2.cell? ⟨w.heap.size + 1, 2, none⟩ = some (.slice ga g.length gc)) := by
        obtain ⟨a0, a1, a2⟩ := HTx.out
        refine ⟨?_, ?_, ?_⟩
        · rw [hb2.cell (p := ⟨w.heap.size + 1, 0, none⟩) (by show w.heap.size + 1 < _; have := HSx.out; omega)]; exact a0
        · rw [hb2.cell (p := ⟨w.heap.size + 1, 1, none⟩) (by show w.heap.size + 1 < _; have := HSx.out; omega)]; exact a1
        · rw [hb2.cell (p := ⟨w.heap.size + 1, 2, none⟩) (by show w.heap.size + 1 < _; have := HSx.out; omega)]; exact a2
      have YT2 : Hid (w2.there (w.heap.size + 1 + 1 + 1) 0 5) := there_below HYTx.out hb2 (by have := HSx.out; omega)
      have RT2 : Hid (w2.there (w.heap.size + 1 + 1) 0 5) := there_below HRTx.out hb2 (by have := HSx.out; omega)
      have HB2 : Hid (Below w.heap.size w w2) := HBx.out.trans (hb2.mono HBx.out.size)
      have HW2 : Hid (w.heap.size + 4 ≤ w2.heap.size) := by show _ ≤ _; have := hb2.size; have := HSx.out; omega
      obtain ⟨x0, x1, x2, x3, x4⟩ := HX2.out
      obtain ⟨y0, y1, y2, y3, y4⟩ := HY2.out
      obtain ⟨fy0, fy1, fy2, fy3, fy4⟩ := frozen5 YT2.out
      obtain ⟨r0, r1, r2, r3, r4, c0, c1, c2, c3, c4, fr0, fr1, fr2, fr3, fr4⟩ := there5 RT2.out
      obtain ⟨t0, t1, t2⟩ := HT2.out
      clear hb2
      go_wp2_with fail
      obtain ⟨X, hX⟩ : ∃ X, X = (((w2.setCell ⟨w.heap.size + 1 + 1 + 1, 3, none⟩ (.string (bs P))).setCell ⟨w.heap.size + 1 + 1 + 1, 2, none⟩ (.bool true)).setCell ⟨w.heap.size + 1 + 1 + 1, 4, none⟩ (.string (bs P))) := ⟨_, rfl⟩
      have TX : X.there (w.heap.size + 1 + 1) 0 5 := by rw [hX]; exact (World.there_setCells (World.there_setCells (World.there_setCells RT2.out (w.heap.size + 1 + 1 + 1) 3 [.string (bs P)]) (w.heap.size + 1 + 1 + 1) 2 [.bool true]) (w.heap.size + 1 + 1 + 1) 4 [.string (bs P)])
      have BX : Below w.heap.size w X := by rw [hX]; exact (((HB2.out.setCell (by show w.heap.size ≤ w.heap.size + 1 + 1 + 1; omega) _).setCell (by show w.heap.size ≤ w.heap.size + 1 + 1 + 1; omega) _).setCell (by show w.heap.size ≤ w.heap.size + 1 + 1 + 1; omega) _)
      rw [← hX]
      refine bodyPost_ret (v := (⟨xn, true, true, bs P, bs P⟩ : Fl).v) (results_cell (p := 4) (ty := 85) (b := w.heap.size + 1 + 1) rfl rfl (load_flS X (w.heap.size + 1 + 1) #[.int .u32 (xn : Int), .bool true, .bool true, .string (bs P), .string (bs P)] TX)) rfl ⟨by rw [HE.out]; rfl, ?_⟩
      exact Below_setCells (b := w.heap.size + 1 + 1) (by omega) [.int .u32 (xn : Int), .bool true, .bool true, .string (bs P), .string (bs P)] 0 _ BX
    · by_cases hc1 : K < xs.size
      · have d1 : decide (K < xs.size) = true := decide_eq_true hc1
        go_wp2_with fail
        rw [← HX1'.out]
        clear x0 x1 x2 x3 x4 y0 y1 y2 y3 y4 t0 t1 t2 c0 c1 c2 c3 c4 fr0 fr1 fr2 fr3 fr4 fy0 fy1 fy2 fy3 fy4
        refine (part_any xw K tb ga gc g X1 HRx.out hKw hw).mono ?_
        rw [← HP.out]
        rintro e w2 ⟨rfl, hb2⟩
        have HX2 : Hid (FlAt w2 w.heap.size 0 ⟨xn, true, true, xw, xs⟩) := HXx.out.below hb2 (by have := HSx.out; omega)
        have HY2 : Hid (FlAt w2 (w.heap.size + 1 + 1 + 1) 0 ⟨xn, true, false, ⟨#[]⟩, ⟨#[]⟩⟩) := HYx.out.below hb2 (by have := HSx.out; omega)
        have HT2 : Hid (w2.cell? ⟨w.heap.size + 1, 0, none⟩ = some (.bool true) ∧ w2.cell? ⟨w.heap.size + 1, 1, none⟩ = some (.int .i64 tb) ∧ w2.cell? ⟨w.heap.size + 1, 2, none⟩ = some (.slice ga g.length gc)) := by
          obtain ⟨a0, a1, a2⟩ := HTx.out
          refine ⟨?_, ?_, ?_⟩
          · rw [hb2.cell (p := ⟨w.heap.size + 1, 0, none⟩) (by show w.heap.size + 1 < _; have := HSx.out; omega)]; exact a0
          · rw [hb2.cell (p := ⟨w.heap.size + 1, 1, none⟩) (by show w.heap.size + 1 < _; have := HSx.out; omega)]; exact a1
          · rw [hb2.cell (p := ⟨w.heap.size + 1, 2, none⟩) (by show w.heap.size + 1 < _; have := HSx.out; omega)]; exact a2
        have YT2 : Hid (w2.there (w.heap.size + 1 + 1 + 1) 0 5) := there_below HYTx.out hb2 (by have := HSx.out; omega)
        have RT2 : Hid (w2.there (w.heap.size + 1 + 1) 0 5) := there_below HRTx.out hb2 (by have := HSx.out; omega)
        have HB2 : Hid (Below w.heap.size w w2) := HBx.out.trans (hb2.mono HBx.out.size)
        have HW2 : Hid (w.heap.size + 4 ≤ w2.heap.size) := by show _ ≤ _; have := hb2.size; have := HSx.out; omega
        obtain ⟨x0, x1, x2, x3, x4⟩ := HX2.out
        obtain ⟨y0, y1, y2, y3, y4⟩ := HY2.out
        obtain ⟨fy0, fy1, fy2, fy3, fy4⟩ := frozen5 YT2.out
        obtain ⟨r0, r1, r2, r3, r4, c0, c1, c2, c3, c4, fr0, fr1, fr2, fr3, fr4⟩ := there5 RT2.out
        obtain ⟨t0, t1, t2⟩ := HT2.out
        clear hb2
        go_wp2_with fail
        obtain ⟨X, hX⟩ : ∃ X, X = (((w2.setCell ⟨w.heap.size + 1 + 1 + 1, 3, none⟩ (.string (bs P))).setCell ⟨w.heap.size + 1 + 1 + 1, 2, none⟩ (.bool true)).setCell ⟨w.heap.size + 1 + 1 + 1, 4, none⟩ (.string (bs P))) := ⟨_, rfl⟩
        have TX : X.there (w.heap.size + 1 + 1) 0 5 := by rw [hX]; exact (World.there_setCells (World.there_setCells (World.there_setCells RT2.out (w.heap.size + 1 + 1 + 1) 3 [.string (bs P)]) (w.heap.size + 1 + 1 + 1) 2 [.bool true]) (w.heap.size + 1 + 1 + 1) 4 [.string (bs P)])
        have BX : Below w.heap.size w X := by rw [hX]; exact (((HB2.out.setCell (by show w.heap.size ≤ w.heap.size + 1 + 1 + 1; omega) _).setCell (by show w.heap.size ≤ w.heap.size + 1 + 1 + 1; omega) _).setCell (by show w.heap.size ≤ w.heap.size + 1 + 1 + 1; omega) _)
        rw [← hX]
        refine bodyPost_ret (v := (⟨xn, true, true, bs P, bs P⟩ : Fl).v) (results_cell (p := 4) (ty := 85) (b := w.heap.size + 1 + 1) rfl rfl (load_flS X (w.heap.size + 1 + 1) #[.int .u32 (xn : Int), .bool true, .bool true, .string (bs P), .string (bs P)] TX)) rfl ⟨by rw [HE.out]; rfl, ?_⟩
        exact Below_setCells (b := w.heap.size + 1 + 1) (by omega) [.int .u32 (xn : Int), .bool true, .bool true, .string (bs P), .string (bs P)] 0 _ BX
      · have d1 : decide (K < xs.size) = false := decide_eq_false hc1
        go_wp2_with fail
        rw [← HX1'.out]
        clear x0 x1 x2 x3 x4 y0 y1 y2 y3 y4 t0 t1 t2 c0 c1 c2 c3 c4 fr0 fr1 fr2 fr3 fr4 fy0 fy1 fy2 fy3 fy4
        refine (part_any xw K tb ga gc g X1 HRx.out hKw hw).mono ?_
        rw [← HP.out]
        rintro e w2 ⟨rfl, hb2⟩
        have HX2 : Hid (FlAt w2 w.heap.size 0 ⟨xn, true, true, xw, xs⟩) := HXx.out.below hb2 (by have := HSx.out; omega)
        have HY2 : Hid (FlAt w2 (w.heap.size + 1 + 1 + 1) 0 ⟨xn, true, false, ⟨#[]⟩, ⟨#[]⟩⟩) := HYx.out.below hb2 (by have := HSx.out; omega)
        have HT2 : Hid (w2.cell? ⟨w.heap.size + 1, 0, none⟩ = some (.bool true) ∧ w2.cell? ⟨w.heap.size + 1, 1, none⟩ = some (.int .i64 tb) ∧ w2.cell? ⟨w.heap.size + 1, 2, none⟩ = some (.slice ga g.length gc)) := by
          obtain ⟨a0, a1, a2⟩ := HTx.out
          refine ⟨?_, ?_, ?_⟩
          · rw [hb2.cell (p := ⟨w.heap.size + 1, 0, none⟩) (by show w.heap.size + 1 < _; have := HSx.out; omega)]; exact a0
          · rw [hb2.cell (p := ⟨w.heap.size + 1, 1, none⟩) (by show w.heap.size + 1 < _; have := HSx.out; omega)]; exact a1
          · rw [hb2.cell (p := ⟨w.heap.size + 1, 2, none⟩) (by show w.heap.size + 1 < _; have := HSx.out; omega)]; exact a2
        have YT2 : Hid (w2.there (w.heap.size + 1 + 1 + 1) 0 5) := there_below HYTx.out hb2 (by have := HSx.out; omega)
        have RT2 : Hid (w2.there (w.heap.size + 1 + 1) 0 5) := there_below HRTx.out hb2 (by have := HSx.out; omega)
        have HB2 : Hid (Below w.heap.size w w2) := HBx.out.trans (hb2.mono HBx.out.size)
        have HW2 : Hid (w.heap.size + 4 ≤ w2.heap.size) := by show _ ≤ _; have := hb2.size; have := HSx.out; omega
        obtain ⟨x0, x1, x2, x3, x4⟩ := HX2.out
        obtain ⟨y0, y1, y2, y3, y4⟩ := HY2.out
        obtain ⟨fy0, fy1, fy2, fy3, fy4⟩ := frozen5 YT2.out
        obtain ⟨r0, r1, r2, r3, r4, c0, c1, c2, c3, c4, fr0, fr1, fr2, fr3, fr4⟩ := there5 RT2.out
        obtain ⟨t0, t1, t2⟩ := HT2.out
        clear hb2
        go_wp2_with fail
        obtain ⟨X, hX⟩ : ∃ X, X = (((w2.setCell ⟨w.heap.size + 1 + 1 + 1, 3, none⟩ (.string (bs P))).setCell ⟨w.heap.size + 1 + 1 + 1, 2, none⟩ (.bool true)).setCell ⟨w.heap.size + 1 + 1 + 1, 4, none⟩ (.string (bs P))) := ⟨_, rfl⟩
        have TX : X.there (w.heap.size + 1 + 1) 0 5 := by rw [hX]; exact (World.there_setCells (World.there_setCells (World.there_setCells RT2.out (w.heap.size + 1 + 1 + 1) 3 [.string (bs P)]) (w.heap.size + 1 + 1 + 1) 2 [.bool true]) (w.heap.size + 1 + 1 + 1) 4 [.string (bs P)])
        have BX : Below w.heap.size w X := by rw [hX]; exact (((HB2.out.setCell (by show w.heap.size ≤ w.heap.size + 1 + 1 + 1; omega) _).setCell (by show w.heap.size ≤ w.heap.size + 1 + 1 + 1; omega) _).setCell (by show w.heap.size ≤ w.heap.size + 1 + 1 + 1; omega) _)
        rw [← hX]
        refine bodyPost_ret (v := (⟨xn, true, true, bs P, bs P⟩ : Fl).v) (results_cell (p := 4) (ty := 85) (b := w.heap.size + 1 + 1) rfl rfl (load_flS X (w.heap.size + 1 + 1) #[.int .u32 (xn : Int), .bool true, .bool true, .string (bs P), .string (bs P)] TX)) rfl ⟨by rw [HE.out]; rfl, ?_⟩
        exact Below_setCells (b := w.heap.size + 1 + 1) (by omega) [.int .u32 (xn : Int), .bool true, .bool true, .string (bs P), .string (bs P)] 0 _ BX
theorem left_any (x : Fl) (t : Ft) (w : World) (hr : Rd w w.heap.size t.ga (bV t.g)) (hw : x.now.size ≤ 1000000000000) (hs : x.safe.size ≤ 1000000000000) :
    Calls Try.prog 54 #[x.v, t.v] w fun e w' => e = .returned (leftF x t).v ∧ Below w.heap.size w w' := by
  obtain ⟨xn, xt, xk, xw, xs⟩ := x
  cases xk
  · exact left_kept xn xt xw xs t w hr hw
  · cases xt
    · exact left_gone xn xw xs t w
    · exact left_both xn xw xs t w hr hw hs
end Go.Proofs.Ythfhmohbfoolnaa
