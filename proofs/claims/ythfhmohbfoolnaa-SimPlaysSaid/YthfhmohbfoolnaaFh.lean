import Derived.Test.YthfhmohbfoolnaaFg
namespace Go.Proofs.Ythfhmohbfoolnaa
open Go Go.RowKit

set_option maxRecDepth 20000 in
set_option maxHeartbeats 4000000 in
theorem sync_fs (a : Option Addr) (c : Nat) (m : FSm) (n : Nat) (w : World) (hr : Rd w w.heap.size a (flF m.files)) (hl : m.files.length ≤ 1000000000) (hlc : m.files.length ≤ c) (hc : c ≤ maxLen) (hf1 : -9223372036854775808 ≤ m.fuse) (hf2 : m.fuse ≤ 9223372036854775807) :
    Calls Try.prog 37 #[fsv a m.files.length c m.fuse m.down, .int .u32 (n : Int)] w (FsErr w a m.files (syncF m n)) := by
  have HR := Lib.hid hr; have HC := Lib.hid hc; clear hr hc
  obtain ⟨L, fu, dn⟩ := m
  simp only at *
  obtain ⟨x, hx⟩ : ∃ x, x = getF L n := ⟨_, rfl⟩
  have HX := Lib.hid hx; clear hx
  unfold fsv
  go_enter Try.func37, Try.ntmps37
  go_wp2_with fail
  obtain ⟨W2, hW2⟩ : ∃ W2, W2 = ((w.alloc (.cells #[.slice a L.length c, .int .i64 fu, .bool dn] 28)).alloc (.cells #[.slice none 0 0, .int .i64 0, .bool false] 28)) := ⟨_, rfl⟩
  rw [← hW2]
  have HS2 : Hid (W2.heap.size = w.heap.size + 2) := by show _ = _; rw [hW2]; simp
  have HB2 : Hid (Below w.heap.size w W2) := by show Below _ _ _; rw [hW2]; exact (box1 w _).alloc (by simp) _
  have HRES : Hid (W2.there (w.heap.size + 1) 0 3) := by
    show W2.there _ _ _; rw [hW2]
    exact there_last _ #[.slice none 0 0, .int .i64 0, .bool false] 28 _ 3 rfl (by simp)
  have C0 : Hid (W2.cell? ⟨w.heap.size, 0, none⟩ = some (.slice a L.length c)) := by show _ = _; rw [hW2]; go_simp
  have C1 : Hid (W2.cell? ⟨w.heap.size, 1, none⟩ = some (.int .i64 fu)) := by show _ = _; rw [hW2]; go_simp
  have C2 : Hid (W2.cell? ⟨w.heap.size, 2, none⟩ = some (.bool dn)) := by show _ = _; rw [hW2]; go_simp
  have HR2 : Hid (Rd W2 W2.heap.size a (flF L)) := (HR.out.below HB2.out).more (by rw [HS2.out]; omega)
  clear hW2
  refine (refGetF_any a c L fu dn n W2 HR2.out (by omega)).mono ?_
  rw [← HX.out]
  rintro e w1 ⟨rfl, hb1⟩
  have c0 : w1.cell? ⟨w.heap.size, 0, none⟩ = some (.slice a L.length c) := by rw [hb1.cell (p := ⟨w.heap.size, 0, none⟩) (by show w.heap.size < _; rw [HS2.out]; omega)]; exact C0.out
  have c1 : w1.cell? ⟨w.heap.size, 1, none⟩ = some (.int .i64 fu) := by rw [hb1.cell (p := ⟨w.heap.size, 1, none⟩) (by show w.heap.size < _; rw [HS2.out]; omega)]; exact C1.out
  have c2 : w1.cell? ⟨w.heap.size, 2, none⟩ = some (.bool dn) := by rw [hb1.cell (p := ⟨w.heap.size, 2, none⟩) (by show w.heap.size < _; rw [HS2.out]; omega)]; exact C2.out
  have T1 := Lib.hid (there_below HRES.out hb1 (by rw [HS2.out]; omega))
  have n0 : w.heap.size < w1.heap.size := by have := hb1.size; rw [HS2.out] at this; omega
  have n1 : w.heap.size + 1 < w1.heap.size := by have := hb1.size; rw [HS2.out] at this; omega
  have HB1 := Lib.hid (HB2.out.trans (hb1.mono (by rw [HS2.out]; omega)))
  clear hb1 C0 C1 C2
  obtain ⟨xn, xt, xk, xw, xs⟩ := x
  unfold Fl.v
  cases dn
  · cases xt
    · cases xk
      · skip
        go_wp2_with fail
        obtain ⟨WX, hWX⟩ : ∃ WX, WX = w1.alloc (.cells #[.int .u32 (xn : Int), .bool false, .bool false, .string xw, .string xs] 85) := ⟨_, rfl⟩
        have HBX : Hid (Below w.heap.size w WX) := by show Below _ _ _; rw [hWX]; exact HB1.out.alloc (by omega) _
        have HTX : Hid (WX.there (w.heap.size + 1) 0 3) := by show WX.there _ _ _; rw [hWX]; exact World.there_alloc T1.out _
        have nX : w.heap.size + 1 < WX.heap.size := by rw [hWX]; simp; omega
        have c0X : WX.cell? ⟨w.heap.size, 0, none⟩ = some (.slice a L.length c) := by rw [hWX, World.cell?_alloc_lt _ _ _ (by show w.heap.size < _; omega)]; exact c0
        have c1X : WX.cell? ⟨w.heap.size, 1, none⟩ = some (.int .i64 fu) := by rw [hWX, World.cell?_alloc_lt _ _ _ (by show w.heap.size < _; omega)]; exact c1
        have c2X : WX.cell? ⟨w.heap.size, 2, none⟩ = some (.bool false) := by rw [hWX, World.cell?_alloc_lt _ _ _ (by show w.heap.size < _; omega)]; exact c2
        have hxX : FlAt WX w1.heap.size 0 ⟨xn, false, false, xw, xs⟩ := by rw [hWX]; exact FlAt.new w1 ⟨xn, false, false, xw, xs⟩ _ _ rfl
        have s1X : w1.heap.size < WX.heap.size := by rw [hWX]; simp
        have t9X : WX.there w1.heap.size 0 5 := by rw [hWX]; exact there_last w1 #[.int .u32 (xn : Int), .bool false, .bool false, .string xw, .string xs] _ _ 5 rfl rfl
        rw [← hWX]
        clear hWX c0 c1 c2
        refine (loose_is (x := ⟨xn, false, false, xw, xs⟩) (b := false) (by simp [looseF]) WX).mono ?_
        rintro e w2 ⟨rfl, hb2⟩
        have c0 : w2.cell? ⟨w.heap.size, 0, none⟩ = some (.slice a L.length c) := by rw [hb2.cell (p := ⟨w.heap.size, 0, none⟩) (by show w.heap.size < _; omega)]; exact c0X
        have c1 : w2.cell? ⟨w.heap.size, 1, none⟩ = some (.int .i64 fu) := by rw [hb2.cell (p := ⟨w.heap.size, 1, none⟩) (by show w.heap.size < _; omega)]; exact c1X
        have c2 : w2.cell? ⟨w.heap.size, 2, none⟩ = some (.bool false) := by rw [hb2.cell (p := ⟨w.heap.size, 2, none⟩) (by show w.heap.size < _; omega)]; exact c2X
        obtain ⟨x0, x1, x2, x3, x4⟩ := hxX.below hb2 s1X
        have T2 := Lib.hid (there_below HTX.out hb2 (by omega))
        have n2 : w.heap.size + 1 < w2.heap.size := by have := hb2.size; omega
        have HB2' := Lib.hid (HBX.out.trans (hb2.mono HBX.out.size))
        have s2X : w1.heap.size < w2.heap.size := by have := hb2.size; omega
        have HTW := Lib.hid (⟨s2X, hb2, s1X⟩ : w1.heap.size < w2.heap.size ∧ Below WX.heap.size WX w2 ∧ w1.heap.size < WX.heap.size)
        have T9 := Lib.hid (there_below t9X hb2 s1X)
        clear hb2 c0X c1X c2X hxX HTX nX t9X
        have HACT : Hid (syncF ⟨L, fu, false⟩ n = (⟨L, fu, false⟩, 5)) := by show _ = _; unfold syncF; simp only [← HX.out]; simp [looseF]
        obtain ⟨z0, z1, z2, p0, p1, p2, r0, r1, r2⟩ := there3 T2.out
        go_wp2_with fail
        refine bodyPost_ret (v := .tuple #[fsv a L.length c fu false, .int .i64 5]) (results_cell_two (p := 4) (u := 5) (ty := 28) (b := w.heap.size + 1) (x := .int .i64 5) rfl rfl rfl (load_fs w2 (w.heap.size + 1) #[.slice a L.length c, .int .i64 fu, .bool false] T2.out)) rfl ?_
        rw [HACT.out]
        exact FsErr.same HR.out hlc HC.out (Below_setCells (b := w.heap.size + 1) (by omega) [.slice a L.length c, .int .i64 fu, .bool false] 0 _ HB2'.out)
      · skip
        go_wp2_with fail
        obtain ⟨WX, hWX⟩ : ∃ WX, WX = w1.alloc (.cells #[.int .u32 (xn : Int), .bool false, .bool true, .string xw, .string xs] 85) := ⟨_, rfl⟩
        have HBX : Hid (Below w.heap.size w WX) := by show Below _ _ _; rw [hWX]; exact HB1.out.alloc (by omega) _
        have HTX : Hid (WX.there (w.heap.size + 1) 0 3) := by show WX.there _ _ _; rw [hWX]; exact World.there_alloc T1.out _
        have nX : w.heap.size + 1 < WX.heap.size := by rw [hWX]; simp; omega
        have c0X : WX.cell? ⟨w.heap.size, 0, none⟩ = some (.slice a L.length c) := by rw [hWX, World.cell?_alloc_lt _ _ _ (by show w.heap.size < _; omega)]; exact c0
        have c1X : WX.cell? ⟨w.heap.size, 1, none⟩ = some (.int .i64 fu) := by rw [hWX, World.cell?_alloc_lt _ _ _ (by show w.heap.size < _; omega)]; exact c1
        have c2X : WX.cell? ⟨w.heap.size, 2, none⟩ = some (.bool false) := by rw [hWX, World.cell?_alloc_lt _ _ _ (by show w.heap.size < _; omega)]; exact c2
        have hxX : FlAt WX w1.heap.size 0 ⟨xn, false, true, xw, xs⟩ := by rw [hWX]; exact FlAt.new w1 ⟨xn, false, true, xw, xs⟩ _ _ rfl
        have s1X : w1.heap.size < WX.heap.size := by rw [hWX]; simp
        have t9X : WX.there w1.heap.size 0 5 := by rw [hWX]; exact there_last w1 #[.int .u32 (xn : Int), .bool false, .bool true, .string xw, .string xs] _ _ 5 rfl rfl
        rw [← hWX]
        clear hWX c0 c1 c2
        refine (loose_is (x := ⟨xn, false, true, xw, xs⟩) (b := true) (by simp [looseF]) WX).mono ?_
        rintro e w2 ⟨rfl, hb2⟩
        have c0 : w2.cell? ⟨w.heap.size, 0, none⟩ = some (.slice a L.length c) := by rw [hb2.cell (p := ⟨w.heap.size, 0, none⟩) (by show w.heap.size < _; omega)]; exact c0X
        have c1 : w2.cell? ⟨w.heap.size, 1, none⟩ = some (.int .i64 fu) := by rw [hb2.cell (p := ⟨w.heap.size, 1, none⟩) (by show w.heap.size < _; omega)]; exact c1X
        have c2 : w2.cell? ⟨w.heap.size, 2, none⟩ = some (.bool false) := by rw [hb2.cell (p := ⟨w.heap.size, 2, none⟩) (by show w.heap.size < _; omega)]; exact c2X
        obtain ⟨x0, x1, x2, x3, x4⟩ := hxX.below hb2 s1X
        have T2 := Lib.hid (there_below HTX.out hb2 (by omega))
        have n2 : w.heap.size + 1 < w2.heap.size := by have := hb2.size; omega
        have HB2' := Lib.hid (HBX.out.trans (hb2.mono HBX.out.size))
        have s2X : w1.heap.size < w2.heap.size := by have := hb2.size; omega
        have HTW := Lib.hid (⟨s2X, hb2, s1X⟩ : w1.heap.size < w2.heap.size ∧ Below WX.heap.size WX w2 ∧ w1.heap.size < WX.heap.size)
        have T9 := Lib.hid (there_below t9X hb2 s1X)
        clear hb2 c0X c1X c2X hxX HTX nX t9X
        have HACT : Hid (syncF ⟨L, fu, false⟩ n = actF ⟨L, fu, false⟩ ⟨xn, false, false, xw, ⟨#[]⟩⟩ true) := by show _ = _; unfold syncF; simp only [← HX.out]; simp [looseF, syncedF]; rfl
        have f2 : w2.frozen? ⟨w1.heap.size, 2, none⟩ = false := by have := (T9.out 2 (by omega)).2; simpa using this
        have f4 : w2.frozen? ⟨w1.heap.size, 4, none⟩ = false := by have := (T9.out 4 (by omega)).2; simpa using this
        have e4 : (((w2.setCell ⟨w1.heap.size, 2, none⟩ (.bool false)).setCell ⟨w1.heap.size, 4, none⟩ (.string xw)).setCell ⟨w1.heap.size, 4, none⟩ (.string ⟨#[]⟩)).cell? ⟨w1.heap.size, 4, none⟩ = some (.string ⟨#[]⟩) :=
          World.cell?_setCell_same _ _ _ (World.cell?_setCell_same _ _ _ (u := .string xs) (by rw [World.cell?_setCell_other _ _ _ _ (by simp)]; simpa using x4))
        go_wp2_with fail
        obtain ⟨WX, hWX⟩ : ∃ WX, WX = (((w2.setCell ⟨w1.heap.size, 2, none⟩ (.bool false)).setCell ⟨w1.heap.size, 4, none⟩ (.string xw)).setCell ⟨w1.heap.size, 4, none⟩ (.string ⟨#[]⟩)) := ⟨_, rfl⟩
        have HBX : Hid (Below w.heap.size w WX) := by show Below _ _ _; rw [hWX]; exact ((HB2'.out.setCell (by show w.heap.size ≤ w1.heap.size; omega) _).setCell (by show w.heap.size ≤ w1.heap.size; omega) _).setCell (by show w.heap.size ≤ w1.heap.size; omega) _
        have HTX : Hid (WX.there (w.heap.size + 1) 0 3) := by show WX.there _ _ _; rw [hWX]; exact World.there_setCells (World.there_setCells (World.there_setCells T2.out w1.heap.size 2 [.bool false]) w1.heap.size 4 [.string xw]) w1.heap.size 4 [.string ⟨#[]⟩]
        have nX : w.heap.size + 1 < WX.heap.size := by rw [hWX]; simp; omega
        rw [← hWX]
        clear hWX e4
        refine (act_fs a c ⟨L, fu, false⟩ (⟨xn, false, false, xw, ⟨#[]⟩⟩) true WX ((HR.out.below HBX.out).more HBX.out.size) hl hlc HC.out hf1 hf2).mono ?_
        rintro e w5 ⟨a5, c5, rfl, q1, q2, q3, q4, q5⟩
        obtain ⟨R, hR⟩ : ∃ R, R = actF ⟨L, fu, false⟩ (⟨xn, false, false, xw, ⟨#[]⟩⟩) true := ⟨_, rfl⟩
        rw [← hR] at q1 q3 q4 ⊢
        have HRR := Lib.hid hR
        have T5 := Lib.hid (there_below HTX.out q5 (by omega))
        obtain ⟨z0, z1, z2, p0, p1, p2, r0, r1, r2⟩ := there3 T5.out
        have Q1 := Lib.hid q1; have Q2' := Lib.hid q2; have Q3 := Lib.hid q3; have Q4 := Lib.hid q4; have Q5 := Lib.hid q5
        clear hR q1 q2 q3 q4 q5
        unfold fsv
        go_wp2_with fail
        refine bodyPost_ret (v := .tuple #[fsv a5 R.1.files.length c5 R.1.fuse R.1.down, .int .i64 R.2]) (results_cell_two (p := 4) (u := 5) (ty := 28) (b := w.heap.size + 1) (x := .int .i64 R.2) rfl rfl rfl (load_fs w5 (w.heap.size + 1) #[.slice a5 R.1.files.length c5, .int .i64 R.1.fuse, .bool R.1.down] T5.out)) rfl ?_
        rw [HACT.out, ← HRR.out]
        exact FsErr.acted [.slice a5 R.1.files.length c5, .int .i64 R.1.fuse, .bool R.1.down] HR.out HBX.out (by omega) nX Q1.out Q2'.out Q3.out Q4.out Q5.out
    · skip
      have HACT : Hid (syncF ⟨L, fu, false⟩ n = actF ⟨L, fu, false⟩ ⟨xn, true, true, xw, xw⟩ true) := by show _ = _; unfold syncF; simp only [← HX.out]; simp [syncedF]
      go_wp2_with fail
      obtain ⟨WX, hWX⟩ : ∃ WX, WX = w1.alloc (.cells #[.int .u32 (xn : Int), .bool true, .bool true, .string xw, .string xw] 85) := ⟨_, rfl⟩
      have HBX : Hid (Below w.heap.size w WX) := by show Below _ _ _; rw [hWX]; exact HB1.out.alloc (by omega) _
      have HTX : Hid (WX.there (w.heap.size + 1) 0 3) := by show WX.there _ _ _; rw [hWX]; exact World.there_alloc T1.out _
      have nX : w.heap.size + 1 < WX.heap.size := by rw [hWX]; simp; omega
      rw [← hWX]
      clear hWX
      refine (act_fs a c ⟨L, fu, false⟩ (⟨xn, true, true, xw, xw⟩) true WX ((HR.out.below HBX.out).more HBX.out.size) hl hlc HC.out hf1 hf2).mono ?_
      rintro e w5 ⟨a5, c5, rfl, q1, q2, q3, q4, q5⟩
      obtain ⟨R, hR⟩ : ∃ R, R = actF ⟨L, fu, false⟩ (⟨xn, true, true, xw, xw⟩) true := ⟨_, rfl⟩
      rw [← hR] at q1 q3 q4 ⊢
      have HRR := Lib.hid hR
      have T5 := Lib.hid (there_below HTX.out q5 (by omega))
      obtain ⟨z0, z1, z2, p0, p1, p2, r0, r1, r2⟩ := there3 T5.out
      have Q1 := Lib.hid q1; have Q2' := Lib.hid q2; have Q3 := Lib.hid q3; have Q4 := Lib.hid q4; have Q5 := Lib.hid q5
      clear hR q1 q2 q3 q4 q5
      unfold fsv
      go_wp2_with fail
      refine bodyPost_ret (v := .tuple #[fsv a5 R.1.files.length c5 R.1.fuse R.1.down, .int .i64 R.2]) (results_cell_two (p := 4) (u := 5) (ty := 28) (b := w.heap.size + 1) (x := .int .i64 R.2) rfl rfl rfl (load_fs w5 (w.heap.size + 1) #[.slice a5 R.1.files.length c5, .int .i64 R.1.fuse, .bool R.1.down] T5.out)) rfl ?_
      rw [HACT.out, ← HRR.out]
      exact FsErr.acted [.slice a5 R.1.files.length c5, .int .i64 R.1.fuse, .bool R.1.down] HR.out HBX.out (by omega) nX Q1.out Q2'.out Q3.out Q4.out Q5.out
  · skip
    have HACT : Hid (syncF ⟨L, fu, true⟩ n = (⟨L, fu, true⟩, 7)) := by show _ = _; rfl
    obtain ⟨z0, z1, z2, p0, p1, p2, r0, r1, r2⟩ := there3 T1.out
    go_wp2_with fail
    refine bodyPost_ret (v := .tuple #[fsv a L.length c fu true, .int .i64 7]) (results_cell_two (p := 4) (u := 5) (ty := 28) (b := w.heap.size + 1) (x := .int .i64 7) rfl rfl rfl (load_fsA w1 (w.heap.size + 1) #[.slice a L.length c, .int .i64 fu, .bool true] _ T1.out)) rfl ?_
    rw [HACT.out]
    exact FsErr.same HR.out hlc HC.out ((Below_setCells (b := w.heap.size + 1) (by omega) [.slice a L.length c, .int .i64 fu, .bool true] 0 _ HB1.out).alloc (by rw [size_setCells']; omega) _)
set_option maxRecDepth 20000 in
set_option maxHeartbeats 4000000 in
theorem create_fs (a : Option Addr) (c : Nat) (m : FSm) (n : Nat) (w : World) (hr : Rd w w.heap.size a (flF m.files)) (hl : m.files.length ≤ 1000000000) (hlc : m.files.length ≤ c) (hc : c ≤ maxLen) (hf1 : -9223372036854775808 ≤ m.fuse) (hf2 : m.fuse ≤ 9223372036854775807) :
    Calls Try.prog 34 #[fsv a m.files.length c m.fuse m.down, .int .u32 (n : Int)] w (FsErr w a m.files (createF m n)) := by
  have HR := Lib.hid hr; have HC := Lib.hid hc; clear hr hc
  obtain ⟨L, fu, dn⟩ := m
  simp only at *
  obtain ⟨x, hx⟩ : ∃ x, x = getF L n := ⟨_, rfl⟩
  have HX := Lib.hid hx; clear hx
  unfold fsv
  go_enter Try.func34, Try.ntmps34
  go_wp2_with fail
  obtain ⟨W2, hW2⟩ : ∃ W2, W2 = ((w.alloc (.cells #[.slice a L.length c, .int .i64 fu, .bool dn] 28)).alloc (.cells #[.slice none 0 0, .int .i64 0, .bool false] 28)) := ⟨_, rfl⟩
  rw [← hW2]
  have HS2 : Hid (W2.heap.size = w.heap.size + 2) := by show _ = _; rw [hW2]; simp
  have HB2 : Hid (Below w.heap.size w W2) := by show Below _ _ _; rw [hW2]; exact (box1 w _).alloc (by simp) _
  have HRES : Hid (W2.there (w.heap.size + 1) 0 3) := by
    show W2.there _ _ _; rw [hW2]
    exact there_last _ #[.slice none 0 0, .int .i64 0, .bool false] 28 _ 3 rfl (by simp)
  have C0 : Hid (W2.cell? ⟨w.heap.size, 0, none⟩ = some (.slice a L.length c)) := by show _ = _; rw [hW2]; go_simp
  have C1 : Hid (W2.cell? ⟨w.heap.size, 1, none⟩ = some (.int .i64 fu)) := by show _ = _; rw [hW2]; go_simp
  have C2 : Hid (W2.cell? ⟨w.heap.size, 2, none⟩ = some (.bool dn)) := by show _ = _; rw [hW2]; go_simp
  have HR2 : Hid (Rd W2 W2.heap.size a (flF L)) := (HR.out.below HB2.out).more (by rw [HS2.out]; omega)
  clear hW2
  refine (refGetF_any a c L fu dn n W2 HR2.out (by omega)).mono ?_
  rw [← HX.out]
  rintro e w1 ⟨rfl, hb1⟩
  have c0 : w1.cell? ⟨w.heap.size, 0, none⟩ = some (.slice a L.length c) := by rw [hb1.cell (p := ⟨w.heap.size, 0, none⟩) (by show w.heap.size < _; rw [HS2.out]; omega)]; exact C0.out
  have c1 : w1.cell? ⟨w.heap.size, 1, none⟩ = some (.int .i64 fu) := by rw [hb1.cell (p := ⟨w.heap.size, 1, none⟩) (by show w.heap.size < _; rw [HS2.out]; omega)]; exact C1.out
  have c2 : w1.cell? ⟨w.heap.size, 2, none⟩ = some (.bool dn) := by rw [hb1.cell (p := ⟨w.heap.size, 2, none⟩) (by show w.heap.size < _; rw [HS2.out]; omega)]; exact C2.out
  have T1 := Lib.hid (there_below HRES.out hb1 (by rw [HS2.out]; omega))
  have n0 : w.heap.size < w1.heap.size := by have := hb1.size; rw [HS2.out] at this; omega
  have n1 : w.heap.size + 1 < w1.heap.size := by have := hb1.size; rw [HS2.out] at this; omega
  have HB1 := Lib.hid (HB2.out.trans (hb1.mono (by rw [HS2.out]; omega)))
  clear hb1 C0 C1 C2
  obtain ⟨xn, xt, xk, xw, xs⟩ := x
  unfold Fl.v
  cases dn
  · cases xt
    · cases xk
      · skip
        go_wp2_with fail
        obtain ⟨WX, hWX⟩ : ∃ WX, WX = w1.alloc (.cells #[.int .u32 (xn : Int), .bool false, .bool false, .string xw, .string xs] 85) := ⟨_, rfl⟩
        have HBX : Hid (Below w.heap.size w WX) := by show Below _ _ _; rw [hWX]; exact HB1.out.alloc (by omega) _
        have HTX : Hid (WX.there (w.heap.size + 1) 0 3) := by show WX.there _ _ _; rw [hWX]; exact World.there_alloc T1.out _
        have nX : w.heap.size + 1 < WX.heap.size := by rw [hWX]; simp; omega
        have c0X : WX.cell? ⟨w.heap.size, 0, none⟩ = some (.slice a L.length c) := by rw [hWX, World.cell?_alloc_lt _ _ _ (by show w.heap.size < _; omega)]; exact c0
        have c1X : WX.cell? ⟨w.heap.size, 1, none⟩ = some (.int .i64 fu) := by rw [hWX, World.cell?_alloc_lt _ _ _ (by show w.heap.size < _; omega)]; exact c1
        have c2X : WX.cell? ⟨w.heap.size, 2, none⟩ = some (.bool false) := by rw [hWX, World.cell?_alloc_lt _ _ _ (by show w.heap.size < _; omega)]; exact c2
        have hxX : FlAt WX w1.heap.size 0 ⟨xn, false, false, xw, xs⟩ := by rw [hWX]; exact FlAt.new w1 ⟨xn, false, false, xw, xs⟩ _ _ rfl
        have s1X : w1.heap.size < WX.heap.size := by rw [hWX]; simp
        have t9X : WX.there w1.heap.size 0 5 := by rw [hWX]; exact there_last w1 #[.int .u32 (xn : Int), .bool false, .bool false, .string xw, .string xs] _ _ 5 rfl rfl
        rw [← hWX]
        clear hWX c0 c1 c2
        refine (loose_is (x := ⟨xn, false, false, xw, xs⟩) (b := false) (by simp [looseF]) WX).mono ?_
        rintro e w2 ⟨rfl, hb2⟩
        have c0 : w2.cell? ⟨w.heap.size, 0, none⟩ = some (.slice a L.length c) := by rw [hb2.cell (p := ⟨w.heap.size, 0, none⟩) (by show w.heap.size < _; omega)]; exact c0X
        have c1 : w2.cell? ⟨w.heap.size, 1, none⟩ = some (.int .i64 fu) := by rw [hb2.cell (p := ⟨w.heap.size, 1, none⟩) (by show w.heap.size < _; omega)]; exact c1X
        have c2 : w2.cell? ⟨w.heap.size, 2, none⟩ = some (.bool false) := by rw [hb2.cell (p := ⟨w.heap.size, 2, none⟩) (by show w.heap.size < _; omega)]; exact c2X
        obtain ⟨x0, x1, x2, x3, x4⟩ := hxX.below hb2 s1X
        have T2 := Lib.hid (there_below HTX.out hb2 (by omega))
        have n2 : w.heap.size + 1 < w2.heap.size := by have := hb2.size; omega
        have HB2' := Lib.hid (HBX.out.trans (hb2.mono HBX.out.size))
        have s2X : w1.heap.size < w2.heap.size := by have := hb2.size; omega
        have HTW := Lib.hid (⟨s2X, hb2, s1X⟩ : w1.heap.size < w2.heap.size ∧ Below WX.heap.size WX w2 ∧ w1.heap.size < WX.heap.size)
        have T9 := Lib.hid (there_below t9X hb2 s1X)
        clear hb2 c0X c1X c2X hxX HTX nX t9X
        go_wp2_with fail
        refine (list_fs a c L fu false w2 ((HR.out.below HB2'.out).more HB2'.out.size) hl).mono ?_
        rintro e w3 ⟨a3, c3, rfl, _, _, _, _, hb3⟩
        have c0' : w3.cell? ⟨w.heap.size, 0, none⟩ = some (.slice a L.length c) := by rw [hb3.cell (p := ⟨w.heap.size, 0, none⟩) (by show w.heap.size < _; omega)]; exact c0
        have c1' : w3.cell? ⟨w.heap.size, 1, none⟩ = some (.int .i64 fu) := by rw [hb3.cell (p := ⟨w.heap.size, 1, none⟩) (by show w.heap.size < _; omega)]; exact c1
        have c2' : w3.cell? ⟨w.heap.size, 2, none⟩ = some (.bool false) := by rw [hb3.cell (p := ⟨w.heap.size, 2, none⟩) (by show w.heap.size < _; omega)]; exact c2
        have T3 := Lib.hid (there_below T2.out hb3 (by omega))
        have n3 : w.heap.size + 1 < w3.heap.size := by have := hb3.size; omega
        have HB3' := Lib.hid (HB2'.out.trans (hb3.mono HB2'.out.size))
        obtain ⟨N, hN⟩ : ∃ N, N = (numsF false L).length := ⟨_, rfl⟩
        rw [← hN]
        have HNN := Lib.hid hN
        clear hb3 c0 c1 c2 x0 x1 x2 x3 x4 hN
        by_cases g : 63 < N
        · skip
          have HACT : Hid (createF ⟨L, fu, false⟩ n = (⟨L, fu, false⟩, 6)) := by show _ = _; unfold createF; simp only [← HX.out]; simp [looseF, ← HNN.out, g]
          obtain ⟨z0, z1, z2, p0, p1, p2, r0, r1, r2⟩ := there3 T3.out
          go_wp2_with fail
          refine bodyPost_ret (v := .tuple #[fsv a L.length c fu false, .int .i64 6]) (results_cell_two (p := 4) (u := 5) (ty := 28) (b := w.heap.size + 1) (x := .int .i64 6) rfl rfl rfl (load_fs w3 (w.heap.size + 1) #[.slice a L.length c, .int .i64 fu, .bool false] T3.out)) rfl ?_
          rw [HACT.out]
          exact FsErr.same HR.out hlc HC.out (Below_setCells (b := w.heap.size + 1) (by omega) [.slice a L.length c, .int .i64 fu, .bool false] 0 _ HB3'.out)
        · skip
          have HACT : Hid (createF ⟨L, fu, false⟩ n = actF ⟨L, fu, false⟩ ⟨n, true, false, ⟨#[]⟩, ⟨#[]⟩⟩ false) := by show _ = _; unfold createF; simp only [← HX.out]; simp [looseF, ← HNN.out, g]; rfl
          go_wp2_with fail
          have HTX := T3
          have HBX := HB3'
          have nX := n3
          refine (act_fs a c ⟨L, fu, false⟩ (⟨n, true, false, ⟨#[]⟩, ⟨#[]⟩⟩) false w3 ((HR.out.below HBX.out).more HBX.out.size) hl hlc HC.out hf1 hf2).mono ?_
          rintro e w5 ⟨a5, c5, rfl, q1, q2, q3, q4, q5⟩
          obtain ⟨R, hR⟩ : ∃ R, R = actF ⟨L, fu, false⟩ (⟨n, true, false, ⟨#[]⟩, ⟨#[]⟩⟩) false := ⟨_, rfl⟩
          rw [← hR] at q1 q3 q4 ⊢
          have HRR := Lib.hid hR
          have T5 := Lib.hid (there_below HTX.out q5 (by omega))
          obtain ⟨z0, z1, z2, p0, p1, p2, r0, r1, r2⟩ := there3 T5.out
          have Q1 := Lib.hid q1; have Q2' := Lib.hid q2; have Q3 := Lib.hid q3; have Q4 := Lib.hid q4; have Q5 := Lib.hid q5
          clear hR q1 q2 q3 q4 q5
          unfold fsv
          go_wp2_with fail
          refine bodyPost_ret (v := .tuple #[fsv a5 R.1.files.length c5 R.1.fuse R.1.down, .int .i64 R.2]) (results_cell_two (p := 4) (u := 5) (ty := 28) (b := w.heap.size + 1) (x := .int .i64 R.2) rfl rfl rfl (load_fs w5 (w.heap.size + 1) #[.slice a5 R.1.files.length c5, .int .i64 R.1.fuse, .bool R.1.down] T5.out)) rfl ?_
          rw [HACT.out, ← HRR.out]
          exact FsErr.acted [.slice a5 R.1.files.length c5, .int .i64 R.1.fuse, .bool R.1.down] HR.out HBX.out (by omega) nX Q1.out Q2'.out Q3.out Q4.out Q5.out
      · skip
        go_wp2_with fail
        obtain ⟨WX, hWX⟩ : ∃ WX, WX = w1.alloc (.cells #[.int .u32 (xn : Int), .bool false, .bool true, .string xw, .string xs] 85) := ⟨_, rfl⟩
        have HBX : Hid (Below w.heap.size w WX) := by show Below _ _ _; rw [hWX]; exact HB1.out.alloc (by omega) _
        have HTX : Hid (WX.there (w.heap.size + 1) 0 3) := by show WX.there _ _ _; rw [hWX]; exact World.there_alloc T1.out _
        have nX : w.heap.size + 1 < WX.heap.size := by rw [hWX]; simp; omega
        have c0X : WX.cell? ⟨w.heap.size, 0, none⟩ = some (.slice a L.length c) := by rw [hWX, World.cell?_alloc_lt _ _ _ (by show w.heap.size < _; omega)]; exact c0
        have c1X : WX.cell? ⟨w.heap.size, 1, none⟩ = some (.int .i64 fu) := by rw [hWX, World.cell?_alloc_lt _ _ _ (by show w.heap.size < _; omega)]; exact c1
        have c2X : WX.cell? ⟨w.heap.size, 2, none⟩ = some (.bool false) := by rw [hWX, World.cell?_alloc_lt _ _ _ (by show w.heap.size < _; omega)]; exact c2
        have hxX : FlAt WX w1.heap.size 0 ⟨xn, false, true, xw, xs⟩ := by rw [hWX]; exact FlAt.new w1 ⟨xn, false, true, xw, xs⟩ _ _ rfl
        have s1X : w1.heap.size < WX.heap.size := by rw [hWX]; simp
        have t9X : WX.there w1.heap.size 0 5 := by rw [hWX]; exact there_last w1 #[.int .u32 (xn : Int), .bool false, .bool true, .string xw, .string xs] _ _ 5 rfl rfl
        rw [← hWX]
        clear hWX c0 c1 c2
        refine (loose_is (x := ⟨xn, false, true, xw, xs⟩) (b := true) (by simp [looseF]) WX).mono ?_
        rintro e w2 ⟨rfl, hb2⟩
        have c0 : w2.cell? ⟨w.heap.size, 0, none⟩ = some (.slice a L.length c) := by rw [hb2.cell (p := ⟨w.heap.size, 0, none⟩) (by show w.heap.size < _; omega)]; exact c0X
        have c1 : w2.cell? ⟨w.heap.size, 1, none⟩ = some (.int .i64 fu) := by rw [hb2.cell (p := ⟨w.heap.size, 1, none⟩) (by show w.heap.size < _; omega)]; exact c1X
        have c2 : w2.cell? ⟨w.heap.size, 2, none⟩ = some (.bool false) := by rw [hb2.cell (p := ⟨w.heap.size, 2, none⟩) (by show w.heap.size < _; omega)]; exact c2X
        obtain ⟨x0, x1, x2, x3, x4⟩ := hxX.below hb2 s1X
        have T2 := Lib.hid (there_below HTX.out hb2 (by omega))
        have n2 : w.heap.size + 1 < w2.heap.size := by have := hb2.size; omega
        have HB2' := Lib.hid (HBX.out.trans (hb2.mono HBX.out.size))
        have s2X : w1.heap.size < w2.heap.size := by have := hb2.size; omega
        have HTW := Lib.hid (⟨s2X, hb2, s1X⟩ : w1.heap.size < w2.heap.size ∧ Below WX.heap.size WX w2 ∧ w1.heap.size < WX.heap.size)
        have T9 := Lib.hid (there_below t9X hb2 s1X)
        clear hb2 c0X c1X c2X hxX HTX nX t9X
        have HACT : Hid (createF ⟨L, fu, false⟩ n = (⟨L, fu, false⟩, 9)) := by show _ = _; unfold createF; simp only [← HX.out]; simp [looseF]
        obtain ⟨z0, z1, z2, p0, p1, p2, r0, r1, r2⟩ := there3 T2.out
        go_wp2_with fail
        refine bodyPost_ret (v := .tuple #[fsv a L.length c fu false, .int .i64 9]) (results_cell_two (p := 4) (u := 5) (ty := 28) (b := w.heap.size + 1) (x := .int .i64 9) rfl rfl rfl (load_fs w2 (w.heap.size + 1) #[.slice a L.length c, .int .i64 fu, .bool false] T2.out)) rfl ?_
        rw [HACT.out]
        exact FsErr.same HR.out hlc HC.out (Below_setCells (b := w.heap.size + 1) (by omega) [.slice a L.length c, .int .i64 fu, .bool false] 0 _ HB2'.out)
    · skip
      have HACT : Hid (createF ⟨L, fu, false⟩ n = (⟨L, fu, false⟩, 9)) := by show _ = _; unfold createF; simp only [← HX.out]; simp
      obtain ⟨z0, z1, z2, p0, p1, p2, r0, r1, r2⟩ := there3 T1.out
      go_wp2_with fail
      refine bodyPost_ret (v := .tuple #[fsv a L.length c fu false, .int .i64 9]) (results_cell_two (p := 4) (u := 5) (ty := 28) (b := w.heap.size + 1) (x := .int .i64 9) rfl rfl rfl (load_fsA w1 (w.heap.size + 1) #[.slice a L.length c, .int .i64 fu, .bool false] _ T1.out)) rfl ?_
      rw [HACT.out]
      exact FsErr.same HR.out hlc HC.out ((Below_setCells (b := w.heap.size + 1) (by omega) [.slice a L.length c, .int .i64 fu, .bool false] 0 _ HB1.out).alloc (by rw [size_setCells']; omega) _)
  · skip
    have HACT : Hid (createF ⟨L, fu, true⟩ n = (⟨L, fu, true⟩, 7)) := by show _ = _; rfl
    obtain ⟨z0, z1, z2, p0, p1, p2, r0, r1, r2⟩ := there3 T1.out
    go_wp2_with fail
    refine bodyPost_ret (v := .tuple #[fsv a L.length c fu true, .int .i64 7]) (results_cell_two (p := 4) (u := 5) (ty := 28) (b := w.heap.size + 1) (x := .int .i64 7) rfl rfl rfl (load_fsA w1 (w.heap.size + 1) #[.slice a L.length c, .int .i64 fu, .bool true] _ T1.out)) rfl ?_
    rw [HACT.out]
    exact FsErr.same HR.out hlc HC.out ((Below_setCells (b := w.heap.size + 1) (by omega) [.slice a L.length c, .int .i64 fu, .bool true] 0 _ HB1.out).alloc (by rw [size_setCells']; omega) _)
theorem new_fs (w : World) : Calls Try.prog 21 #[] w fun e w' => e = .returned (fsv none 0 0 (-1) false) ∧ Below w.heap.size w w' := by
  go_enter Try.func21, Try.ntmps21
  go_wp2_with fail
  have hr2 : (w.alloc (.cells #[.slice none 0 0, .int .i64 (-1), .bool false] 28)).rangeAt w.heap.size 0 [.slice none 0 0, .int .i64 (-1), .bool false] := rangeAt_last _ #[.slice none 0 0, .int .i64 (-1), .bool false] _ _ rfl
  refine bodyPost_ret (v := fsv none 0 0 (-1) false) (results_cell (p := 0) (ty := 28) (b := w.heap.size) rfl rfl (run_loadVar_mid (P := Try.prog) _ w.heap.size 0 28 _ _ hr2 Try.underlying28 rfl size_fs)) rfl ?_
  exact ⟨rfl, box1 _ _⟩
end Go.Proofs.Ythfhmohbfoolnaa
