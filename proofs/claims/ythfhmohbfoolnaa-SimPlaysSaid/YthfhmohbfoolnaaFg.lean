import Derived.Test.YthfhmohbfoolnaaFf
namespace Go.Proofs.Ythfhmohbfoolnaa
open Go Go.RowKit

theorem FsErr.same {w WC : World} {a : Option Addr} {c : Nat} {L : List Fl} {fu err : Int} {dn : Bool} (hr : Rd w w.heap.size a (flF L)) (hlc : L.length ≤ c) (hc : c ≤ maxLen) (bc : Below w.heap.size w WC) :
    FsErr w a L (⟨L, fu, dn⟩, err) (.returned (.tuple #[fsv a L.length c fu dn, .int .i64 err])) WC :=
  ⟨a, c, rfl, hlc, hc, (hr.below bc).more bc.size, .inl ⟨rfl, rfl⟩, bc⟩
theorem FsErr.acted {w WX w5 : World} {a a1 : Option Addr} {c1 : Nat} {L : List Fl} {r : FSm × Int} {b : Nat} (us : List Value) (hr : Rd w w.heap.size a (flF L)) (hX : Below w.heap.size w WX) (hbX : w.heap.size ≤ b) (hbl : b < WX.heap.size)
    (q1 : r.1.files.length ≤ c1) (q2 : c1 ≤ maxLen) (q3 : Rd w5 w5.heap.size a1 (flF r.1.files)) (q4 : From WX a L a1 r.1.files) (q5 : Below WX.heap.size WX w5) :
    FsErr w a L r (.returned (.tuple #[fsv a1 r.1.files.length c1 r.1.fuse r.1.down, .int .i64 r.2])) (w5.setCells b 0 us) := by
  have b5 : Below w.heap.size w w5 := hX.trans (q5.mono hX.size)
  have bc : Below w.heap.size w (w5.setCells b 0 us) := Below_setCells hbX us 0 _ b5
  refine ⟨a1, c1, rfl, q1, q2, ?_, ?_, bc⟩
  · rcases q4 with ⟨rfl, h⟩ | h
    · rw [h]; exact (hr.below bc).more bc.size
    · refine (Rd_sets q3 us 0 (fun g o s e => ?_)).more (by rw [size_setCells']; exact Nat.le_refl _)
      have := h g o s e; omega
  · rcases q4 with h | h
    · exact .inl h
    · exact .inr fun b o s e => Nat.le_trans hX.size (h b o s e)
theorem load_fsA (W : World) (b : Nat) (cs : Array Value) (o : Obj) (ht : W.there b 0 cs.size) (hc : cs.size = 3 := by rfl) : (loadVar 28 ⟨b, 0, none⟩).run Try.prog ((W.setCells b 0 cs.toList).alloc o) = .ok (.agg cs) ((W.setCells b 0 cs.toList).alloc o) :=
  run_loadVar_mid (P := Try.prog) _ b 0 28 _ _ (World.rangeAt_alloc (World.rangeAt_setCells_same W b 0 cs.toList ht) o) Try.underlying28 rfl (by rw [size_fs]; simp [hc])
theorem list_fs (a : Option Addr) (c : Nat) (L : List Fl) (fu : Int) (dn : Bool) (w : World) (hr : Rd w w.heap.size a (flF L)) (hl : L.length ≤ 1000000000) :
    Calls Try.prog 50 #[fsv a L.length c fu dn] w (NumsOut w (numsF false L)) := by
  unfold fsv
  go_enter Try.func50, Try.ntmps50
  go_wp2_with fail
  refine (numbers_any a c L fu dn false _ ((hr.below (box1 w _)).more (by simp)) hl).mono ?_
  rintro e w1 ⟨a1, c1, rfl, h1, h2, h3, h5, h4⟩
  go_wp2_with fail
  go_ret
  exact ⟨a1, c1, rfl, h1, h2, h3, fun b o s e => (by have := h5 b o s e; simp at this; omega), bel2 (box1 w _) h4⟩
theorem unsafe_fs (a : Option Addr) (c : Nat) (L : List Fl) (fu : Int) (dn : Bool) (w : World) (hr : Rd w w.heap.size a (flF L)) (hl : L.length ≤ 1000000000) :
    Calls Try.prog 52 #[fsv a L.length c fu dn] w (NumsOut w (numsF true L)) := by
  unfold fsv
  go_enter Try.func52, Try.ntmps52
  go_wp2_with fail
  refine (numbers_any a c L fu dn true _ ((hr.below (box1 w _)).more (by simp)) hl).mono ?_
  rintro e w1 ⟨a1, c1, rfl, h1, h2, h3, h5, h4⟩
  go_wp2_with fail
  go_ret
  exact ⟨a1, c1, rfl, h1, h2, h3, fun b o s e => (by have := h5 b o s e; simp at this; omega), bel2 (box1 w _) h4⟩
theorem read_fs (a : Option Addr) (c : Nat) (m : FSm) (n : Nat) (w : World) (hr : Rd w w.heap.size a (flF m.files)) (hl : m.files.length ≤ 1000000000) :
    Calls Try.prog 57 #[fsv a m.files.length c m.fuse m.down, .int .u32 (n : Int)] w fun e w' => e = .returned (.tuple #[.string (readF m n).1, .int .i64 (readF m n).2]) ∧ Below w.heap.size w w' := by
  obtain ⟨L, fu, dn⟩ := m
  simp only at *
  obtain ⟨x, hx⟩ : ∃ x, x = getF L n := ⟨_, rfl⟩
  have HF : Hid (readF ⟨L, fu, dn⟩ n = if x.there = true then (x.now, 0) else (ByteArray.empty, 5)) := by show _ = _; rw [hx]; rfl
  have HX := Lib.hid hx; clear hx
  unfold fsv
  go_enter Try.func57, Try.ntmps57
  go_wp2_with fail
  refine (refGetF_any a c L fu dn n _ ((hr.below (box1 w _)).more (by simp)) (by omega)).mono ?_
  rw [← HX.out]
  rintro e w1 ⟨rfl, hb1⟩
  have HB := Lib.hid ((bel2 (box1 w _) hb1).alloc (bel2 (box1 w _) hb1).size (.cells x.c 85))
  clear hb1
  obtain ⟨xn, xt, xk, xw, xs⟩ := x
  unfold Fl.v
  unfold Fl.c at HB
  cases xt
  · go_wp2_with fail
    go_ret2
    exact ⟨by rw [HF.out]; rfl, HB.out⟩
  · go_wp2_with fail
    go_ret2
    exact ⟨by rw [HF.out]; rfl, HB.out⟩
set_option maxRecDepth 20000 in
set_option maxHeartbeats 4000000 in
theorem remove_fs (a : Option Addr) (c : Nat) (m : FSm) (n : Nat) (w : World) (hr : Rd w w.heap.size a (flF m.files)) (hl : m.files.length ≤ 1000000000) (hlc : m.files.length ≤ c) (hc : c ≤ maxLen) (hf1 : -9223372036854775808 ≤ m.fuse) (hf2 : m.fuse ≤ 9223372036854775807) :
    Calls Try.prog 38 #[fsv a m.files.length c m.fuse m.down, .int .u32 (n : Int)] w (FsErr w a m.files (removeF m n)) := by
  have HR := Lib.hid hr; have HC := Lib.hid hc; clear hr hc
  obtain ⟨L, fu, dn⟩ := m
  simp only at *
  obtain ⟨x, hx⟩ : ∃ x, x = getF L n := ⟨_, rfl⟩
  have HX := Lib.hid hx; clear hx
  unfold fsv
  go_enter Try.func38, Try.ntmps38
  go_wp2_with fail
  obtain ⟨W2, hW2⟩ : ∃ W2, W2 = ((w.alloc (.cells #[.slice a L.length c, .int .i64 fu, .bool dn] 28)).alloc (.cells #[.slice none 0 0, .int .i64 0, .bool false] 28)) := ⟨_, rfl⟩
  rw [← hW2]
  have HS2 : Hid (W2.heap.size = w.heap.size + 2) := by show _ = _; rw [hW2]; simp
  have HB2 : Hid (Below w.heap.size w W2) := by show Below _ _ _; rw [hW2]; exact (box1 w _).alloc (by simp) _
  have HRES : Hid (W2.there (w.heap.size + 1) 0 3) := by
    show W2.there _ _ _; rw [hW2]
    exact there_last _ #[.slice none 0 0, .int .i64 0, .bool false] 28 _ 3 rfl (by simp)
  have C0 : Hid (W2.cell? ⟨w.heap.size, 0, none⟩ = some (.slice a L.length c)) := by show _ = _; rw [hW2]; go_simp
  have C1 : Hid (W2.cell? ⟨w.heap.size, 1, none⟩ = some (.int .i64 fu)) := by show _ = _; rw [hW2]; go_simp
  have C2 : Hid (W2.cell? ⟨w.heap.size, 2, none⟩ = some (.bool dn)) := by show _ = _; rw [hW2]; go_simp
  have HR2 : Hid (Rd W2 W2.heap.size a (flF L)) := (HR.out.below HB2.out).more (by rw [HS2.out]; omega)
  clear hW2
  refine (refGetF_any a c L fu dn n W2 HR2.out (by omega)).mono ?_
  rw [← HX.out]
  rintro e w1 ⟨rfl, hb1⟩
  have c0 : w1.cell? ⟨w.heap.size, 0, none⟩ = some (.slice a L.length c) := by rw [hb1.cell (p := ⟨w.heap.size, 0, none⟩) (by show w.heap.size < _; rw [HS2.out]; omega)]; exact C0.out
  have c1 : w1.cell? ⟨w.heap.size, 1, none⟩ = some (.int .i64 fu) := by rw [hb1.cell (p := ⟨w.heap.size, 1, none⟩) (by show w.heap.size < _; rw [HS2.out]; omega)]; exact C1.out
  have c2 : w1.cell? ⟨w.heap.size, 2, none⟩ = some (.bool dn) := by rw [hb1.cell (p := ⟨w.heap.size, 2, none⟩) (by show w.heap.size < _; rw [HS2.out]; omega)]; exact C2.out
  have T1 := Lib.hid (there_below HRES.out hb1 (by rw [HS2.out]; omega))
  have n0 : w.heap.size < w1.heap.size := by have := hb1.size; rw [HS2.out] at this; omega
  have n1 : w.heap.size + 1 < w1.heap.size := by have := hb1.size; rw [HS2.out] at this; omega
  have HB1 := Lib.hid (HB2.out.trans (hb1.mono (by rw [HS2.out]; omega)))
  clear hb1 C0 C1 C2
  obtain ⟨xn, xt, xk, xw, xs⟩ := x
  unfold Fl.v
  cases dn
  · cases xt
    · skip
      have HACT : Hid (removeF ⟨L, fu, false⟩ n = (⟨L, fu, false⟩, 5)) := by show _ = _; unfold removeF; simp only [← HX.out]; rfl
      obtain ⟨z0, z1, z2, p0, p1, p2, r0, r1, r2⟩ := there3 T1.out
      go_wp2_with fail
      refine bodyPost_ret (v := .tuple #[fsv a L.length c fu false, .int .i64 5]) (results_cell_two (p := 4) (u := 5) (ty := 28) (b := w.heap.size + 1) (x := .int .i64 5) rfl rfl rfl (load_fsA w1 (w.heap.size + 1) #[.slice a L.length c, .int .i64 fu, .bool false] _ T1.out)) rfl ?_
      rw [HACT.out]
      exact FsErr.same HR.out hlc HC.out ((Below_setCells (b := w.heap.size + 1) (by omega) [.slice a L.length c, .int .i64 fu, .bool false] 0 _ HB1.out).alloc (by rw [size_setCells']; omega) _)
    · skip
      have HACT : Hid (removeF ⟨L, fu, false⟩ n = actF ⟨L, fu, false⟩ ⟨xn, false, xk, ⟨#[]⟩, xs⟩ false) := by show _ = _; unfold removeF; simp only [← HX.out]; rfl
      go_wp2_with fail
      obtain ⟨WX, hWX⟩ : ∃ WX, WX = w1.alloc (.cells #[.int .u32 (xn : Int), .bool false, .bool xk, .string ⟨#[]⟩, .string xs] 85) := ⟨_, rfl⟩
      have HBX : Hid (Below w.heap.size w WX) := by show Below _ _ _; rw [hWX]; exact HB1.out.alloc (by omega) _
      have HTX : Hid (WX.there (w.heap.size + 1) 0 3) := by show WX.there _ _ _; rw [hWX]; exact World.there_alloc T1.out _
      have nX : w.heap.size + 1 < WX.heap.size := by rw [hWX]; simp; omega
      rw [← hWX]
      clear hWX
      refine (act_fs a c ⟨L, fu, false⟩ (⟨xn, false, xk, ⟨#[]⟩, xs⟩) false WX ((HR.out.below HBX.out).more HBX.out.size) hl hlc HC.out hf1 hf2).mono ?_
      rintro e w5 ⟨a5, c5, rfl, q1, q2, q3, q4, q5⟩
      obtain ⟨R, hR⟩ : ∃ R, R = actF ⟨L, fu, false⟩ (⟨xn, false, xk, ⟨#[]⟩, xs⟩) false := ⟨_, rfl⟩
      rw [← hR] at q1 q3 q4 ⊢
      have HRR := Lib.hid hR
      have T5 := Lib.hid (there_below HTX.out q5 (by omega))
      obtain ⟨z0, z1, z2, p0, p1, p2, r0, r1, r2⟩ := there3 T5.out
      have Q1 := Lib.hid q1; have Q2' := Lib.hid q2; have Q3 := Lib.hid q3; have Q4 := Lib.hid q4; have Q5 := Lib.hid q5
      clear hR q1 q2 q3 q4 q5
      unfold fsv
      go_wp2_with fail
      refine bodyPost_ret (v := .tuple #[fsv a5 R.1.files.length c5 R.1.fuse R.1.down, .int .i64 R.2]) (results_cell_two (p := 4) (u := 5) (ty := 28) (b := w.heap.size + 1) (x := .int .i64 R.2) rfl rfl rfl (load_fs w5 (w.heap.size + 1) #[.slice a5 R.1.files.length c5, .int .i64 R.1.fuse, .bool R.1.down] T5.out)) rfl ?_
      rw [HACT.out, ← HRR.out]
      exact FsErr.acted [.slice a5 R.1.files.length c5, .int .i64 R.1.fuse, .bool R.1.down] HR.out HBX.out (by omega) nX Q1.out Q2'.out Q3.out Q4.out Q5.out
  · skip
    have HACT : Hid (removeF ⟨L, fu, true⟩ n = (⟨L, fu, true⟩, 7)) := by show _ = _; rfl
    obtain ⟨z0, z1, z2, p0, p1, p2, r0, r1, r2⟩ := there3 T1.out
    go_wp2_with fail
    refine bodyPost_ret (v := .tuple #[fsv a L.length c fu true, .int .i64 7]) (results_cell_two (p := 4) (u := 5) (ty := 28) (b := w.heap.size + 1) (x := .int .i64 7) rfl rfl rfl (load_fsA w1 (w.heap.size + 1) #[.slice a L.length c, .int .i64 fu, .bool true] _ T1.out)) rfl ?_
    rw [HACT.out]
    exact FsErr.same HR.out hlc HC.out ((Below_setCells (b := w.heap.size + 1) (by omega) [.slice a L.length c, .int .i64 fu, .bool true] 0 _ HB1.out).alloc (by rw [size_setCells']; omega) _)
set_option maxRecDepth 20000 in
set_option maxHeartbeats 4000000 in
theorem append_fs (a : Option Addr) (c : Nat) (m : FSm) (n : Nat) (b : ByteArray) (hsz : (getF m.files n).now.size + b.size ≤ 1000000000000) (w : World) (hr : Rd w w.heap.size a (flF m.files)) (hl : m.files.length ≤ 1000000000) (hlc : m.files.length ≤ c) (hc : c ≤ maxLen) (hf1 : -9223372036854775808 ≤ m.fuse) (hf2 : m.fuse ≤ 9223372036854775807) :
    Calls Try.prog 35 #[fsv a m.files.length c m.fuse m.down, .int .u32 (n : Int), .string b] w (FsErr w a m.files (appendF m n b)) := by
  have HR := Lib.hid hr; have HC := Lib.hid hc; clear hr hc
  obtain ⟨L, fu, dn⟩ := m
  simp only at *
  obtain ⟨x, hx⟩ : ∃ x, x = getF L n := ⟨_, rfl⟩
  have HX := Lib.hid hx; clear hx
  unfold fsv
  go_enter Try.func35, Try.ntmps35
  go_wp2_with fail
  obtain ⟨W2, hW2⟩ : ∃ W2, W2 = ((w.alloc (.cells #[.slice a L.length c, .int .i64 fu, .bool dn] 28)).alloc (.cells #[.slice none 0 0, .int .i64 0, .bool false] 28)) := ⟨_, rfl⟩
  rw [← hW2]
  have HS2 : Hid (W2.heap.size = w.heap.size + 2) := by show _ = _; rw [hW2]; simp
  have HB2 : Hid (Below w.heap.size w W2) := by show Below _ _ _; rw [hW2]; exact (box1 w _).alloc (by simp) _
  have HRES : Hid (W2.there (w.heap.size + 1) 0 3) := by
    show W2.there _ _ _; rw [hW2]
    exact there_last _ #[.slice none 0 0, .int .i64 0, .bool false] 28 _ 3 rfl (by simp)
  have C0 : Hid (W2.cell? ⟨w.heap.size, 0, none⟩ = some (.slice a L.length c)) := by show _ = _; rw [hW2]; go_simp
  have C1 : Hid (W2.cell? ⟨w.heap.size, 1, none⟩ = some (.int .i64 fu)) := by show _ = _; rw [hW2]; go_simp
  have C2 : Hid (W2.cell? ⟨w.heap.size, 2, none⟩ = some (.bool dn)) := by show _ = _; rw [hW2]; go_simp
  have HR2 : Hid (Rd W2 W2.heap.size a (flF L)) := (HR.out.below HB2.out).more (by rw [HS2.out]; omega)
  clear hW2
  refine (refGetF_any a c L fu dn n W2 HR2.out (by omega)).mono ?_
  rw [← HX.out]
  rintro e w1 ⟨rfl, hb1⟩
  have c0 : w1.cell? ⟨w.heap.size, 0, none⟩ = some (.slice a L.length c) := by rw [hb1.cell (p := ⟨w.heap.size, 0, none⟩) (by show w.heap.size < _; rw [HS2.out]; omega)]; exact C0.out
  have c1 : w1.cell? ⟨w.heap.size, 1, none⟩ = some (.int .i64 fu) := by rw [hb1.cell (p := ⟨w.heap.size, 1, none⟩) (by show w.heap.size < _; rw [HS2.out]; omega)]; exact C1.out
  have c2 : w1.cell? ⟨w.heap.size, 2, none⟩ = some (.bool dn) := by rw [hb1.cell (p := ⟨w.heap.size, 2, none⟩) (by show w.heap.size < _; rw [HS2.out]; omega)]; exact C2.out
  have T1 := Lib.hid (there_below HRES.out hb1 (by rw [HS2.out]; omega))
  have n0 : w.heap.size < w1.heap.size := by have := hb1.size; rw [HS2.out] at this; omega
  have n1 : w.heap.size + 1 < w1.heap.size := by have := hb1.size; rw [HS2.out] at this; omega
  have HB1 := Lib.hid (HB2.out.trans (hb1.mono (by rw [HS2.out]; omega)))
  clear hb1 C0 C1 C2
  obtain ⟨xn, xt, xk, xw, xs⟩ := x
  unfold Fl.v
  have hnc : ¬ 9223372036854775807 < xw.size + b.size := by have h := hsz; rw [← HX.out] at h; simp only at h; omega
  cases dn
  · cases xt
    · skip
      have HACT : Hid (appendF ⟨L, fu, false⟩ n b = (⟨L, fu, false⟩, 5)) := by show _ = _; unfold appendF; simp only [← HX.out]; rfl
      obtain ⟨z0, z1, z2, p0, p1, p2, r0, r1, r2⟩ := there3 T1.out
      go_wp2_with fail
      refine bodyPost_ret (v := .tuple #[fsv a L.length c fu false, .int .i64 5]) (results_cell_two (p := 6) (u := 7) (ty := 28) (b := w.heap.size + 1) (x := .int .i64 5) rfl rfl rfl (load_fsA w1 (w.heap.size + 1) #[.slice a L.length c, .int .i64 fu, .bool false] _ T1.out)) rfl ?_
      rw [HACT.out]
      exact FsErr.same HR.out hlc HC.out ((Below_setCells (b := w.heap.size + 1) (by omega) [.slice a L.length c, .int .i64 fu, .bool false] 0 _ HB1.out).alloc (by rw [size_setCells']; omega) _)
    · skip
      have HACT : Hid (appendF ⟨L, fu, false⟩ n b = actF ⟨L, fu, false⟩ ⟨xn, true, xk, xw ++ b, xs⟩ false) := by show _ = _; unfold appendF; simp only [← HX.out]; rfl
      go_wp2_with fail
      obtain ⟨WX, hWX⟩ : ∃ WX, WX = w1.alloc (.cells #[.int .u32 (xn : Int), .bool true, .bool xk, .string (xw ++ b), .string xs] 85) := ⟨_, rfl⟩
      have HBX : Hid (Below w.heap.size w WX) := by show Below _ _ _; rw [hWX]; exact HB1.out.alloc (by omega) _
      have HTX : Hid (WX.there (w.heap.size + 1) 0 3) := by show WX.there _ _ _; rw [hWX]; exact World.there_alloc T1.out _
      have nX : w.heap.size + 1 < WX.heap.size := by rw [hWX]; simp; omega
      rw [← hWX]
      clear hWX
      refine (act_fs a c ⟨L, fu, false⟩ (⟨xn, true, xk, xw ++ b, xs⟩) false WX ((HR.out.below HBX.out).more HBX.out.size) hl hlc HC.out hf1 hf2).mono ?_
      rintro e w5 ⟨a5, c5, rfl, q1, q2, q3, q4, q5⟩
      obtain ⟨R, hR⟩ : ∃ R, R = actF ⟨L, fu, false⟩ (⟨xn, true, xk, xw ++ b, xs⟩) false := ⟨_, rfl⟩
      rw [← hR] at q1 q3 q4 ⊢
      have HRR := Lib.hid hR
      have T5 := Lib.hid (there_below HTX.out q5 (by omega))
      obtain ⟨z0, z1, z2, p0, p1, p2, r0, r1, r2⟩ := there3 T5.out
      have Q1 := Lib.hid q1; have Q2' := Lib.hid q2; have Q3 := Lib.hid q3; have Q4 := Lib.hid q4; have Q5 := Lib.hid q5
      clear hR q1 q2 q3 q4 q5
      unfold fsv
      go_wp2_with fail
      refine bodyPost_ret (v := .tuple #[fsv a5 R.1.files.length c5 R.1.fuse R.1.down, .int .i64 R.2]) (results_cell_two (p := 6) (u := 7) (ty := 28) (b := w.heap.size + 1) (x := .int .i64 R.2) rfl rfl rfl (load_fs w5 (w.heap.size + 1) #[.slice a5 R.1.files.length c5, .int .i64 R.1.fuse, .bool R.1.down] T5.out)) rfl ?_
      rw [HACT.out, ← HRR.out]
      exact FsErr.acted [.slice a5 R.1.files.length c5, .int .i64 R.1.fuse, .bool R.1.down] HR.out HBX.out (by omega) nX Q1.out Q2'.out Q3.out Q4.out Q5.out
  · skip
    have HACT : Hid (appendF ⟨L, fu, true⟩ n b = (⟨L, fu, true⟩, 7)) := by show _ = _; rfl
    obtain ⟨z0, z1, z2, p0, p1, p2, r0, r1, r2⟩ := there3 T1.out
    go_wp2_with fail
    refine bodyPost_ret (v := .tuple #[fsv a L.length c fu true, .int .i64 7]) (results_cell_two (p := 6) (u := 7) (ty := 28) (b := w.heap.size + 1) (x := .int .i64 7) rfl rfl rfl (load_fsA w1 (w.heap.size + 1) #[.slice a L.length c, .int .i64 fu, .bool true] _ T1.out)) rfl ?_
    rw [HACT.out]
    exact FsErr.same HR.out hlc HC.out ((Below_setCells (b := w.heap.size + 1) (by omega) [.slice a L.length c, .int .i64 fu, .bool true] 0 _ HB1.out).alloc (by rw [size_setCells']; omega) _)
set_option maxRecDepth 20000 in
set_option maxHeartbeats 4000000 in
theorem trunc_fs (a : Option Addr) (c : Nat) (m : FSm) (n : Nat) (s : Int) (w : World) (hr : Rd w w.heap.size a (flF m.files)) (hl : m.files.length ≤ 1000000000) (hlc : m.files.length ≤ c) (hc : c ≤ maxLen) (hf1 : -9223372036854775808 ≤ m.fuse) (hf2 : m.fuse ≤ 9223372036854775807) :
    Calls Try.prog 36 #[fsv a m.files.length c m.fuse m.down, .int .u32 (n : Int), .int .i64 s] w (FsErr w a m.files (truncF m n s)) := by
  have HR := Lib.hid hr; have HC := Lib.hid hc; clear hr hc
  obtain ⟨L, fu, dn⟩ := m
  simp only at *
  obtain ⟨x, hx⟩ : ∃ x, x = getF L n := ⟨_, rfl⟩
  have HX := Lib.hid hx; clear hx
  unfold fsv
  go_enter Try.func36, Try.ntmps36
  go_wp2_with fail
  obtain ⟨W2, hW2⟩ : ∃ W2, W2 = ((w.alloc (.cells #[.slice a L.length c, .int .i64 fu, .bool dn] 28)).alloc (.cells #[.slice none 0 0, .int .i64 0, .bool false] 28)) := ⟨_, rfl⟩
  rw [← hW2]
  have HS2 : Hid (W2.heap.size = w.heap.size + 2) := by show _ = _; rw [hW2]; simp
  have HB2 : Hid (Below w.heap.size w W2) := by show Below _ _ _; rw [hW2]; exact (box1 w _).alloc (by simp) _
  have HRES : Hid (W2.there (w.heap.size + 1) 0 3) := by
    show W2.there _ _ _; rw [hW2]
    exact there_last _ #[.slice none 0 0, .int .i64 0, .bool false] 28 _ 3 rfl (by simp)
  have C0 : Hid (W2.cell? ⟨w.heap.size, 0, none⟩ = some (.slice a L.length c)) := by show _ = _; rw [hW2]; go_simp
  have C1 : Hid (W2.cell? ⟨w.heap.size, 1, none⟩ = some (.int .i64 fu)) := by show _ = _; rw [hW2]; go_simp
  have C2 : Hid (W2.cell? ⟨w.heap.size, 2, none⟩ = some (.bool dn)) := by show _ = _; rw [hW2]; go_simp
  have HR2 : Hid (Rd W2 W2.heap.size a (flF L)) := (HR.out.below HB2.out).more (by rw [HS2.out]; omega)
  clear hW2
  refine (refGetF_any a c L fu dn n W2 HR2.out (by omega)).mono ?_
  rw [← HX.out]
  rintro e w1 ⟨rfl, hb1⟩
  have c0 : w1.cell? ⟨w.heap.size, 0, none⟩ = some (.slice a L.length c) := by rw [hb1.cell (p := ⟨w.heap.size, 0, none⟩) (by show w.heap.size < _; rw [HS2.out]; omega)]; exact C0.out
  have c1 : w1.cell? ⟨w.heap.size, 1, none⟩ = some (.int .i64 fu) := by rw [hb1.cell (p := ⟨w.heap.size, 1, none⟩) (by show w.heap.size < _; rw [HS2.out]; omega)]; exact C1.out
  have c2 : w1.cell? ⟨w.heap.size, 2, none⟩ = some (.bool dn) := by rw [hb1.cell (p := ⟨w.heap.size, 2, none⟩) (by show w.heap.size < _; rw [HS2.out]; omega)]; exact C2.out
  have T1 := Lib.hid (there_below HRES.out hb1 (by rw [HS2.out]; omega))
  have n0 : w.heap.size < w1.heap.size := by have := hb1.size; rw [HS2.out] at this; omega
  have n1 : w.heap.size + 1 < w1.heap.size := by have := hb1.size; rw [HS2.out] at this; omega
  have HB1 := Lib.hid (HB2.out.trans (hb1.mono (by rw [HS2.out]; omega)))
  clear hb1 C0 C1 C2
  obtain ⟨xn, xt, xk, xw, xs⟩ := x
  unfold Fl.v
  cases dn
  · cases xt
    · skip
      have HACT : Hid (truncF ⟨L, fu, false⟩ n s = (⟨L, fu, false⟩, 5)) := by show _ = _; unfold truncF; simp only [← HX.out]; rfl
      obtain ⟨z0, z1, z2, p0, p1, p2, r0, r1, r2⟩ := there3 T1.out
      go_wp2_with fail
      refine bodyPost_ret (v := .tuple #[fsv a L.length c fu false, .int .i64 5]) (results_cell_two (p := 6) (u := 7) (ty := 28) (b := w.heap.size + 1) (x := .int .i64 5) rfl rfl rfl (load_fsA w1 (w.heap.size + 1) #[.slice a L.length c, .int .i64 fu, .bool false] _ T1.out)) rfl ?_
      rw [HACT.out]
      exact FsErr.same HR.out hlc HC.out ((Below_setCells (b := w.heap.size + 1) (by omega) [.slice a L.length c, .int .i64 fu, .bool false] 0 _ HB1.out).alloc (by rw [size_setCells']; omega) _)
    · by_cases g1 : s < 0
      · have d1 : decide (s < 0) = true := decide_eq_true g1
        have HACT : Hid (truncF ⟨L, fu, false⟩ n s = (⟨L, fu, false⟩, 4)) := by show _ = _; unfold truncF; simp only [← HX.out]; simp [g1]
        obtain ⟨z0, z1, z2, p0, p1, p2, r0, r1, r2⟩ := there3 T1.out
        go_wp2_with fail
        refine bodyPost_ret (v := .tuple #[fsv a L.length c fu false, .int .i64 4]) (results_cell_two (p := 6) (u := 7) (ty := 28) (b := w.heap.size + 1) (x := .int .i64 4) rfl rfl rfl (load_fsA w1 (w.heap.size + 1) #[.slice a L.length c, .int .i64 fu, .bool false] _ T1.out)) rfl ?_
        rw [HACT.out]
        exact FsErr.same HR.out hlc HC.out ((Below_setCells (b := w.heap.size + 1) (by omega) [.slice a L.length c, .int .i64 fu, .bool false] 0 _ HB1.out).alloc (by rw [size_setCells']; omega) _)
      · obtain ⟨k, rfl⟩ := Int.eq_ofNat_of_zero_le (Int.not_lt.1 g1)
        have d1 : decide ((k : Int) < 0) = false := decide_eq_false g1
        by_cases g2 : xw.size < k
        · have d2 : decide (xw.size < k) = true := decide_eq_true g2
          have HACT : Hid (truncF ⟨L, fu, false⟩ n (k : Int) = (⟨L, fu, false⟩, 4)) := by show _ = _; unfold truncF; simp only [← HX.out]; simp [g2]
          obtain ⟨z0, z1, z2, p0, p1, p2, r0, r1, r2⟩ := there3 T1.out
          go_wp2_with fail
          refine bodyPost_ret (v := .tuple #[fsv a L.length c fu false, .int .i64 4]) (results_cell_two (p := 6) (u := 7) (ty := 28) (b := w.heap.size + 1) (x := .int .i64 4) rfl rfl rfl (load_fsA w1 (w.heap.size + 1) #[.slice a L.length c, .int .i64 fu, .bool false] _ T1.out)) rfl ?_
          rw [HACT.out]
          exact FsErr.same HR.out hlc HC.out ((Below_setCells (b := w.heap.size + 1) (by omega) [.slice a L.length c, .int .i64 fu, .bool false] 0 _ HB1.out).alloc (by rw [size_setCells']; omega) _)
        · have d2 : decide (xw.size < k) = false := decide_eq_false g2
          have d3 : (0 : Int) ≤ (k : Int) := by omega
          have d4 : (k : Int) ≤ (xw.size : Int) := by omega
          have d5 : k ≤ xw.size := by omega
          have HACT : Hid (truncF ⟨L, fu, false⟩ n (k : Int) = actF ⟨L, fu, false⟩ ⟨xn, true, xk, xw.extract 0 k, xs⟩ false) := by show _ = _; unfold truncF; simp only [← HX.out]; simp [g2, cutF]; intro h; omega
          go_wp2_with fail
          obtain ⟨WX, hWX⟩ : ∃ WX, WX = w1.alloc (.cells #[.int .u32 (xn : Int), .bool true, .bool xk, .string (xw.extract 0 k), .string xs] 85) := ⟨_, rfl⟩
          have HBX : Hid (Below w.heap.size w WX) := by show Below _ _ _; rw [hWX]; exact HB1.out.alloc (by omega) _
          have HTX : Hid (WX.there (w.heap.size + 1) 0 3) := by show WX.there _ _ _; rw [hWX]; exact World.there_alloc T1.out _
          have nX : w.heap.size + 1 < WX.heap.size := by rw [hWX]; simp; omega
          rw [← hWX]
          clear hWX
          refine (act_fs a c ⟨L, fu, false⟩ (⟨xn, true, xk, xw.extract 0 k, xs⟩) false WX ((HR.out.below HBX.out).more HBX.out.size) hl hlc HC.out hf1 hf2).mono ?_
          rintro e w5 ⟨a5, c5, rfl, q1, q2, q3, q4, q5⟩
          obtain ⟨R, hR⟩ : ∃ R, R = actF ⟨L, fu, false⟩ (⟨xn, true, xk, xw.extract 0 k, xs⟩) false := ⟨_, rfl⟩
          rw [← hR] at q1 q3 q4 ⊢
          have HRR := Lib.hid hR
          have T5 := Lib.hid (there_below HTX.out q5 (by omega))
          obtain ⟨z0, z1, z2, p0, p1, p2, r0, r1, r2⟩ := there3 T5.out
          have Q1 := Lib.hid q1; have Q2' := Lib.hid q2; have Q3 := Lib.hid q3; have Q4 := Lib.hid q4; have Q5 := Lib.hid q5
          clear hR q1 q2 q3 q4 q5
          unfold fsv
          go_wp2_with fail
          refine bodyPost_ret (v := .tuple #[fsv a5 R.1.files.length c5 R.1.fuse R.1.down, .int .i64 R.2]) (results_cell_two (p := 6) (u := 7) (ty := 28) (b := w.heap.size + 1) (x := .int .i64 R.2) rfl rfl rfl (load_fs w5 (w.heap.size + 1) #[.slice a5 R.1.files.length c5, .int .i64 R.1.fuse, .bool R.1.down] T5.out)) rfl ?_
          rw [HACT.out, ← HRR.out]
          exact FsErr.acted [.slice a5 R.1.files.length c5, .int .i64 R.1.fuse, .bool R.1.down] HR.out HBX.out (by omega) nX Q1.out Q2'.out Q3.out Q4.out Q5.out
  · skip
    have HACT : Hid (truncF ⟨L, fu, true⟩ n s = (⟨L, fu, true⟩, 7)) := by show _ = _; rfl
    obtain ⟨z0, z1, z2, p0, p1, p2, r0, r1, r2⟩ := there3 T1.out
    go_wp2_with fail
    refine bodyPost_ret (v := .tuple #[fsv a L.length c fu true, .int .i64 7]) (results_cell_two (p := 6) (u := 7) (ty := 28) (b := w.heap.size + 1) (x := .int .i64 7) rfl rfl rfl (load_fsA w1 (w.heap.size + 1) #[.slice a L.length c, .int .i64 fu, .bool true] _ T1.out)) rfl ?_
    rw [HACT.out]
    exact FsErr.same HR.out hlc HC.out ((Below_setCells (b := w.heap.size + 1) (by omega) [.slice a L.length c, .int .i64 fu, .bool true] 0 _ HB1.out).alloc (by rw [size_setCells']; omega) _)
end Go.Proofs.Ythfhmohbfoolnaa
