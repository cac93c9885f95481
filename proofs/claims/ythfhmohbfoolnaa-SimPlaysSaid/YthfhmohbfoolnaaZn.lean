import Derived.Test.YthfhmohbfoolnaaZm
set_option linter.unusedVariables false
set_option linter.unusedSimpArgs false
namespace Go.Proofs.Ythfhmohbfoolnaa
open Go Go.RowKit Go.Sort

set_option maxRecDepth 20000 in
set_option maxHeartbeats 8000000 in
theorem step_create (K : FsKit) (p : Nat) (S R : Nat → Prop) (m : FSm) (xa : Option Addr) (xc : Nat) (w : World) (n : Nat) (ba : Option Addr) (bc : Nat) (body : List UInt8) (sz : Int) (fa : Option Addr) (fc : Nat) (fates : List Ft) (hq : Q8 K w w p S R S R m xa xc) (hb : Bnd m) (hb2 : Bnd (createF m n).1) (ha : AcIn S w ⟨0, n, ba, bc, body, sz, fa, fc, fates⟩) :
    Calls Try.prog 22 #[bothV p xa xc m, .agg #[.int .i64 0, .int .u32 (n : Int), .slice ba body.length bc, .int .i64 sz, .slice fa fates.length fc]] w fun e w' => ∃ S' R' p' xa' xc', e = .returned (.tuple #[bothV p' xa' xc' (createF m n).1, .bool true]) ∧ Q8 K w w' p' S R S' R' (createF m n).1 xa' xc' := by
  have HB := Lib.hid hb; have HB2 := Lib.hid hb2; have HA := Lib.hid ha
  have hn := ha.n
  have HN := Lib.hid hn
  have HQ0 := Lib.hid (qs_start ⟨0, n, ba, bc, body, sz, fa, fc, fates⟩ hq)
  have HOK := Lib.hid (K.ok hq.fs)
  have HLF := Lib.hid (hq.len hb)
  have HXL := Lib.hid hq.xl
  clear hb hb2 hn hq ha
  unfold Ac.c at HQ0
  simp only at HQ0
  obtain ⟨bb, hbb⟩ : ∃ bb, bb = w.heap.size := ⟨_, rfl⟩
  obtain ⟨W, hW⟩ : ∃ W, W = (((w.alloc (.cells #[.pointer (some ⟨p, 0, none⟩), .slice xa m.files.length xc, .int .i64 m.fuse, .bool m.down] 30)).alloc (.cells #[.int .i64 0, .int .u32 (n : Int), .slice ba body.length bc, .int .i64 sz, .slice fa fates.length fc] 38)).alloc (.cells #[.pointer none, .slice none 0 0, .int .i64 0, .bool false] 30)) := ⟨_, rfl⟩
  rw [← hW, ← hbb] at HQ0
  have HAW : Hid (AcIn S W ⟨0, n, ba, bc, body, sz, fa, fc, fates⟩) := by
    show AcIn _ _ _
    refine HA.out.did (Did.below (S := S) (R := R) ?_)
    rw [hW]; exact (((Below.refl _ _).alloc (Nat.le_refl _) _).alloc (by simp) _).alloc (by simp; omega) _
  unfold bothV
  go_enter Try.func22, Try.ntmps22
  go_wp2_with fail
  rw [← hW, ← hbb]
  clear hW hbb
  refine (K.create W S R p m n HQ0.out.fs HB.out HN.out).mono ?_
  rintro e w1 ⟨S1, R1, rfl, hf1, hd1⟩
  have HQ1 := Lib.hid (HQ0.out.step hf1 hd1)
  clear hf1 hd1 HQ0
  obtain ⟨c0, c1, c2, c3, f0, f1, f2, f3, d0, d1, d2, d3, d4, r0, r1, r2, r3, g0, g1, g2, g3⟩ := HQ1.out.bx
  have hc := create_fs xa xc m n w1 HQ1.out.x.rd HLF.out HQ1.out.xl HQ1.out.xm (by have := HOK.out.2.2.1; omega) HOK.out.2.2.2
  unfold fsv at hc
  have HC := Lib.hid hc
  clear hc
  obtain ⟨r, hr⟩ : ∃ r, r = createF m n := ⟨_, rfl⟩
  have HRE := Lib.hid hr
  rw [← hr] at HC HQ1 HB2 ⊢
  clear hr
  obtain ⟨m', er⟩ := r
  go_wp2_with fail
  refine HC.out.mono ?_
  clear c0 c1 c2 c3 f0 f1 f2 f3 d0 d1 d2 d3 d4 r0 r1 r2 r3 g0 g1 g2 g3
  rintro e w2 ⟨xa', xc', rfl, hl', hc', hr', hfrom, hb2⟩
  have HX := Lib.hid (HQ1.out.fresh hl' hc' hr' hfrom hb2)
  have HQ2 := Lib.hid (HQ1.out.below hb2)
  clear hl' hc' hr' hfrom hb2 HC HQ1
  simp only at HX HQ2 HB2 ⊢
  unfold fsv
  obtain ⟨c0, c1, c2, c3, f0, f1, f2, f3, d0, d1, d2, d3, d4, r0, r1, r2, r3, g0, g1, g2, g3⟩ := HQ2.out.bx
  go_wp2_with fail
  clear c0 c1 c2 c3 f0 f1 f2 f3 d0 d1 d2 d3 d4 r0 r1 r2 r3 g0 g1 g2 g3
  have HQ3 := Lib.hid (HQ2.out.laid HX.out)
  obtain ⟨W3, hW3⟩ : ∃ W3, W3 = (((w2.setCell ⟨bb, 1, none⟩ (.slice xa' m'.files.length xc')).setCell ⟨bb, 2, none⟩ (.int .i64 m'.fuse)).setCell ⟨bb, 3, none⟩ (.bool m'.down)) := ⟨_, rfl⟩
  rw [← hW3] at HQ3 ⊢
  clear hW3 HQ2 HX
  have HQ4 := Lib.hid (HQ3.out.below (Below_drew (Below.refl W3.heap.size W3)))
  have hsm := bsame_any K p S1 R1 m' xa' xc' _ HQ4.out.q8 HB2.out
  unfold bothV at hsm
  have HSM := Lib.hid hsm
  clear hsm
  have hee : decide (er = er) = true := by simp
  go_region_held_law (fun wr => wr.cell? ⟨bb, 0, none⟩ = some (.pointer (some ⟨p, 0, none⟩)) ∧ wr.cell? ⟨bb, 1, none⟩ = some (.slice xa' m'.files.length xc') ∧ wr.cell? ⟨bb, 2, none⟩ = some (.int .i64 m'.fuse) ∧ wr.cell? ⟨bb, 3, none⟩ = some (.bool m'.down))
    (first | exact HQ5.out.fin4 | exact HQ4.out.fin4 | exact HQ3.out.fin4 | exact HQ5.out.fin4s _ _ _ _ rfl)
    ((go_at_call 41; refine HSM.out.mono ?_; rintro e w5 ⟨S5, R5, rfl, hq5⟩; have HQ5 := Lib.hid (HQ4.out.step hq5.fs hq5.did); obtain ⟨_, _, _, _, r0, r1, r2, r3, g0, g1, g2, g3⟩ := HQ5.out.fin; clear hq5))
  go_wp2_with fail
  refine bodyPost_ret (v := .tuple #[bothV p xa' xc' m', .bool true]) (results_cell_two (p := 4) (u := 5) (ty := 30) (b := bb + 1 + 1) (x := .bool true) rfl rfl rfl (load_both w5 (bb + 1 + 1) #[.pointer (some ⟨p, 0, none⟩), .slice xa' m'.files.length xc', .int .i64 m'.fuse, .bool m'.down] HQ5.out.there)) rfl ?_
  rw [← HRE.out]
  exact ⟨S5, R5, p, xa', xc', rfl, HQ5.out.last _ _ _ _⟩
set_option maxRecDepth 20000 in
set_option maxHeartbeats 8000000 in
theorem step_trunc (K : FsKit) (p : Nat) (S R : Nat → Prop) (m : FSm) (xa : Option Addr) (xc : Nat) (w : World) (n : Nat) (ba : Option Addr) (bc : Nat) (body : List UInt8) (sz : Int) (fa : Option Addr) (fc : Nat) (fates : List Ft) (hq : Q8 K w w p S R S R m xa xc) (hb : Bnd m) (hb2 : Bnd (truncF m n sz).1) (ha : AcIn S w ⟨2, n, ba, bc, body, sz, fa, fc, fates⟩) :
    Calls Try.prog 22 #[bothV p xa xc m, .agg #[.int .i64 2, .int .u32 (n : Int), .slice ba body.length bc, .int .i64 sz, .slice fa fates.length fc]] w fun e w' => ∃ S' R' p' xa' xc', e = .returned (.tuple #[bothV p' xa' xc' (truncF m n sz).1, .bool true]) ∧ Q8 K w w' p' S R S' R' (truncF m n sz).1 xa' xc' := by
  have HB := Lib.hid hb; have HB2 := Lib.hid hb2; have HA := Lib.hid ha
  have hn := ha.n
  have HN := Lib.hid hn
  have HQ0 := Lib.hid (qs_start ⟨2, n, ba, bc, body, sz, fa, fc, fates⟩ hq)
  have HOK := Lib.hid (K.ok hq.fs)
  have HLF := Lib.hid (hq.len hb)
  have HXL := Lib.hid hq.xl
  clear hb hb2 hn hq ha
  unfold Ac.c at HQ0
  simp only at HQ0
  obtain ⟨bb, hbb⟩ : ∃ bb, bb = w.heap.size := ⟨_, rfl⟩
  obtain ⟨W, hW⟩ : ∃ W, W = (((w.alloc (.cells #[.pointer (some ⟨p, 0, none⟩), .slice xa m.files.length xc, .int .i64 m.fuse, .bool m.down] 30)).alloc (.cells #[.int .i64 2, .int .u32 (n : Int), .slice ba body.length bc, .int .i64 sz, .slice fa fates.length fc] 38)).alloc (.cells #[.pointer none, .slice none 0 0, .int .i64 0, .bool false] 30)) := ⟨_, rfl⟩
  rw [← hW, ← hbb] at HQ0
  have HAW : Hid (AcIn S W ⟨2, n, ba, bc, body, sz, fa, fc, fates⟩) := by
    show AcIn _ _ _
    refine HA.out.did (Did.below (S := S) (R := R) ?_)
    rw [hW]; exact (((Below.refl _ _).alloc (Nat.le_refl _) _).alloc (by simp) _).alloc (by simp; omega) _
  unfold bothV
  go_enter Try.func22, Try.ntmps22
  go_wp2_with fail
  rw [← hW, ← hbb]
  clear hW hbb
  refine (K.trunc W S R p m n sz HQ0.out.fs HB.out HN.out HA.out.s1 HA.out.s2).mono ?_
  rintro e w1 ⟨S1, R1, rfl, hf1, hd1⟩
  have HQ1 := Lib.hid (HQ0.out.step hf1 hd1)
  clear hf1 hd1 HQ0
  obtain ⟨c0, c1, c2, c3, f0, f1, f2, f3, d0, d1, d2, d3, d4, r0, r1, r2, r3, g0, g1, g2, g3⟩ := HQ1.out.bx
  have hc := trunc_fs xa xc m n sz w1 HQ1.out.x.rd HLF.out HQ1.out.xl HQ1.out.xm (by have := HOK.out.2.2.1; omega) HOK.out.2.2.2
  unfold fsv at hc
  have HC := Lib.hid hc
  clear hc
  obtain ⟨r, hr⟩ : ∃ r, r = truncF m n sz := ⟨_, rfl⟩
  have HRE := Lib.hid hr
  rw [← hr] at HC HQ1 HB2 ⊢
  clear hr
  obtain ⟨m', er⟩ := r
  go_wp2_with fail
  refine HC.out.mono ?_
  clear c0 c1 c2 c3 f0 f1 f2 f3 d0 d1 d2 d3 d4 r0 r1 r2 r3 g0 g1 g2 g3
  rintro e w2 ⟨xa', xc', rfl, hl', hc', hr', hfrom, hb2⟩
  have HX := Lib.hid (HQ1.out.fresh hl' hc' hr' hfrom hb2)
  have HQ2 := Lib.hid (HQ1.out.below hb2)
  clear hl' hc' hr' hfrom hb2 HC HQ1
  simp only at HX HQ2 HB2 ⊢
  unfold fsv
  obtain ⟨c0, c1, c2, c3, f0, f1, f2, f3, d0, d1, d2, d3, d4, r0, r1, r2, r3, g0, g1, g2, g3⟩ := HQ2.out.bx
  go_wp2_with fail
  clear c0 c1 c2 c3 f0 f1 f2 f3 d0 d1 d2 d3 d4 r0 r1 r2 r3 g0 g1 g2 g3
  have HQ3 := Lib.hid (HQ2.out.laid HX.out)
  obtain ⟨W3, hW3⟩ : ∃ W3, W3 = (((w2.setCell ⟨bb, 1, none⟩ (.slice xa' m'.files.length xc')).setCell ⟨bb, 2, none⟩ (.int .i64 m'.fuse)).setCell ⟨bb, 3, none⟩ (.bool m'.down)) := ⟨_, rfl⟩
  rw [← hW3] at HQ3 ⊢
  clear hW3 HQ2 HX
  have HQ4 := Lib.hid (HQ3.out.below (Below_drew (Below.refl W3.heap.size W3)))
  have hsm := bsame_any K p S1 R1 m' xa' xc' _ HQ4.out.q8 HB2.out
  unfold bothV at hsm
  have HSM := Lib.hid hsm
  clear hsm
  have hee : decide (er = er) = true := by simp
  go_region_held_law (fun wr => wr.cell? ⟨bb, 0, none⟩ = some (.pointer (some ⟨p, 0, none⟩)) ∧ wr.cell? ⟨bb, 1, none⟩ = some (.slice xa' m'.files.length xc') ∧ wr.cell? ⟨bb, 2, none⟩ = some (.int .i64 m'.fuse) ∧ wr.cell? ⟨bb, 3, none⟩ = some (.bool m'.down))
    (first | exact HQ5.out.fin4 | exact HQ4.out.fin4 | exact HQ3.out.fin4 | exact HQ5.out.fin4s _ _ _ _ rfl)
    ((go_at_call 41; refine HSM.out.mono ?_; rintro e w5 ⟨S5, R5, rfl, hq5⟩; have HQ5 := Lib.hid (HQ4.out.step hq5.fs hq5.did); obtain ⟨_, _, _, _, r0, r1, r2, r3, g0, g1, g2, g3⟩ := HQ5.out.fin; clear hq5))
  go_wp2_with fail
  refine bodyPost_ret (v := .tuple #[bothV p xa' xc' m', .bool true]) (results_cell_two (p := 4) (u := 5) (ty := 30) (b := bb + 1 + 1) (x := .bool true) rfl rfl rfl (load_both w5 (bb + 1 + 1) #[.pointer (some ⟨p, 0, none⟩), .slice xa' m'.files.length xc', .int .i64 m'.fuse, .bool m'.down] HQ5.out.there)) rfl ?_
  rw [← HRE.out]
  exact ⟨S5, R5, p, xa', xc', rfl, HQ5.out.last _ _ _ _⟩
end Go.Proofs.Ythfhmohbfoolnaa

namespace Go.Proofs.Ythfhmohbfoolnaa
open Go Go.RowKit Go.Sort

set_option maxRecDepth 20000 in
set_option maxHeartbeats 8000000 in
theorem step_sync (K : FsKit) (p : Nat) (S R : Nat → Prop) (m : FSm) (xa : Option Addr) (xc : Nat) (w : World) (n : Nat) (ba : Option Addr) (bc : Nat) (body : List UInt8) (sz : Int) (fa : Option Addr) (fc : Nat) (fates : List Ft) (hq : Q8 K w w p S R S R m xa xc) (hb : Bnd m) (hb2 : Bnd (syncF m n).1) (ha : AcIn S w ⟨3, n, ba, bc, body, sz, fa, fc, fates⟩) :
    Calls Try.prog 22 #[bothV p xa xc m, .agg #[.int .i64 3, .int .u32 (n : Int), .slice ba body.length bc, .int .i64 sz, .slice fa fates.length fc]] w fun e w' => ∃ S' R' p' xa' xc', e = .returned (.tuple #[bothV p' xa' xc' (syncF m n).1, .bool true]) ∧ Q8 K w w' p' S R S' R' (syncF m n).1 xa' xc' := by
  have HB := Lib.hid hb; have HB2 := Lib.hid hb2; have HA := Lib.hid ha
  have hn := ha.n
  have HN := Lib.hid hn
  have HQ0 := Lib.hid (qs_start ⟨3, n, ba, bc, body, sz, fa, fc, fates⟩ hq)
  have HOK := Lib.hid (K.ok hq.fs)
  have HLF := Lib.hid (hq.len hb)
  have HXL := Lib.hid hq.xl
  clear hb hb2 hn hq ha
  unfold Ac.c at HQ0
  simp only at HQ0
  obtain ⟨bb, hbb⟩ : ∃ bb, bb = w.heap.size := ⟨_, rfl⟩
  obtain ⟨W, hW⟩ : ∃ W, W = (((w.alloc (.cells #[.pointer (some ⟨p, 0, none⟩), .slice xa m.files.length xc, .int .i64 m.fuse, .bool m.down] 30)).alloc (.cells #[.int .i64 3, .int .u32 (n : Int), .slice ba body.length bc, .int .i64 sz, .slice fa fates.length fc] 38)).alloc (.cells #[.pointer none, .slice none 0 0, .int .i64 0, .bool false] 30)) := ⟨_, rfl⟩
  rw [← hW, ← hbb] at HQ0
  have HAW : Hid (AcIn S W ⟨3, n, ba, bc, body, sz, fa, fc, fates⟩) := by
    show AcIn _ _ _
    refine HA.out.did (Did.below (S := S) (R := R) ?_)
    rw [hW]; exact (((Below.refl _ _).alloc (Nat.le_refl _) _).alloc (by simp) _).alloc (by simp; omega) _
  unfold bothV
  go_enter Try.func22, Try.ntmps22
  go_wp2_with fail
  rw [← hW, ← hbb]
  clear hW hbb
  refine (K.sync W S R p m n HQ0.out.fs HB.out HN.out).mono ?_
  rintro e w1 ⟨S1, R1, rfl, hf1, hd1⟩
  have HQ1 := Lib.hid (HQ0.out.step hf1 hd1)
  clear hf1 hd1 HQ0
  obtain ⟨c0, c1, c2, c3, f0, f1, f2, f3, d0, d1, d2, d3, d4, r0, r1, r2, r3, g0, g1, g2, g3⟩ := HQ1.out.bx
  have hc := sync_fs xa xc m n w1 HQ1.out.x.rd HLF.out HQ1.out.xl HQ1.out.xm (by have := HOK.out.2.2.1; omega) HOK.out.2.2.2
  unfold fsv at hc
  have HC := Lib.hid hc
  clear hc
  obtain ⟨r, hr⟩ : ∃ r, r = syncF m n := ⟨_, rfl⟩
  have HRE := Lib.hid hr
  rw [← hr] at HC HQ1 HB2 ⊢
  clear hr
  obtain ⟨m', er⟩ := r
  go_wp2_with fail
  refine HC.out.mono ?_
  clear c0 c1 c2 c3 f0 f1 f2 f3 d0 d1 d2 d3 d4 r0 r1 r2 r3 g0 g1 g2 g3
  rintro e w2 ⟨xa', xc', rfl, hl', hc', hr', hfrom, hb2⟩
  have HX := Lib.hid (HQ1.out.fresh hl' hc' hr' hfrom hb2)
  have HQ2 := Lib.hid (HQ1.out.below hb2)
  clear hl' hc' hr' hfrom hb2 HC HQ1
  simp only at HX HQ2 HB2 ⊢
  unfold fsv
  obtain ⟨c0, c1, c2, c3, f0, f1, f2, f3, d0, d1, d2, d3, d4, r0, r1, r2, r3, g0, g1, g2, g3⟩ := HQ2.out.bx
  go_wp2_with fail
  clear c0 c1 c2 c3 f0 f1 f2 f3 d0 d1 d2 d3 d4 r0 r1 r2 r3 g0 g1 g2 g3
  have HQ3 := Lib.hid (HQ2.out.laid HX.out)
  obtain ⟨W3, hW3⟩ : ∃ W3, W3 = (((w2.setCell ⟨bb, 1, none⟩ (.slice xa' m'.files.length xc')).setCell ⟨bb, 2, none⟩ (.int .i64 m'.fuse)).setCell ⟨bb, 3, none⟩ (.bool m'.down)) := ⟨_, rfl⟩
  rw [← hW3] at HQ3 ⊢
  clear hW3 HQ2 HX
  have HQ4 := Lib.hid (HQ3.out.below (Below_drew (Below.refl W3.heap.size W3)))
  have hsm := bsame_any K p S1 R1 m' xa' xc' _ HQ4.out.q8 HB2.out
  unfold bothV at hsm
  have HSM := Lib.hid hsm
  clear hsm
  have hee : decide (er = er) = true := by simp
  go_region_held_law (fun wr => wr.cell? ⟨bb, 0, none⟩ = some (.pointer (some ⟨p, 0, none⟩)) ∧ wr.cell? ⟨bb, 1, none⟩ = some (.slice xa' m'.files.length xc') ∧ wr.cell? ⟨bb, 2, none⟩ = some (.int .i64 m'.fuse) ∧ wr.cell? ⟨bb, 3, none⟩ = some (.bool m'.down))
    (first | exact HQ5.out.fin4 | exact HQ4.out.fin4 | exact HQ3.out.fin4 | exact HQ5.out.fin4s _ _ _ _ rfl)
    ((go_at_call 41; refine HSM.out.mono ?_; rintro e w5 ⟨S5, R5, rfl, hq5⟩; have HQ5 := Lib.hid (HQ4.out.step hq5.fs hq5.did); obtain ⟨_, _, _, _, r0, r1, r2, r3, g0, g1, g2, g3⟩ := HQ5.out.fin; clear hq5))
  go_wp2_with fail
  refine bodyPost_ret (v := .tuple #[bothV p xa' xc' m', .bool true]) (results_cell_two (p := 4) (u := 5) (ty := 30) (b := bb + 1 + 1) (x := .bool true) rfl rfl rfl (load_both w5 (bb + 1 + 1) #[.pointer (some ⟨p, 0, none⟩), .slice xa' m'.files.length xc', .int .i64 m'.fuse, .bool m'.down] HQ5.out.there)) rfl ?_
  rw [← HRE.out]
  exact ⟨S5, R5, p, xa', xc', rfl, HQ5.out.last _ _ _ _⟩
set_option maxRecDepth 20000 in
set_option maxHeartbeats 8000000 in
theorem step_remove (K : FsKit) (p : Nat) (S R : Nat → Prop) (m : FSm) (xa : Option Addr) (xc : Nat) (w : World) (n : Nat) (ba : Option Addr) (bc : Nat) (body : List UInt8) (sz : Int) (fa : Option Addr) (fc : Nat) (fates : List Ft) (hq : Q8 K w w p S R S R m xa xc) (hb : Bnd m) (hb2 : Bnd (removeF m n).1) (ha : AcIn S w ⟨4, n, ba, bc, body, sz, fa, fc, fates⟩) :
    Calls Try.prog 22 #[bothV p xa xc m, .agg #[.int .i64 4, .int .u32 (n : Int), .slice ba body.length bc, .int .i64 sz, .slice fa fates.length fc]] w fun e w' => ∃ S' R' p' xa' xc', e = .returned (.tuple #[bothV p' xa' xc' (removeF m n).1, .bool true]) ∧ Q8 K w w' p' S R S' R' (removeF m n).1 xa' xc' := by
  have HB := Lib.hid hb; have HB2 := Lib.hid hb2; have HA := Lib.hid ha
  have hn := ha.n
  have HN := Lib.hid hn
  have HQ0 := Lib.hid (qs_start ⟨4, n, ba, bc, body, sz, fa, fc, fates⟩ hq)
  have HOK := Lib.hid (K.ok hq.fs)
  have HLF := Lib.hid (hq.len hb)
  have HXL := Lib.hid hq.xl
  clear hb hb2 hn hq ha
  unfold Ac.c at HQ0
  simp only at HQ0
  obtain ⟨bb, hbb⟩ : ∃ bb, bb = w.heap.size := ⟨_, rfl⟩
  obtain ⟨W, hW⟩ : ∃ W, W = (((w.alloc (.cells #[.pointer (some ⟨p, 0, none⟩), .slice xa m.files.length xc, .int .i64 m.fuse, .bool m.down] 30)).alloc (.cells #[.int .i64 4, .int .u32 (n : Int), .slice ba body.length bc, .int .i64 sz, .slice fa fates.length fc] 38)).alloc (.cells #[.pointer none, .slice none 0 0, .int .i64 0, .bool false] 30)) := ⟨_, rfl⟩
  rw [← hW, ← hbb] at HQ0
  have HAW : Hid (AcIn S W ⟨4, n, ba, bc, body, sz, fa, fc, fates⟩) := by
    show AcIn _ _ _
    refine HA.out.did (Did.below (S := S) (R := R) ?_)
    rw [hW]; exact (((Below.refl _ _).alloc (Nat.le_refl _) _).alloc (by simp) _).alloc (by simp; omega) _
  unfold bothV
  go_enter Try.func22, Try.ntmps22
  go_wp2_with fail
  rw [← hW, ← hbb]
  clear hW hbb
  refine (K.remove W S R p m n HQ0.out.fs HB.out HN.out).mono ?_
  rintro e w1 ⟨S1, R1, rfl, hf1, hd1⟩
  have HQ1 := Lib.hid (HQ0.out.step hf1 hd1)
  clear hf1 hd1 HQ0
  obtain ⟨c0, c1, c2, c3, f0, f1, f2, f3, d0, d1, d2, d3, d4, r0, r1, r2, r3, g0, g1, g2, g3⟩ := HQ1.out.bx
  have hc := remove_fs xa xc m n w1 HQ1.out.x.rd HLF.out HQ1.out.xl HQ1.out.xm (by have := HOK.out.2.2.1; omega) HOK.out.2.2.2
  unfold fsv at hc
  have HC := Lib.hid hc
  clear hc
  obtain ⟨r, hr⟩ : ∃ r, r = removeF m n := ⟨_, rfl⟩
  have HRE := Lib.hid hr
  rw [← hr] at HC HQ1 HB2 ⊢
  clear hr
  obtain ⟨m', er⟩ := r
  go_wp2_with fail
  refine HC.out.mono ?_
  clear c0 c1 c2 c3 f0 f1 f2 f3 d0 d1 d2 d3 d4 r0 r1 r2 r3 g0 g1 g2 g3
  rintro e w2 ⟨xa', xc', rfl, hl', hc', hr', hfrom, hb2⟩
  have HX := Lib.hid (HQ1.out.fresh hl' hc' hr' hfrom hb2)
  have HQ2 := Lib.hid (HQ1.out.below hb2)
  clear hl' hc' hr' hfrom hb2 HC HQ1
  simp only at HX HQ2 HB2 ⊢
  unfold fsv
  obtain ⟨c0, c1, c2, c3, f0, f1, f2, f3, d0, d1, d2, d3, d4, r0, r1, r2, r3, g0, g1, g2, g3⟩ := HQ2.out.bx
  go_wp2_with fail
  clear c0 c1 c2 c3 f0 f1 f2 f3 d0 d1 d2 d3 d4 r0 r1 r2 r3 g0 g1 g2 g3
  have HQ3 := Lib.hid (HQ2.out.laid HX.out)
  obtain ⟨W3, hW3⟩ : ∃ W3, W3 = (((w2.setCell ⟨bb, 1, none⟩ (.slice xa' m'.files.length xc')).setCell ⟨bb, 2, none⟩ (.int .i64 m'.fuse)).setCell ⟨bb, 3, none⟩ (.bool m'.down)) := ⟨_, rfl⟩
  rw [← hW3] at HQ3 ⊢
  clear hW3 HQ2 HX
  have HQ4 := Lib.hid (HQ3.out.below (Below_drew (Below.refl W3.heap.size W3)))
  have hsm := bsame_any K p S1 R1 m' xa' xc' _ HQ4.out.q8 HB2.out
  unfold bothV at hsm
  have HSM := Lib.hid hsm
  clear hsm
  have hee : decide (er = er) = true := by simp
  go_region_held_law (fun wr => wr.cell? ⟨bb, 0, none⟩ = some (.pointer (some ⟨p, 0, none⟩)) ∧ wr.cell? ⟨bb, 1, none⟩ = some (.slice xa' m'.files.length xc') ∧ wr.cell? ⟨bb, 2, none⟩ = some (.int .i64 m'.fuse) ∧ wr.cell? ⟨bb, 3, none⟩ = some (.bool m'.down))
    (first | exact HQ5.out.fin4 | exact HQ4.out.fin4 | exact HQ3.out.fin4 | exact HQ5.out.fin4s _ _ _ _ rfl)
    ((go_at_call 41; refine HSM.out.mono ?_; rintro e w5 ⟨S5, R5, rfl, hq5⟩; have HQ5 := Lib.hid (HQ4.out.step hq5.fs hq5.did); obtain ⟨_, _, _, _, r0, r1, r2, r3, g0, g1, g2, g3⟩ := HQ5.out.fin; clear hq5))
  go_wp2_with fail
  refine bodyPost_ret (v := .tuple #[bothV p xa' xc' m', .bool true]) (results_cell_two (p := 4) (u := 5) (ty := 30) (b := bb + 1 + 1) (x := .bool true) rfl rfl rfl (load_both w5 (bb + 1 + 1) #[.pointer (some ⟨p, 0, none⟩), .slice xa' m'.files.length xc', .int .i64 m'.fuse, .bool m'.down] HQ5.out.there)) rfl ?_
  rw [← HRE.out]
  exact ⟨S5, R5, p, xa', xc', rfl, HQ5.out.last _ _ _ _⟩
end Go.Proofs.Ythfhmohbfoolnaa

namespace Go.Proofs.Ythfhmohbfoolnaa
open Go Go.RowKit Go.Sort

set_option maxRecDepth 20000 in
set_option maxHeartbeats 8000000 in
theorem step_crash (K : FsKit) (p : Nat) (S R : Nat → Prop) (m : FSm) (xa : Option Addr) (xc : Nat) (w : World) (n : Nat) (ba : Option Addr) (bc : Nat) (body : List UInt8) (sz : Int) (fa : Option Addr) (fc : Nat) (fates : List Ft) (hq : Q8 K w w p S R S R m xa xc) (hb : Bnd m) (hb2 : Bnd (crashF m fates)) (ha : AcIn S w ⟨6, n, ba, bc, body, sz, fa, fc, fates⟩) :
    Calls Try.prog 22 #[bothV p xa xc m, .agg #[.int .i64 6, .int .u32 (n : Int), .slice ba body.length bc, .int .i64 sz, .slice fa fates.length fc]] w fun e w' => ∃ S' R' p' xa' xc', e = .returned (.tuple #[bothV p' xa' xc' (crashF m fates), .bool true]) ∧ Q8 K w w' p' S R S' R' (crashF m fates) xa' xc' := by
  have HB := Lib.hid hb; have HB2 := Lib.hid hb2; have HA := Lib.hid ha
  have hn := ha.n
  have HN := Lib.hid hn
  have HQ0 := Lib.hid (qs_start ⟨6, n, ba, bc, body, sz, fa, fc, fates⟩ hq)
  have HOK := Lib.hid (K.ok hq.fs)
  have HLF := Lib.hid (hq.len hb)
  have HXL := Lib.hid hq.xl
  clear hb hb2 hn hq ha
  unfold Ac.c at HQ0
  simp only at HQ0
  obtain ⟨bb, hbb⟩ : ∃ bb, bb = w.heap.size := ⟨_, rfl⟩
  obtain ⟨W, hW⟩ : ∃ W, W = (((w.alloc (.cells #[.pointer (some ⟨p, 0, none⟩), .slice xa m.files.length xc, .int .i64 m.fuse, .bool m.down] 30)).alloc (.cells #[.int .i64 6, .int .u32 (n : Int), .slice ba body.length bc, .int .i64 sz, .slice fa fates.length fc] 38)).alloc (.cells #[.pointer none, .slice none 0 0, .int .i64 0, .bool false] 30)) := ⟨_, rfl⟩
  rw [← hW, ← hbb] at HQ0
  have HAW : Hid (AcIn S W ⟨6, n, ba, bc, body, sz, fa, fc, fates⟩) := by
    show AcIn _ _ _
    refine HA.out.did (Did.below (S := S) (R := R) ?_)
    rw [hW]; exact (((Below.refl _ _).alloc (Nat.le_refl _) _).alloc (by simp) _).alloc (by simp; omega) _
  unfold bothV
  go_enter Try.func22, Try.ntmps22
  go_wp2_with fail
  rw [← hW, ← hbb]
  clear hW hbb
  refine (K.crash W S R p m fa fc fates HQ0.out.fs HB.out HAW.out.f (by have := HAW.out.fl; simp only at this; omega) HAW.out.fc HAW.out.fm HAW.out.t).mono ?_
  rintro e w1 ⟨S1, R1, rfl, hf1, hd1⟩
  have HQ1 := Lib.hid (HQ0.out.step hf1 hd1)
  have HA1 := Lib.hid (HAW.out.did hd1)
  clear hf1 hd1 HQ0
  obtain ⟨c0, c1, c2, c3, f0, f1, f2, f3, d0, d1, d2, d3, d4, r0, r1, r2, r3, g0, g1, g2, g3⟩ := HQ1.out.bx
  have hc := crash_fs xa fa xc fc m fates w1 HQ1.out.x.rd (by have := HB.out.1; omega) HQ1.out.xl HQ1.out.xm (fun x hx => (HB.out.2 x hx).more (by omega)) HA1.out.f.rd (by have := HA1.out.fl; simp only at this; omega) (fun t ht => (HA1.out.t t ht).1.rd)
  unfold fsv at hc
  have HC := Lib.hid hc
  clear hc
  obtain ⟨m', hr⟩ : ∃ r, r = crashF m fates := ⟨_, rfl⟩
  have HRE := Lib.hid hr
  rw [← hr] at HC HQ1 HB2
  clear hr
  go_wp2_with fail
  refine HC.out.mono ?_
  clear c0 c1 c2 c3 f0 f1 f2 f3 d0 d1 d2 d3 d4 r0 r1 r2 r3 g0 g1 g2 g3
  rintro e w2 ⟨xa', xc', rfl, hl', hc', hr', hfrom, hb2⟩
  have HX := Lib.hid (HQ1.out.fresh hl' hc' hr' hfrom hb2)
  have HQ2 := Lib.hid (HQ1.out.below hb2)
  clear hl' hc' hr' hfrom hb2 HC HQ1
  unfold fsv
  obtain ⟨c0, c1, c2, c3, f0, f1, f2, f3, d0, d1, d2, d3, d4, r0, r1, r2, r3, g0, g1, g2, g3⟩ := HQ2.out.bx
  go_wp2_with fail
  clear c0 c1 c2 c3 f0 f1 f2 f3 d0 d1 d2 d3 d4 r0 r1 r2 r3 g0 g1 g2 g3
  have HQ3 := Lib.hid (HQ2.out.laid HX.out)
  obtain ⟨W3, hW3⟩ : ∃ W3, W3 = (((w2.setCell ⟨bb, 1, none⟩ (.slice xa' m'.files.length xc')).setCell ⟨bb, 2, none⟩ (.int .i64 m'.fuse)).setCell ⟨bb, 3, none⟩ (.bool m'.down)) := ⟨_, rfl⟩
  rw [← hW3] at HQ3 ⊢
  clear hW3 HQ2 HX
  have HQ4 := Lib.hid (HQ3.out.below (Below_drew (Below.refl W3.heap.size W3)))
  have hsm := bsame_any K p S1 R1 m' xa' xc' _ HQ4.out.q8 HB2.out
  unfold bothV at hsm
  have HSM := Lib.hid hsm
  clear hsm
  have hee : decide ((0 : Int) = (0 : Int)) = true := by simp
  go_region_held_law (fun wr => wr.cell? ⟨bb, 0, none⟩ = some (.pointer (some ⟨p, 0, none⟩)) ∧ wr.cell? ⟨bb, 1, none⟩ = some (.slice xa' m'.files.length xc') ∧ wr.cell? ⟨bb, 2, none⟩ = some (.int .i64 m'.fuse) ∧ wr.cell? ⟨bb, 3, none⟩ = some (.bool m'.down))
    (first | exact HQ5.out.fin4 | exact HQ4.out.fin4 | exact HQ3.out.fin4 | exact HQ5.out.fin4s _ _ _ _ rfl)
    ((go_at_call 41; refine HSM.out.mono ?_; rintro e w5 ⟨S5, R5, rfl, hq5⟩; have HQ5 := Lib.hid (HQ4.out.step hq5.fs hq5.did); obtain ⟨_, _, _, _, r0, r1, r2, r3, g0, g1, g2, g3⟩ := HQ5.out.fin; clear hq5))
  go_wp2_with fail
  refine bodyPost_ret (v := .tuple #[bothV p xa' xc' m', .bool true]) (results_cell_two (p := 4) (u := 5) (ty := 30) (b := bb + 1 + 1) (x := .bool true) rfl rfl rfl (load_both w5 (bb + 1 + 1) #[.pointer (some ⟨p, 0, none⟩), .slice xa' m'.files.length xc', .int .i64 m'.fuse, .bool m'.down] HQ5.out.there)) rfl ?_
  rw [← HRE.out]
  exact ⟨S5, R5, p, xa', xc', rfl, HQ5.out.last _ _ _ _⟩
set_option maxRecDepth 20000 in
set_option maxHeartbeats 8000000 in
theorem step_else (K : FsKit) (p : Nat) (S R : Nat → Prop) (m : FSm) (xa : Option Addr) (xc : Nat) (w : World) (kd : Int) (k0 : ¬ kd = 0) (k1 : ¬ kd = 1) (k2 : ¬ kd = 2) (k3 : ¬ kd = 3) (k4 : ¬ kd = 4) (k5 : ¬ kd = 5) (k6 : ¬ kd = 6) (k7 : ¬ kd = 7) (n : Nat) (ba : Option Addr) (bc : Nat) (body : List UInt8) (sz : Int) (fa : Option Addr) (fc : Nat) (fates : List Ft) (hq : Q8 K w w p S R S R m xa xc) (hb : Bnd m) (hb2 : Bnd m) (ha : AcIn S w ⟨kd, n, ba, bc, body, sz, fa, fc, fates⟩) :
    Calls Try.prog 22 #[bothV p xa xc m, .agg #[.int .i64 kd, .int .u32 (n : Int), .slice ba body.length bc, .int .i64 sz, .slice fa fates.length fc]] w fun e w' => ∃ S' R' p' xa' xc', e = .returned (.tuple #[bothV p' xa' xc' m, .bool true]) ∧ Q8 K w w' p' S R S' R' m xa' xc' := by
  have HB := Lib.hid hb; have HB2 := Lib.hid hb2; have HA := Lib.hid ha
  have hn := ha.n
  have HN := Lib.hid hn
  have HQ0 := Lib.hid (qs_start ⟨kd, n, ba, bc, body, sz, fa, fc, fates⟩ hq)
  have HOK := Lib.hid (K.ok hq.fs)
  have HLF := Lib.hid (hq.len hb)
  have HXL := Lib.hid hq.xl
  clear hb hb2 hn hq ha
  unfold Ac.c at HQ0
  simp only at HQ0
  obtain ⟨bb, hbb⟩ : ∃ bb, bb = w.heap.size := ⟨_, rfl⟩
  obtain ⟨W, hW⟩ : ∃ W, W = (((w.alloc (.cells #[.pointer (some ⟨p, 0, none⟩), .slice xa m.files.length xc, .int .i64 m.fuse, .bool m.down] 30)).alloc (.cells #[.int .i64 kd, .int .u32 (n : Int), .slice ba body.length bc, .int .i64 sz, .slice fa fates.length fc] 38)).alloc (.cells #[.pointer none, .slice none 0 0, .int .i64 0, .bool false] 30)) := ⟨_, rfl⟩
  rw [← hW, ← hbb] at HQ0
  have HAW : Hid (AcIn S W ⟨kd, n, ba, bc, body, sz, fa, fc, fates⟩) := by
    show AcIn _ _ _
    refine HA.out.did (Did.below (S := S) (R := R) ?_)
    rw [hW]; exact (((Below.refl _ _).alloc (Nat.le_refl _) _).alloc (by simp) _).alloc (by simp; omega) _
  unfold bothV
  go_enter Try.func22, Try.ntmps22
  go_wp2_with fail
  rw [← hW, ← hbb]
  clear hW hbb
  have HQ3 := HQ0
  clear HQ0 HAW k0 k1 k2 k3 k4 k5 k6 k7
  generalize W = W3 at *
  have HQ4 := Lib.hid (HQ3.out.below (Below_drew (Below.refl W3.heap.size W3)))
  have hsm := bsame_any K p S R m xa xc _ HQ4.out.q8 HB2.out
  unfold bothV at hsm
  have HSM := Lib.hid hsm
  clear hsm
  have hee : decide ((0 : Int) = (0 : Int)) = true := by simp
  go_region_held_law (fun wr => wr.cell? ⟨bb, 0, none⟩ = some (.pointer (some ⟨p, 0, none⟩)) ∧ wr.cell? ⟨bb, 1, none⟩ = some (.slice xa m.files.length xc) ∧ wr.cell? ⟨bb, 2, none⟩ = some (.int .i64 m.fuse) ∧ wr.cell? ⟨bb, 3, none⟩ = some (.bool m.down))
    (first | exact HQ5.out.fin4 | exact HQ4.out.fin4 | exact HQ3.out.fin4 | exact HQ5.out.fin4s _ _ _ _ rfl)
    ((go_at_call 41; refine HSM.out.mono ?_; rintro e w5 ⟨S5, R5, rfl, hq5⟩; have HQ5 := Lib.hid (HQ4.out.step hq5.fs hq5.did); obtain ⟨_, _, _, _, r0, r1, r2, r3, g0, g1, g2, g3⟩ := HQ5.out.fin; clear hq5))
  go_wp2_with fail
  refine bodyPost_ret (v := .tuple #[bothV p xa xc m, .bool true]) (results_cell_two (p := 4) (u := 5) (ty := 30) (b := bb + 1 + 1) (x := .bool true) rfl rfl rfl (load_both w5 (bb + 1 + 1) #[.pointer (some ⟨p, 0, none⟩), .slice xa m.files.length xc, .int .i64 m.fuse, .bool m.down] HQ5.out.there)) rfl ?_
  exact ⟨S5, R5, p, xa, xc, rfl, HQ5.out.last _ _ _ _⟩
end Go.Proofs.Ythfhmohbfoolnaa

