import Derived.Test.YthfhmohbfoolnaaZn
set_option linter.unusedVariables false
set_option linter.unusedSimpArgs false
namespace Go.Proofs.Ythfhmohbfoolnaa
open Go Go.RowKit Go.Sort

theorem QS.fused {K : FsKit} {w wr : World} {p : Nat} {S0 R0 S R : Nat → Prop} {m mx : FSm} {xa : Option Addr} {xc bb : Nat} {a : Ac} (h : QS K w wr p S0 R0 S R m mx xa xc bb a) (hm : m.files = mx.files) (hd : m.down = mx.down) :
    QS K w (wr.setCell ⟨bb, 2, none⟩ (.int .i64 m.fuse)) p S0 R0 S R m m xa xc bb a := by
  obtain ⟨c0, c1, c2, c3, f0, f1, f2, f3, d0, d1, d2, d3, d4, r0, r1, r2, r3, g0, g1, g2, g3⟩ := h.bx
  obtain ⟨W, hW⟩ : ∃ W, W = wr.setCell ⟨bb, 2, none⟩ (.int .i64 m.fuse) := ⟨_, rfl⟩
  have hsz : W.heap.size = wr.heap.size := by rw [hW]; simp only [setCell_size]
  have hbk : ∀ k, k ≠ bb → W.heap[k]? = wr.heap[k]? := fun k hk => by rw [hW, setCell_far _ hk]
  have hc : ∀ b j, b ≠ bb → W.cell? ⟨b, j, none⟩ = wr.cell? ⟨b, j, none⟩ := fun b j hb => World.cell?_of_block (hbk b hb)
  have hf : ∀ b j, W.frozen? ⟨b, j, none⟩ = wr.frozen? ⟨b, j, none⟩ := fun b j => by rw [hW]; simp only [World.frozen?_setCell]
  rw [← hW]
  refine { fs := K.move h.fs (Nat.le_of_eq hsz.symm) fun k hk => hbk k (fun e => by subst e; exact hk.elim (h.ns k (Nat.le_refl _) (by omega)) (h.nr k (Nat.le_refl _) (by omega)))
           did := ⟨h.did.s, h.did.r, ⟨by rw [hW]; exact h.did.off.os, by rw [hW]; exact h.did.off.tape, by rw [hW]; exact h.did.off.output, by rw [hsz]; exact h.did.off.size, fun k hk hn => by
             rw [hbk k (by have := h.ge; omega)]; exact h.did.off.block k hk hn⟩⟩
           x := fun h0 => ?_, xl := by rw [hm]; exact h.xl, xm := h.xm, xn := by rw [hm]; exact h.xn, bx := ?_, ns := h.ns, nr := h.nr, ge := h.ge, bl := by rw [hsz]; exact h.bl }
  · rw [hm] at h0 ⊢
    obtain ⟨b, off, ha, hlt, hs, hcc⟩ := h.x h0
    have hne := h.xn b off h0 ha
    exact ⟨b, off, ha, by rw [hsz]; exact hlt, hs, fun j u hu => by rw [hc b _ (by omega)]; exact hcc j u hu⟩
  · refine { c0 := ?_, c1 := ?_, c2 := ?_, c3 := ?_, f0 := by rw [hf]; exact f0, f1 := by rw [hf]; exact f1, f2 := by rw [hf]; exact f2, f3 := by rw [hf]; exact f3, d0 := by rw [hc _ _ (by omega)]; exact d0, d1 := by rw [hc _ _ (by omega)]; exact d1, d2 := by rw [hc _ _ (by omega)]; exact d2, d3 := by rw [hc _ _ (by omega)]; exact d3, d4 := by rw [hc _ _ (by omega)]; exact d4, r0 := by rw [hc _ _ (by omega)]; exact r0, r1 := by rw [hc _ _ (by omega)]; exact r1, r2 := by rw [hc _ _ (by omega)]; exact r2, r3 := by rw [hc _ _ (by omega)]; exact r3, g0 := by rw [hf]; exact g0, g1 := by rw [hf]; exact g1, g2 := by rw [hf]; exact g2, g3 := by rw [hf]; exact g3 } <;> (rw [hW, set_at8 _ _ c2]; simp [c0, c1, c3, hm, hd])
set_option maxRecDepth 20000 in
set_option maxHeartbeats 8000000 in
theorem step_fuse_a (K : FsKit) (p : Nat) (S R : Nat → Prop) (m : FSm) (xa : Option Addr) (xc : Nat) (w : World) (n : Nat) (ba : Option Addr) (bc : Nat) (body : List UInt8) (sz : Int) (fa : Option Addr) (fc : Nat) (fates : List Ft) (hq : Q8 K w w p S R S R m xa xc) (hb : Bnd m) (hb2 : Bnd ({ m with fuse := sz } : FSm)) (ha : AcIn S w ⟨5, n, ba, bc, body, sz, fa, fc, fates⟩) (hs : -1 ≤ sz) :
    Calls Try.prog 22 #[bothV p xa xc m, .agg #[.int .i64 5, .int .u32 (n : Int), .slice ba body.length bc, .int .i64 sz, .slice fa fates.length fc]] w fun e w' => ∃ S' R' p' xa' xc', e = .returned (.tuple #[bothV p' xa' xc' ({ m with fuse := sz } : FSm), .bool true]) ∧ Q8 K w w' p' S R S' R' ({ m with fuse := sz } : FSm) xa' xc' := by
  have HB := Lib.hid hb; have HB2 := Lib.hid hb2; have HA := Lib.hid ha
  have hn := ha.n
  have HN := Lib.hid hn
  have HQ0 := Lib.hid (qs_start ⟨5, n, ba, bc, body, sz, fa, fc, fates⟩ hq)
  have HOK := Lib.hid (K.ok hq.fs)
  have HLF := Lib.hid (hq.len hb)
  have HXL := Lib.hid hq.xl
  clear hb hb2 hn hq ha
  unfold Ac.c at HQ0
  simp only at HQ0
  obtain ⟨bb, hbb⟩ : ∃ bb, bb = w.heap.size := ⟨_, rfl⟩
  obtain ⟨W, hW⟩ : ∃ W, W = (((w.alloc (.cells #[.pointer (some ⟨p, 0, none⟩), .slice xa m.files.length xc, .int .i64 m.fuse, .bool m.down] 30)).alloc (.cells #[.int .i64 5, .int .u32 (n : Int), .slice ba body.length bc, .int .i64 sz, .slice fa fates.length fc] 38)).alloc (.cells #[.pointer none, .slice none 0 0, .int .i64 0, .bool false] 30)) := ⟨_, rfl⟩
  rw [← hW, ← hbb] at HQ0
  have HAW : Hid (AcIn S W ⟨5, n, ba, bc, body, sz, fa, fc, fates⟩) := by
    show AcIn _ _ _
    refine HA.out.did (Did.below (S := S) (R := R) ?_)
    rw [hW]; exact (((Below.refl _ _).alloc (Nat.le_refl _) _).alloc (by simp) _).alloc (by simp; omega) _
  unfold bothV
  go_enter Try.func22, Try.ntmps22
  go_wp2_with fail
  rw [← hW, ← hbb]
  clear hW hbb
  refine (K.fuse W S R p m sz HQ0.out.fs HA.out.s1 HA.out.s2).mono ?_
  rintro e w1 ⟨S1, R1, rfl, hf1, hd1⟩
  have e1 : max sz (-1) = sz := by omega
  rw [e1] at hf1
  have HQ1 := Lib.hid (HQ0.out.step hf1 hd1)
  clear hf1 hd1 HQ0 e1
  obtain ⟨c0, c1, c2, c3, f0, f1, f2, f3, d0, d1, d2, d3, d4, r0, r1, r2, r3, g0, g1, g2, g3⟩ := HQ1.out.bx
  go_wp2_with fail
  clear c0 c1 c2 c3 f0 f1 f2 f3 d0 d1 d2 d3 d4 r0 r1 r2 r3 g0 g1 g2 g3
  have HQ3 := Lib.hid (HQ1.out.fused rfl rfl)
  obtain ⟨W3, hW3⟩ : ∃ W3, W3 = w1.setCell ⟨bb, 2, none⟩ (.int .i64 sz) := ⟨_, rfl⟩
  rw [← hW3] at HQ3 ⊢
  clear hW3 HQ1
  have HQ4 := Lib.hid (HQ3.out.below (Below_drew (Below.refl W3.heap.size W3)))
  have hsm := bsame_any K p S1 R1 (⟨m.files, sz, m.down⟩ : FSm) xa xc _ HQ4.out.q8 HB2.out
  unfold bothV at hsm
  simp only at hsm
  have HSM := Lib.hid hsm
  clear hsm
  have hee : decide ((0 : Int) = (0 : Int)) = true := by simp
  go_region_held_law (fun wr => wr.cell? ⟨bb, 0, none⟩ = some (.pointer (some ⟨p, 0, none⟩)) ∧ wr.cell? ⟨bb, 1, none⟩ = some (.slice xa m.files.length xc) ∧ wr.cell? ⟨bb, 2, none⟩ = some (.int .i64 sz) ∧ wr.cell? ⟨bb, 3, none⟩ = some (.bool m.down))
    (first | exact HQ5.out.fin4 | exact HQ4.out.fin4 | exact HQ3.out.fin4 | exact HQ5.out.fin4s _ _ _ _ rfl)
    ((go_at_call 41; refine HSM.out.mono ?_; rintro e w5 ⟨S5, R5, rfl, hq5⟩; have HQ5 := Lib.hid (HQ4.out.step hq5.fs hq5.did); obtain ⟨_, _, _, _, r0, r1, r2, r3, g0, g1, g2, g3⟩ := HQ5.out.fin; clear hq5))
  go_wp2_with fail
  refine bodyPost_ret (v := .tuple #[bothV p xa xc (⟨m.files, sz, m.down⟩ : FSm), .bool true]) (results_cell_two (p := 4) (u := 5) (ty := 30) (b := bb + 1 + 1) (x := .bool true) rfl rfl rfl (load_both w5 (bb + 1 + 1) #[.pointer (some ⟨p, 0, none⟩), .slice xa m.files.length xc, .int .i64 sz, .bool m.down] HQ5.out.there)) rfl ?_
  exact ⟨S5, R5, p, xa, xc, rfl, HQ5.out.last _ _ _ _⟩
set_option maxRecDepth 20000 in
set_option maxHeartbeats 8000000 in
theorem step_fuse_b (K : FsKit) (p : Nat) (S R : Nat → Prop) (m : FSm) (xa : Option Addr) (xc : Nat) (w : World) (n : Nat) (ba : Option Addr) (bc : Nat) (body : List UInt8) (sz : Int) (fa : Option Addr) (fc : Nat) (fates : List Ft) (hq : Q8 K w w p S R S R m xa xc) (hb : Bnd m) (hb2 : Bnd ({ m with fuse := (-1) } : FSm)) (ha : AcIn S w ⟨5, n, ba, bc, body, sz, fa, fc, fates⟩) (hs : ¬ -1 ≤ sz) :
    Calls Try.prog 22 #[bothV p xa xc m, .agg #[.int .i64 5, .int .u32 (n : Int), .slice ba body.length bc, .int .i64 sz, .slice fa fates.length fc]] w fun e w' => ∃ S' R' p' xa' xc', e = .returned (.tuple #[bothV p' xa' xc' ({ m with fuse := (-1) } : FSm), .bool true]) ∧ Q8 K w w' p' S R S' R' ({ m with fuse := (-1) } : FSm) xa' xc' := by
  have HB := Lib.hid hb; have HB2 := Lib.hid hb2; have HA := Lib.hid ha
  have hn := ha.n
  have HN := Lib.hid hn
  have HQ0 := Lib.hid (qs_start ⟨5, n, ba, bc, body, sz, fa, fc, fates⟩ hq)
  have HOK := Lib.hid (K.ok hq.fs)
  have HLF := Lib.hid (hq.len hb)
  have HXL := Lib.hid hq.xl
  clear hb hb2 hn hq ha
  unfold Ac.c at HQ0
  simp only at HQ0
  obtain ⟨bb, hbb⟩ : ∃ bb, bb = w.heap.size := ⟨_, rfl⟩
  obtain ⟨W, hW⟩ : ∃ W, W = (((w.alloc (.cells #[.pointer (some ⟨p, 0, none⟩), .slice xa m.files.length xc, .int .i64 m.fuse, .bool m.down] 30)).alloc (.cells #[.int .i64 5, .int .u32 (n : Int), .slice ba body.length bc, .int .i64 sz, .slice fa fates.length fc] 38)).alloc (.cells #[.pointer none, .slice none 0 0, .int .i64 0, .bool false] 30)) := ⟨_, rfl⟩
  rw [← hW, ← hbb] at HQ0
  have HAW : Hid (AcIn S W ⟨5, n, ba, bc, body, sz, fa, fc, fates⟩) := by
    show AcIn _ _ _
    refine HA.out.did (Did.below (S := S) (R := R) ?_)
    rw [hW]; exact (((Below.refl _ _).alloc (Nat.le_refl _) _).alloc (by simp) _).alloc (by simp; omega) _
  unfold bothV
  go_enter Try.func22, Try.ntmps22
  go_wp2_with fail
  rw [← hW, ← hbb]
  clear hW hbb
  refine (K.fuse W S R p m sz HQ0.out.fs HA.out.s1 HA.out.s2).mono ?_
  rintro e w1 ⟨S1, R1, rfl, hf1, hd1⟩
  have e1 : max sz (-1) = (-1) := by omega
  rw [e1] at hf1
  have HQ1 := Lib.hid (HQ0.out.step hf1 hd1)
  clear hf1 hd1 HQ0 e1
  obtain ⟨c0, c1, c2, c3, f0, f1, f2, f3, d0, d1, d2, d3, d4, r0, r1, r2, r3, g0, g1, g2, g3⟩ := HQ1.out.bx
  go_wp2_with fail
  clear c0 c1 c2 c3 f0 f1 f2 f3 d0 d1 d2 d3 d4 r0 r1 r2 r3 g0 g1 g2 g3
  have HQ3 := Lib.hid (HQ1.out.fused rfl rfl)
  obtain ⟨W3, hW3⟩ : ∃ W3, W3 = w1.setCell ⟨bb, 2, none⟩ (.int .i64 (-1)) := ⟨_, rfl⟩
  rw [← hW3] at HQ3 ⊢
  clear hW3 HQ1
  have HQ4 := Lib.hid (HQ3.out.below (Below_drew (Below.refl W3.heap.size W3)))
  have hsm := bsame_any K p S1 R1 (⟨m.files, (-1), m.down⟩ : FSm) xa xc _ HQ4.out.q8 HB2.out
  unfold bothV at hsm
  simp only at hsm
  have HSM := Lib.hid hsm
  clear hsm
  have hee : decide ((0 : Int) = (0 : Int)) = true := by simp
  go_region_held_law (fun wr => wr.cell? ⟨bb, 0, none⟩ = some (.pointer (some ⟨p, 0, none⟩)) ∧ wr.cell? ⟨bb, 1, none⟩ = some (.slice xa m.files.length xc) ∧ wr.cell? ⟨bb, 2, none⟩ = some (.int .i64 (-1)) ∧ wr.cell? ⟨bb, 3, none⟩ = some (.bool m.down))
    (first | exact HQ5.out.fin4 | exact HQ4.out.fin4 | exact HQ3.out.fin4 | exact HQ5.out.fin4s _ _ _ _ rfl)
    ((go_at_call 41; refine HSM.out.mono ?_; rintro e w5 ⟨S5, R5, rfl, hq5⟩; have HQ5 := Lib.hid (HQ4.out.step hq5.fs hq5.did); obtain ⟨_, _, _, _, r0, r1, r2, r3, g0, g1, g2, g3⟩ := HQ5.out.fin; clear hq5))
  go_wp2_with fail
  refine bodyPost_ret (v := .tuple #[bothV p xa xc (⟨m.files, (-1), m.down⟩ : FSm), .bool true]) (results_cell_two (p := 4) (u := 5) (ty := 30) (b := bb + 1 + 1) (x := .bool true) rfl rfl rfl (load_both w5 (bb + 1 + 1) #[.pointer (some ⟨p, 0, none⟩), .slice xa m.files.length xc, .int .i64 (-1), .bool m.down] HQ5.out.there)) rfl ?_
  exact ⟨S5, R5, p, xa, xc, rfl, HQ5.out.last _ _ _ _⟩
end Go.Proofs.Ythfhmohbfoolnaa

namespace Go.Proofs.Ythfhmohbfoolnaa
open Go Go.RowKit Go.Sort

/-- The copy stands while the other is acted upon. -/
structure Kept (K : FsKit) (w0 wr : World) (S : Nat → Prop) (q : Nat) (S2 R2 : Nat → Prop) (m : FSm) : Prop where
  fs : K.Fs wr S2 R2 q m
  sep : ∀ k, S k → ¬ S2 k ∧ ¬ R2 k
  new : ∀ k, S2 k → w0.heap.size ≤ k
theorem Kept.step {K : FsKit} {w0 wr w' : World} {S R S' R' : Nat → Prop} {q : Nat} {S2 R2 : Nat → Prop} {m : FSm} (h : Kept K w0 wr S q S2 R2 m) (hd : Did S R S' R' wr w') : Kept K w0 w' S' q S2 R2 m :=
  { fs := K.move h.fs hd.off.size fun k hk => hd.off.block k (hk.elim ((K.low h.fs).1 k) ((K.low h.fs).2 k)) (fun hs => hk.elim (h.sep k hs).1 (h.sep k hs).2)
    sep := fun k hs => (hd.s k hs).elim (h.sep k) (fun hge => ⟨fun h2 => by have := (K.low h.fs).1 k h2; omega, fun h2 => by have := (K.low h.fs).2 k h2; omega⟩)
    new := h.new }
theorem Kept.below {K : FsKit} {w0 wr w' : World} {S : Nat → Prop} {q : Nat} {S2 R2 : Nat → Prop} {m : FSm} (h : Kept K w0 wr S q S2 R2 m) (hb : Below wr.heap.size wr w') : Kept K w0 w' S q S2 R2 m :=
  h.step (Did.below (R := fun _ => False) hb)
theorem QS.turned {K : FsKit} {w W wr : World} {p q : Nat} {S0 R0 S R S2 R2 : Nat → Prop} {m m2 : FSm} {xa : Option Addr} {xc bb : Nat} {a : Ac} (h : QS K w wr p S0 R0 S R m2 m xa xc bb a) (hk : Kept K W wr S q S2 R2 m)
    (h0 : QS K w W p S0 R0 S0 R0 m m xa xc bb a) (hr2 : ∀ k, R2 k → R0 k ∨ S0 k ∨ W.heap.size ≤ k) :
    QS K w (wr.setCell ⟨bb, 0, none⟩ (.pointer (some ⟨q, 0, none⟩))) q S0 R0 S2 R2 m m xa xc bb a := by
  obtain ⟨c0, c1, c2, c3, f0, f1, f2, f3, d0, d1, d2, d3, d4, r0, r1, r2, r3, g0, g1, g2, g3⟩ := h.bx
  obtain ⟨X, hX⟩ : ∃ X, X = wr.setCell ⟨bb, 0, none⟩ (.pointer (some ⟨q, 0, none⟩)) := ⟨_, rfl⟩
  have hsz : X.heap.size = wr.heap.size := by rw [hX]; simp only [setCell_size]
  have hbk : ∀ k, k ≠ bb → X.heap[k]? = wr.heap[k]? := fun k hk => by rw [hX, setCell_far _ hk]
  have hc : ∀ b j, b ≠ bb → X.cell? ⟨b, j, none⟩ = wr.cell? ⟨b, j, none⟩ := fun b j hb => World.cell?_of_block (hbk b hb)
  have hf : ∀ b j, X.frozen? ⟨b, j, none⟩ = wr.frozen? ⟨b, j, none⟩ := fun b j => by rw [hX]; simp only [World.frozen?_setCell]
  have hbW := h0.bl
  have hge := h0.ge
  have ns2 : ∀ k, bb ≤ k → k ≤ bb + 2 → ¬ S2 k := fun k _ _ hs => by have := hk.new k hs; omega
  have nr2 : ∀ k, bb ≤ k → k ≤ bb + 2 → ¬ R2 k := fun k h1 h2 hr => (hr2 k hr).elim (h0.nr k h1 h2) (fun h3 => h3.elim (h0.ns k h1 h2) (fun h4 => by omega))
  rw [← hX]
  refine { fs := K.move hk.fs (Nat.le_of_eq hsz.symm) fun k hk => hbk k (fun e => by subst e; exact hk.elim (ns2 k (Nat.le_refl _) (by omega)) (nr2 k (Nat.le_refl _) (by omega)))
           did := ⟨fun k hs => .inr (by have := hk.new k hs; omega), fun k hr => (hr2 k hr).imp id (fun h3 => h3.imp id (fun h4 => by omega)), ⟨by rw [hX]; exact h.did.off.os, by rw [hX]; exact h.did.off.tape, by rw [hX]; exact h.did.off.output, by rw [hsz]; exact h.did.off.size, fun k hk hn => by
             rw [hbk k (by omega)]; exact h.did.off.block k hk hn⟩⟩
           x := fun hh => ?_, xl := h.xl, xm := h.xm, xn := h.xn, bx := ?_, ns := ns2, nr := nr2, ge := h.ge, bl := by rw [hsz]; exact h.bl }
  · obtain ⟨b, off, ha, hlt, hs, hcc⟩ := h.x hh
    have hne := h.xn b off hh ha
    obtain ⟨b', off', ha', hlt', _⟩ := h0.x hh
    rw [ha] at ha'; cases ha'
    exact ⟨b, off, ha, by rw [hsz]; exact hlt, fun hs2 => by have := hk.new b hs2; omega, fun j u hu => by rw [hc b _ (by omega)]; exact hcc j u hu⟩
  · refine { c0 := ?_, c1 := ?_, c2 := ?_, c3 := ?_, f0 := by rw [hf]; exact f0, f1 := by rw [hf]; exact f1, f2 := by rw [hf]; exact f2, f3 := by rw [hf]; exact f3, d0 := by rw [hc _ _ (by omega)]; exact d0, d1 := by rw [hc _ _ (by omega)]; exact d1, d2 := by rw [hc _ _ (by omega)]; exact d2, d3 := by rw [hc _ _ (by omega)]; exact d3, d4 := by rw [hc _ _ (by omega)]; exact d4, r0 := by rw [hc _ _ (by omega)]; exact r0, r1 := by rw [hc _ _ (by omega)]; exact r1, r2 := by rw [hc _ _ (by omega)]; exact r2, r3 := by rw [hc _ _ (by omega)]; exact r3, g0 := by rw [hf]; exact g0, g1 := by rw [hf]; exact g1, g2 := by rw [hf]; exact g2, g3 := by rw [hf]; exact g3 } <;> (rw [hX, set_at8 _ _ c0]; simp [c1, c2, c3])
set_option maxRecDepth 20000 in
set_option maxHeartbeats 8000000 in
theorem step_copy (K : FsKit) (p : Nat) (S R : Nat → Prop) (m : FSm) (xa : Option Addr) (xc : Nat) (w : World) (n : Nat) (ba : Option Addr) (bc : Nat) (body : List UInt8) (sz : Int) (fa : Option Addr) (fc : Nat) (fates : List Ft) (hq : Q8 K w w p S R S R m xa xc) (hb : Bnd m) (hb2 : Bnd m) (ha : AcIn S w ⟨7, n, ba, bc, body, sz, fa, fc, fates⟩) (hlm : Lim 80 m) (hu : U32 m) :
    Calls Try.prog 22 #[bothV p xa xc m, .agg #[.int .i64 7, .int .u32 (n : Int), .slice ba body.length bc, .int .i64 sz, .slice fa fates.length fc]] w fun e w' => ∃ S' R' p' xa' xc', e = .returned (.tuple #[bothV p' xa' xc' m, .bool true]) ∧ Q8 K w w' p' S R S' R' m xa' xc' := by
  have HB := Lib.hid hb; have HB2 := Lib.hid hb2; have HA := Lib.hid ha
  have hn := ha.n
  have HN := Lib.hid hn
  have HLM := Lib.hid hlm
  have HU := Lib.hid hu
  clear hlm hu
  have kc := fun (w : World) (C : Array Value) (n c : Nat) => Lib.run_convert_bytes_const (P := Try.prog) w 36 5 C n c Try.underlying36 Try.underlying5
  have HQ0 := Lib.hid (qs_start ⟨7, n, ba, bc, body, sz, fa, fc, fates⟩ hq)
  have HOK := Lib.hid (K.ok hq.fs)
  have HLF := Lib.hid (hq.len hb)
  have HXL := Lib.hid hq.xl
  clear hb hb2 hn hq ha
  unfold Ac.c at HQ0
  simp only at HQ0
  obtain ⟨bb, hbb⟩ : ∃ bb, bb = w.heap.size := ⟨_, rfl⟩
  obtain ⟨W, hW⟩ : ∃ W, W = (((w.alloc (.cells #[.pointer (some ⟨p, 0, none⟩), .slice xa m.files.length xc, .int .i64 m.fuse, .bool m.down] 30)).alloc (.cells #[.int .i64 7, .int .u32 (n : Int), .slice ba body.length bc, .int .i64 sz, .slice fa fates.length fc] 38)).alloc (.cells #[.pointer none, .slice none 0 0, .int .i64 0, .bool false] 30)) := ⟨_, rfl⟩
  rw [← hW, ← hbb] at HQ0
  have HAW : Hid (AcIn S W ⟨7, n, ba, bc, body, sz, fa, fc, fates⟩) := by
    show AcIn _ _ _
    refine HA.out.did (Did.below (S := S) (R := R) ?_)
    rw [hW]; exact (((Below.refl _ _).alloc (Nat.le_refl _) _).alloc (by simp) _).alloc (by simp; omega) _
  unfold bothV
  go_enter Try.func22, Try.ntmps22
  go_wp2_with fail
  rw [← hW, ← hbb]
  clear hW hbb
  refine (K.copy W S R p m HQ0.out.fs HB.out).mono ?_
  rintro e w1 ⟨S1, R1, q, S2, R2, rfl, hf1, hg1, hsp1, hsp2, hsp3, hd1⟩
  have HQ1 := Lib.hid (HQ0.out.step hf1 hd1)
  have HKP : Hid (Kept K W w1 S1 q S2 R2 m) := ⟨hg1, hsp1, fun k h => (hsp2 k h).1⟩
  have HR2 := Lib.hid hsp3
  clear hf1 hg1 hsp1 hsp2 hsp3 hd1
  obtain ⟨c0, c1, c2, c3, f0, f1, f2, f3, d0, d1, d2, d3, d4, r0, r1, r2, r3, g0, g1, g2, g3⟩ := HQ1.out.bx
  go_wp2_with fail
  clear c0 c1 c2 c3 f0 f1 f2 f3 d0 d1 d2 d3 d4 r0 r1 r2 r3 g0 g1 g2 g3
  have HCR := Lib.hid (K.crash w1 S1 R1 p m none 0 [] HQ1.out.fs HB.out (fun h => absurd h (by simp [flatG])) (by simp) (by simp) (by simp) (fun t ht => by cases ht))
  refine HCR.out.mono ?_
  rintro e w2 ⟨S3, R3, rfl, hf2, hd2⟩
  have HQ2 := Lib.hid (HQ1.out.step hf2 hd2)
  have HKP2 := Lib.hid (HKP.out.step hd2)
  have HLC := Lib.hid (lim_crash HLM.out HOK.out [])
  have HUC := Lib.hid (u32_crash HU.out [])
  clear hf2 hd2 HCR HKP HQ1
  generalize crashF m [] = m1 at *
  obtain ⟨c0, c1, c2, c3, f0, f1, f2, f3, d0, d1, d2, d3, d4, r0, r1, r2, r3, g0, g1, g2, g3⟩ := HQ2.out.bx
  go_wp2_with fail
  clear c0 c1 c2 c3 f0 f1 f2 f3 d0 d1 d2 d3 d4 r0 r1 r2 r3 g0 g1 g2 g3
  have HLS := Lib.hid (K.list w2 S3 R3 p m1 HQ2.out.fs (HLC.out.bnd (by omega)))
  refine HLS.out.mono ?_
  rintro e w3 ⟨S4, R4, na, nc, rfl, _, _, hnr, hf3, hd3⟩
  have HQ3 := Lib.hid (HQ2.out.step hf3 hd3)
  have HKP3 := Lib.hid (HKP2.out.step hd3)
  have HNR := Lib.hid hnr
  clear hf3 hd3 hnr HLS HKP2 HQ2
  obtain ⟨NL, hNL⟩ : ∃ NL, NL = numsF false m1.files := ⟨_, rfl⟩
  have hNl : NL.length ≤ 80 := by rw [hNL]; exact Nat.le_trans (nums_len8 _ _) HLC.out.1
  rw [← hNL] at HNR ⊢
  have HNLE := Lib.hid hNL
  obtain ⟨nN, hnN⟩ : ∃ nN, nN = NL.length := ⟨_, rfl⟩
  have HNN := Lib.hid hnN
  rw [← hnN] at hNl ⊢
  clear hNL hnN
  go_wp2_with fail
  go_loopw [159] (fun i wr => ∃ (j : Nat) (S5 R5 : Nat → Prop) (m2 : FSm), j ≤ nN ∧ i = .int .i64 j ∧ QS K w wr p S R S5 R5 m2 m xa xc bb ⟨7, n, ba, bc, body, sz, fa, fc, fates⟩ ∧ Kept K W wr S5 q S2 R2 m ∧ RdN S5 wr na (u32V NL) ∧ Lim (80 + j) m2) (fun i _ => nN - (intOf i).toNat)
  case atStart => exact ⟨0, S4, R4, m1, Nat.zero_le _, rfl, HQ3.out, HKP3.out, HNR.out, HLC.out⟩
  case round =>
    obtain ⟨j, S5, R5, m2, hj, rfl, hq5, hk5, hr5, hl5⟩ := hrel
    have HQ5 := Lib.hid hq5; have HK5 := Lib.hid hk5; have HR5 := Lib.hid hr5; have HL5 := Lib.hid hl5
    clear hq5 hk5 hr5 hl5 HQ3 HKP3 HNR
    by_cases hlt : j < nN
    · have hjL : j < NL.length := by rw [← HNN.out]; exact hlt
      obtain ⟨rb, off, rfl, hrb, hrs, hrc⟩ := HR5.out (by rw [u32V_length]; omega)
      have e1 : wr.cell? ⟨rb, off + j, none⟩ = some (.int .u32 ((NL[j] : Nat) : Int)) := hrc j _ (by simp [u32V, List.getElem?_eq_getElem hjL])
      have hin : NL[j] ∈ numsF false m1.files := by rw [← HNLE.out]; exact List.getElem_mem _
      have HNJ := Lib.hid (nums_u32 HUC.out hin)
      have HLT := Lib.hid hlt
      clear hin hrs hrc
      generalize NL[j] = nj at *
      have c0 := HQ5.out.bx.c0
      go_wp2_with fail
      obtain ⟨W5, hW5⟩ : ∃ W5, W5 = wr.alloc (.cells #[.int .u8 111, .int .u8 116, .int .u8 104, .int .u8 101, .int .u8 114] 5 (5, 6)) := ⟨_, rfl⟩
      have hbx : Below wr.heap.size wr W5 := by rw [hW5]; exact box1 _ _
      have hro : RdN S5 W5 (some ⟨wr.heap.size, 0, none⟩) (bV [111, 116, 104, 101, 114]) := by rw [hW5]; exact const_rdn wr S5 (K.low HQ5.out.fs).1 [111, 116, 104, 101, 114] (5, 6)
      have HQB := Lib.hid (HQ5.out.below hbx)
      have HKB := Lib.hid (HK5.out.below hbx)
      have HRB := Lib.hid (HR5.out.below8 hbx)
      have HCA := Lib.hid (K.append W5 S5 R5 p m2 nj (some ⟨wr.heap.size, 0, none⟩) 5 [111, 116, 104, 101, 114] HQB.out.fs (HL5.out.bnd (by omega)) HNJ.out hro (by decide) (by decide) (by decide))
      have HLA := Lib.hid (lim_append HL5.out nj (bs [111, 116, 104, 101, 114]) (by decide))
      rw [← hW5]
      clear hW5 hbx hro c0 e1 HQ5 HK5 HR5 HL5
      refine HCA.out.mono ?_
      rintro e w6 ⟨S6, R6, rfl, hf6, hd6⟩
      have HQ6 := Lib.hid (HQB.out.step hf6 hd6)
      have HK6 := Lib.hid (HKB.out.step hd6)
      have HR6 := Lib.hid (hd6.rdn HRB.out)
      clear hf6 hd6 HCA HQB HKB HRB
      go_wp2_with fail
      go_roundw
      case rel => exact ⟨j + 1, S6, R6, _, HLT.out, by go_num, HQ6.out, HK6.out, HR6.out, HLA.out⟩
      case measure => have := HLT.out; simp [intOf]; omega
    · have hjn : nN = j := by omega
      subst hjn
      have HQT := Lib.hid (HQ5.out.turned HK5.out HQ0.out HR2.out)
      obtain ⟨c0, c1, c2, c3, f0, f1, f2, f3, d0, d1, d2, d3, d4, r0, r1, r2, r3, g0, g1, g2, g3⟩ := HQ5.out.bx
      clear hlt hj
      go_wp2_with fail
      clear c0 c1 c2 c3 f0 f1 f2 f3 d0 d1 d2 d3 d4 r0 r1 r2 r3 g0 g1 g2 g3
      have HQ3 := HQT
      obtain ⟨W3, hW3⟩ : ∃ W3, W3 = wr.setCell ⟨bb, 0, none⟩ (.pointer (some ⟨q, 0, none⟩)) := ⟨_, rfl⟩
      rw [← hW3] at HQ3 ⊢
      clear hW3 HQT HQ5 HK5 HR5 HL5
      have HQ4 := Lib.hid (HQ3.out.below (Below_drew (Below.refl W3.heap.size W3)))
      have hsm := bsame_any K q S2 R2 m xa xc _ HQ4.out.q8 HB2.out
      unfold bothV at hsm
      have HSM := Lib.hid hsm
      clear hsm
      have hee : decide ((0 : Int) = (0 : Int)) = true := by simp
      go_region_held_law (fun wr => wr.cell? ⟨bb, 0, none⟩ = some (.pointer (some ⟨q, 0, none⟩)) ∧ wr.cell? ⟨bb, 1, none⟩ = some (.slice xa m.files.length xc) ∧ wr.cell? ⟨bb, 2, none⟩ = some (.int .i64 m.fuse) ∧ wr.cell? ⟨bb, 3, none⟩ = some (.bool m.down))
        (first | exact HQ5.out.fin4 | exact HQ4.out.fin4 | exact HQ3.out.fin4 | exact HQ5.out.fin4s _ _ _ _ rfl)
        ((go_at_call 41; refine HSM.out.mono ?_; rintro e w5 ⟨S5, R5, rfl, hq5⟩; have HQ5 := Lib.hid (HQ4.out.step hq5.fs hq5.did); obtain ⟨_, _, _, _, r0, r1, r2, r3, g0, g1, g2, g3⟩ := HQ5.out.fin; clear hq5))
      go_wp2_with fail
      refine bodyPost_ret (v := .tuple #[bothV q xa xc m, .bool true]) (results_cell_two (p := 4) (u := 5) (ty := 30) (b := bb + 1 + 1) (x := .bool true) rfl rfl rfl (load_both w5 (bb + 1 + 1) #[.pointer (some ⟨q, 0, none⟩), .slice xa m.files.length xc, .int .i64 m.fuse, .bool m.down] HQ5.out.there)) rfl ?_
      exact ⟨S5, R5, q, xa, xc, rfl, HQ5.out.last _ _ _ _⟩
end Go.Proofs.Ythfhmohbfoolnaa

namespace Go.Proofs.Ythfhmohbfoolnaa
open Go Go.RowKit Go.Sort

theorem info_u8z : (Try.prog.info? 5).map (fun i => (i.zero, i.size, i.bytes)) = some (some (.int .u8 0), 1, 1) := by kernel_rfl
theorem own_did {w w' : World} {S R S' R' : Nat → Prop} {base n c : Nat} {e : TypeId} {size : Nat} {xs : List Value} {a : Option Addr} (h : w.ownsRow base e size (.slice a n c) n xs) (hd : Did S R S' R' w w') (hs : ∀ g, a = some ⟨g, 0, none⟩ → ¬ S g) : w'.ownsRow base e size (.slice a n c) n xs := by
  rcases h with ⟨h1, h2 | ⟨g, cap, cur, e1, h3, h4, h5⟩⟩
  · exact ⟨h1, .inl h2⟩
  · refine ⟨h1, .inr ⟨g, cap, cur, e1, h3, ?_, h5⟩⟩
    have ea : a = some ⟨g, 0, none⟩ := by injection e1
    rw [hd.off.block g (by have := (Array.getElem?_eq_some_iff.1 h4).1; exact this) (hs g ea)]
    exact h4
theorem own_far9 {w : World} {base n c b o : Nat} {e : TypeId} {size : Nat} {xs : List Value} {a : Option Addr} {v : Value} (h : w.ownsRow base e size (.slice a n c) n xs) (hb : b < base) : (w.setCell ⟨b, o, none⟩ v).ownsRow base e size (.slice a n c) n xs := by
  rcases h with ⟨h1, h2 | ⟨g, cap, cur, e1, h3, h4, h5⟩⟩
  · exact ⟨h1, .inl h2⟩
  · exact ⟨h1, .inr ⟨g, cap, cur, e1, h3, by rw [setCell_far v (by omega)]; exact h4, h5⟩⟩
theorem QS.set {K : FsKit} {w wr : World} {p : Nat} {S0 R0 S R : Nat → Prop} {m : FSm} {xa : Option Addr} {xc bb : Nat} {a : Ac} {g : Nat} (h : QS K w wr p S0 R0 S R m m xa xc bb a) (o : Nat) (v : Value) (hg : bb + 2 < g) (ns : ¬ S g) (nr : ¬ R g) (nx : ∀ b o, 0 < (flF m.files).length → xa = some ⟨b, o, none⟩ → b ≠ g) : QS K w (wr.setCell ⟨g, o, none⟩ v) p S0 R0 S R m m xa xc bb a := by
  have hq := h.q8'.set o v (by have := h.ge; omega) ns nr nx
  exact { fs := hq.fs, did := hq.did, x := hq.x, xl := hq.xl, xm := hq.xm, xn := h.xn, bx := h.bx.off fun k _ h2 => setCell_far v (by omega), ns := h.ns, nr := h.nr, ge := h.ge, bl := by rw [setCell_size]; exact h.bl }
set_option maxRecDepth 20000 in
set_option maxHeartbeats 8000000 in
theorem step_append (K : FsKit) (p : Nat) (S R : Nat → Prop) (m : FSm) (xa : Option Addr) (xc : Nat) (w : World) (n : Nat) (ba : Option Addr) (bc : Nat) (body : List UInt8) (sz : Int) (fa : Option Addr) (fc : Nat) (fates : List Ft) (hq : Q8 K w w p S R S R m xa xc) (hb : Bnd m) (hb2 : Bnd (appendF m n (bs body)).1) (ha : AcIn S w ⟨1, n, ba, bc, body, sz, fa, fc, fates⟩) :
    Calls Try.prog 22 #[bothV p xa xc m, .agg #[.int .i64 1, .int .u32 (n : Int), .slice ba body.length bc, .int .i64 sz, .slice fa fates.length fc]] w fun e w' => ∃ S' R' p' xa' xc', e = .returned (.tuple #[bothV p' xa' xc' (appendF m n (bs body)).1, .bool true]) ∧ Q8 K w w' p' S R S' R' (appendF m n (bs body)).1 xa' xc' := by
  have HB := Lib.hid hb; have HB2 := Lib.hid hb2; have HA := Lib.hid ha
  have hn := ha.n
  have HN := Lib.hid hn
  have HQ0 := Lib.hid (qs_start ⟨1, n, ba, bc, body, sz, fa, fc, fates⟩ hq)
  have HOK := Lib.hid (K.ok hq.fs)
  have HLF := Lib.hid (hq.len hb)
  have HXL := Lib.hid hq.xl
  clear hb hb2 hn hq ha
  unfold Ac.c at HQ0
  simp only at HQ0
  obtain ⟨bb, hbb⟩ : ∃ bb, bb = w.heap.size := ⟨_, rfl⟩
  obtain ⟨W, hW⟩ : ∃ W, W = (((w.alloc (.cells #[.pointer (some ⟨p, 0, none⟩), .slice xa m.files.length xc, .int .i64 m.fuse, .bool m.down] 30)).alloc (.cells #[.int .i64 1, .int .u32 (n : Int), .slice ba body.length bc, .int .i64 sz, .slice fa fates.length fc] 38)).alloc (.cells #[.pointer none, .slice none 0 0, .int .i64 0, .bool false] 30)) := ⟨_, rfl⟩
  rw [← hW, ← hbb] at HQ0
  have HAW : Hid (AcIn S W ⟨1, n, ba, bc, body, sz, fa, fc, fates⟩) := by
    show AcIn _ _ _
    refine HA.out.did (Did.below (S := S) (R := R) ?_)
    rw [hW]; exact (((Below.refl _ _).alloc (Nat.le_refl _) _).alloc (by simp) _).alloc (by simp; omega) _
  obtain ⟨i0', hi0, hz0, hz1, hz2⟩ := info_parts info_u8z
  have HZ2 := Lib.hid hz2; clear hz2
  have HSW : Hid (W.heap.size = bb + 1 + 1 + 1) := by show _ = _; rw [hW, hbb]; simp
  have hown := World.ownsRow_made (base := W.heap.size) (e := 5) (size := 1) W #[] 0 (Nat.le_refl _) (by decide) rfl
  rw [HSW.out] at hown
  have HO := Lib.hid hown; clear hown
  have HRB : Hid (Rd (W.alloc (.cells #[] 5)) (W.alloc (.cells #[] 5)).heap.size ba (bV body)) := (HAW.out.b.below8 (box1 W _)).rd
  have hbl : body.length ≤ 4000 := HAW.out.bl
  unfold bothV
  go_enter Try.func22, Try.ntmps22
  go_wp2_with (at_builtin
               rw [← hW, ← hbb]
               clear hW hbb
               refine wpList_append_rd _ rfl (.tmp 33) (.tmp 35) 36 (by rfl) (bb + 1 + 1 + 1) 5 i0' _ 1 1 Try.underlying36 hi0 hz0 hz1 HZ2.out rfl (by omega) (.slice (some ⟨bb + 1 + 1 + 1, 0, none⟩) 0 0) 0 [] (by rfl) HO.out _ ba body.length bc (bV body) (by rfl) (by rw [bV_length]; omega) HRB.out (bV_one _) (by unfold maxLen; omega) (by omega) (by rw [World.size_alloc, HSW.out]; omega) ?_
               intro va w7 hown7 hg7 _
               rw [Nat.zero_add, List.nil_append] at hown7
               obtain ⟨va', vc, rfl, hv1, hv2, hv3⟩ := own_slice hown7
               have HO7 := Lib.hid hown7
               have hb7 : Below W.heap.size W w7 := Below.of_grown (box1 W _) hg7 (by simp) (fun g h => by have := (own_shape HO.out h).1; rw [HSW.out]; exact this)
               have HQ7 := Lib.hid (HQ0.out.below hb7)
               have HRA := Lib.hid (HAW.out.b.below8 hb7)
               have HV1 := Lib.hid hv1; have HV2 := Lib.hid hv2; have HV3 := Lib.hid hv3
               obtain ⟨c0, c1, c2, c3, f0, f1, f2, f3, d0, d1, d2, d3, d4, r0, r1, r2, r3, g0, g1, g2, g3⟩ := HQ7.out.bx
               clear hown7 hg7 hb7 hv1 hv2 hv3)
  have hro : RdN S w7 va' (bV body) := fun h0 => by
    obtain ⟨b, off, ha, hlt, hc⟩ := (Rd.own HO7.out) h0
    obtain ⟨g, hg, hge, _⟩ := HV3.out (by rw [bV_length] at h0; exact h0)
    rw [hg] at ha; cases ha
    refine ⟨_, _, hg, hlt, fun hs => ?_, hc⟩
    have h1 := (K.low HQ0.out.fs).1 _ hs; have h2 := HSW.out; omega
  have HVG : Hid (∀ g, va' = some ⟨g, 0, none⟩ → bb + 2 < g ∧ g < w7.heap.size ∧ ¬ S g ∧ ¬ R g) := fun g hg => by
    obtain ⟨h1, h2, _⟩ := own_shape HO7.out (k := g) (by rw [hg]; rfl)
    have h3 := HSW.out
    exact ⟨by omega, h2, fun hs => by have := (K.low HQ0.out.fs).1 g hs; omega, fun hs => by have := (K.low HQ0.out.fs).2 g hs; omega⟩
  have HCA := Lib.hid (K.append w7 S R p m n va' vc body HQ7.out.fs HB.out HN.out hro (by omega) HV1.out HV2.out)
  clear hro c0 c1 c2 c3 f0 f1 f2 f3 d0 d1 d2 d3 d4 r0 r1 r2 r3 g0 g1 g2 g3
  refine HCA.out.mono ?_
  rintro e w1 ⟨S1, R1, rfl, hf1, hd1⟩
  have HQ1 := Lib.hid (HQ7.out.step hf1 hd1)
  have HO1 := Lib.hid (own_did HO7.out hd1 (fun g hg => (HVG.out g hg).2.2.1))
  have HVG1 : Hid (∀ g, va' = some ⟨g, 0, none⟩ → bb + 2 < g ∧ g < w1.heap.size ∧ ¬ S1 g ∧ ¬ R1 g) := fun g hg => by
    obtain ⟨h1, h2, h3, h4⟩ := HVG.out g hg
    exact ⟨h1, Nat.lt_of_lt_of_le h2 hd1.off.size, fun hs => (hd1.s g hs).elim h3 (fun h => by omega), fun hr => (hd1.r g hr).elim h4 (fun h => h.elim h3 (fun h => by omega))⟩
  have hra1 := hd1.rdn HRA.out
  have hcv := run_string_rd (P := Try.prog) w1 36 9 5 Try.underlying36 Try.underlying5 Try.underlying9 body.length bc hra1.rd rfl
  have hsz := (get_sz HB.out.2 n).1
  clear hf1 hd1 HCA HRA hra1 HO7 HVG HQ7 HRB HO HZ2
  obtain ⟨c0, c1, c2, c3, f0, f1, f2, f3, d0, d1, d2, d3, d4, r0, r1, r2, r3, g0, g1, g2, g3⟩ := HQ1.out.bx
  have hc := append_fs xa xc m n (bs body) (by rw [bs_size]; omega) w1 HQ1.out.x.rd HLF.out HQ1.out.xl HQ1.out.xm (by have := HOK.out.2.2.1; omega) HOK.out.2.2.2
  unfold fsv at hc
  have HC := Lib.hid hc
  clear hc hsz
  obtain ⟨r, hr⟩ : ∃ r, r = appendF m n (bs body) := ⟨_, rfl⟩
  have HRE := Lib.hid hr
  rw [← hr] at HC HQ1 HB2 ⊢
  clear hr
  obtain ⟨m', er⟩ := r
  go_wp2_with fail
  refine HC.out.mono ?_
  clear c0 c1 c2 c3 f0 f1 f2 f3 d0 d1 d2 d3 d4 r0 r1 r2 r3 g0 g1 g2 g3 hcv
  rintro e w2 ⟨xa', xc', rfl, hl', hc', hr', hfrom, hb2⟩
  have HX := Lib.hid (HQ1.out.fresh hl' hc' hr' hfrom hb2)
  have HQ2 := Lib.hid (HQ1.out.below hb2)
  have HO2 := Lib.hid (own_did HO1.out (Did.below (S := S1) (R := R1) hb2) (fun g hg => (HVG1.out g hg).2.2.1))
  have HNX : Hid (∀ g, va' = some ⟨g, 0, none⟩ → ∀ b o, 0 < (flF m'.files).length → xa' = some ⟨b, o, none⟩ → b ≠ g) := fun g hg b o h0 e => by
    obtain ⟨h1, h2, _⟩ := HVG1.out g hg
    rcases hfrom with ⟨e1, e2⟩ | hfr
    · simp only at e2
      rw [e2] at h0
      obtain ⟨b', o', e', hlt, _⟩ := HQ0.out.x h0
      rw [← e1, e] at e'; cases e'
      have := HSW.out; omega
    · have := hfr b o none e; omega
  clear hl' hc' hr' hfrom hb2 HC HQ1 HQ0 HO1
  simp only at HX HQ2 HB2 HNX ⊢
  unfold fsv
  obtain ⟨c0, c1, c2, c3, f0, f1, f2, f3, d0, d1, d2, d3, d4, r0, r1, r2, r3, g0, g1, g2, g3⟩ := HQ2.out.bx
  go_wp2_with fail
  clear c0 c1 c2 c3 f0 f1 f2 f3 d0 d1 d2 d3 d4 r0 r1 r2 r3 g0 g1 g2 g3
  have HQ3' := Lib.hid (HQ2.out.laid HX.out)
  have HO3 := Lib.hid (own_far9 (o := 3) (v := .bool m'.down) (own_far9 (o := 2) (v := .int .i64 m'.fuse) (own_far9 (o := 1) (v := .slice xa' m'.files.length xc') HO2.out (b := bb) (by omega)) (b := bb) (by omega)) (b := bb) (by omega))
  obtain ⟨W2, hW2⟩ : ∃ W2, W2 = (((w2.setCell ⟨bb, 1, none⟩ (.slice xa' m'.files.length xc')).setCell ⟨bb, 2, none⟩ (.int .i64 m'.fuse)).setCell ⟨bb, 3, none⟩ (.bool m'.down)) := ⟨_, rfl⟩
  rw [← hW2] at HQ3' HO3 ⊢
  clear hW2 HQ2 HX HO2
  obtain ⟨nB, hnB⟩ : ∃ nB, nB = body.length := ⟨_, rfl⟩
  have hnm : nB ≤ 4000 := by omega
  rw [← hnB] at HO3
  rw [← hnB]
  have HNB := Lib.hid hnB
  clear hnB
  go_loopw [57] (fun i wq => ∃ (q : Nat) (bl : List UInt8), q ≤ nB ∧ i = .int .i64 q ∧ bl.length = nB ∧ QS K w wq p S R S1 R1 m' m' xa' xc' bb ⟨1, n, ba, bc, body, sz, fa, fc, fates⟩ ∧ wq.ownsRow (bb + 1 + 1 + 1) 5 1 (.slice va' nB vc) nB (bV bl)) (fun i _ => nB - (intOf i).toNat)
  case atStart => exact ⟨0, body, Nat.zero_le _, rfl, HNB.out.symm, HQ3'.out, HO3.out⟩
  case round =>
    obtain ⟨q, bl, hq, rfl, hbl2, hqs, how⟩ := hrel
    have HQ := Lib.hid hqs; have HOW := Lib.hid how; have HBL := Lib.hid hbl2
    clear hqs how HQ3' HO3
    by_cases hlt : q < nB
    · obtain ⟨g, hg, hge, hgl⟩ : ∃ g, va' = some ⟨g, 0, none⟩ ∧ bb + 1 + 1 + 1 ≤ g ∧ g < wr.heap.size := by
        obtain ⟨a', c', e', _, _, h3⟩ := own_slice HOW.out
        obtain ⟨g, hg, h4⟩ := h3 (by omega)
        cases e'
        exact ⟨g, hg, h4⟩
      subst hg
      have hqb : q < bl.length := by omega
      have q1 : wr.cell? ⟨g, q, none⟩ = some (.int .u8 ((bl[q]'hqb).toNat : Int)) := by rw [HOW.out.cellAt q (by omega)]; exact bV_get bl q hqb
      have q2 := HOW.out.frozenAt q
      obtain ⟨h1, _, h3, h4⟩ := HVG1.out g rfl
      have HQS := Lib.hid (fun v => HQ.out.set q v h1 h3 h4 (HNX.out g rfl))
      have HST := Lib.hid (fun v => (HOW.out.stored q v).1)
      have HLT := Lib.hid hlt
      have HQB := Lib.hid hqb
      have hy : (bl[q]'hqb).toNat < 256 := (bl[q]'hqb).toNat_lt
      obtain ⟨z, hz⟩ : ∃ z, z = (bl[q]'hqb).toNat := ⟨_, rfl⟩
      have HZ := Lib.hid hz
      rw [← hz] at q1 hy
      clear hz h1 h3 h4
      go_wp2_with fail
      go_roundw
      case rel =>
        have e2 : (((bl[q]'HQB.out + 1 : UInt8).toNat : Nat) : Int) = ((z : Int) + 1) % 256 := by
          rw [UInt8.toNat_add, HZ.out]
          show ((((bl[q]'HQB.out).toNat + 1) % 256 : Nat) : Int) = _
          omega
        have e3 : bV (bl.set q (bl[q]'HQB.out + 1)) = (bV bl).set q (.int .u8 (((z : Int) + 1) % 256)) := by
          rw [← e2]; simp [bV, List.map_set]
        refine ⟨q + 1, bl.set q (bl[q]'HQB.out + 1), HLT.out, by go_num, by rw [List.length_set]; exact HBL.out, HQS.out _, ?_⟩
        rw [e3]
        exact HST.out _
      case measure => have := HLT.out; simp [intOf]; omega
    · have hqn : nB = q := by omega
      have HQ3 := HQ
      clear hlt HOW hq HVG1 HNX
      obtain ⟨W3, hW3⟩ : ∃ W3, W3 = wr := ⟨_, rfl⟩
      go_wp2_with fail
      rw [← hW3] at HQ3 ⊢
      clear hW3 HQ
      have HQ4 := Lib.hid (HQ3.out.below (Below_drew (Below.refl W3.heap.size W3)))
      have hsm := bsame_any K p S1 R1 m' xa' xc' _ HQ4.out.q8 HB2.out
      unfold bothV at hsm
      have HSM := Lib.hid hsm
      clear hsm
      have hee : decide (er = er) = true := by simp
      go_region_held_law (fun wr => wr.cell? ⟨bb, 0, none⟩ = some (.pointer (some ⟨p, 0, none⟩)) ∧ wr.cell? ⟨bb, 1, none⟩ = some (.slice xa' m'.files.length xc') ∧ wr.cell? ⟨bb, 2, none⟩ = some (.int .i64 m'.fuse) ∧ wr.cell? ⟨bb, 3, none⟩ = some (.bool m'.down))
        (first | exact HQ5.out.fin4 | exact HQ4.out.fin4 | exact HQ3.out.fin4 | exact HQ5.out.fin4s _ _ _ _ rfl)
        ((go_at_call 41; refine HSM.out.mono ?_; rintro e w5 ⟨S5, R5, rfl, hq5⟩; have HQ5 := Lib.hid (HQ4.out.step hq5.fs hq5.did); obtain ⟨_, _, _, _, r0, r1, r2, r3, g0, g1, g2, g3⟩ := HQ5.out.fin; clear hq5))
      go_wp2_with fail
      refine bodyPost_ret (v := .tuple #[bothV p xa' xc' m', .bool true]) (results_cell_two (p := 4) (u := 5) (ty := 30) (b := bb + 1 + 1) (x := .bool true) rfl rfl rfl (load_both w5 (bb + 1 + 1) #[.pointer (some ⟨p, 0, none⟩), .slice xa' m'.files.length xc', .int .i64 m'.fuse, .bool m'.down] HQ5.out.there)) rfl ?_
      rw [← HRE.out]
      exact ⟨S5, R5, p, xa', xc', rfl, HQ5.out.last _ _ _ _⟩
end Go.Proofs.Ythfhmohbfoolnaa

namespace Go.Proofs.Ythfhmohbfoolnaa
open Go Go.RowKit Go.Sort

theorem bstep_any (K : FsKit) (p : Nat) (S R : Nat → Prop) (m : FSm) (xa : Option Addr) (xc : Nat) (w : World) (a : Ac) (hq : Q8 K w w p S R S R m xa xc) (hl : Lim 80 m) (hl2 : Lim 80 (doF m a).1) (hu : U32 m) (ha : AcIn S w a) :
    Calls Try.prog 22 #[bothV p xa xc m, a.v] w fun e w' => ∃ S' R' p' xa' xc', e = .returned (.tuple #[bothV p' xa' xc' (doF m a).1, .bool true]) ∧ Q8 K w w' p' S R S' R' (doF m a).1 xa' xc' := by
  have hb := hl.bnd (by omega)
  have hb2 := hl2.bnd (by omega)
  obtain ⟨kd, n, ba, bc, body, sz, fa, fc, fates⟩ := a
  unfold Ac.v
  by_cases k0 : kd = 0
  · subst k0
    have e : doF m ⟨0, n, ba, bc, body, sz, fa, fc, fates⟩ = createF m n := by simp [doF]
    rw [e] at hb2 ⊢
    exact step_create K p S R m xa xc w n ba bc body sz fa fc fates hq hb hb2 ha
  by_cases k1 : kd = 1
  · subst k1
    have e : doF m ⟨1, n, ba, bc, body, sz, fa, fc, fates⟩ = appendF m n (bs body) := by simp [doF]
    rw [e] at hb2 ⊢
    exact step_append K p S R m xa xc w n ba bc body sz fa fc fates hq hb hb2 ha
  by_cases k2 : kd = 2
  · subst k2
    have e : doF m ⟨2, n, ba, bc, body, sz, fa, fc, fates⟩ = truncF m n sz := by simp [doF]
    rw [e] at hb2 ⊢
    exact step_trunc K p S R m xa xc w n ba bc body sz fa fc fates hq hb hb2 ha
  by_cases k3 : kd = 3
  · subst k3
    have e : doF m ⟨3, n, ba, bc, body, sz, fa, fc, fates⟩ = syncF m n := by simp [doF]
    rw [e] at hb2 ⊢
    exact step_sync K p S R m xa xc w n ba bc body sz fa fc fates hq hb hb2 ha
  by_cases k4 : kd = 4
  · subst k4
    have e : doF m ⟨4, n, ba, bc, body, sz, fa, fc, fates⟩ = removeF m n := by simp [doF]
    rw [e] at hb2 ⊢
    exact step_remove K p S R m xa xc w n ba bc body sz fa fc fates hq hb hb2 ha
  by_cases k5 : kd = 5
  · subst k5
    by_cases hs : -1 ≤ sz
    · have e : doF m ⟨5, n, ba, bc, body, sz, fa, fc, fates⟩ = ({ m with fuse := sz }, 0) := by
        have h : max sz (-1) = sz := by omega
        simp [doF, h]
      rw [e] at hb2 ⊢
      exact step_fuse_a K p S R m xa xc w n ba bc body sz fa fc fates hq hb hb2 ha hs
    · have e : doF m ⟨5, n, ba, bc, body, sz, fa, fc, fates⟩ = ({ m with fuse := -1 }, 0) := by
        have h : max sz (-1) = -1 := by omega
        simp [doF, h]
      rw [e] at hb2 ⊢
      exact step_fuse_b K p S R m xa xc w n ba bc body sz fa fc fates hq hb hb2 ha hs
  by_cases k6 : kd = 6
  · subst k6
    have e : doF m ⟨6, n, ba, bc, body, sz, fa, fc, fates⟩ = (crashF m fates, 0) := by simp [doF]
    rw [e] at hb2 ⊢
    exact step_crash K p S R m xa xc w n ba bc body sz fa fc fates hq hb hb2 ha
  have e : doF m ⟨kd, n, ba, bc, body, sz, fa, fc, fates⟩ = (m, 0) := by simp [doF, k0, k1, k2, k3, k4, k5, k6]
  rw [e]
  by_cases k7 : kd = 7
  · subst k7
    exact step_copy K p S R m xa xc w n ba bc body sz fa fc fates hq hb hb ha hl hu
  · exact step_else K p S R m xa xc w kd k0 k1 k2 k3 k4 k5 k6 k7 n ba bc body sz fa fc fates hq hb hb ha
/-- A play: where it stands. -/
structure PS (K : FsKit) (w wr : World) (p : Nat) (S R : Nat → Prop) (m : FSm) (xa : Option Addr) (xc cb bb : Nat) : Prop where
  fs : K.Fs wr S R p m
  lo : ∀ k, S k → w.heap.size ≤ k
  bw : Below w.heap.size w wr
  x : RdN S wr xa (flF m.files)
  xl : m.files.length ≤ xc
  xm : xc ≤ maxLen
  c0 : wr.cell? ⟨cb, 0, none⟩ = some (.pointer (some ⟨p, 0, none⟩))
  c1 : wr.cell? ⟨cb, 1, none⟩ = some (.slice xa m.files.length xc)
  c2 : wr.cell? ⟨cb, 2, none⟩ = some (.int .i64 m.fuse)
  c3 : wr.cell? ⟨cb, 3, none⟩ = some (.bool m.down)
  f : ∀ j, wr.frozen? ⟨cb, j, none⟩ = false
  r0 : wr.cell? ⟨bb, 0, none⟩ = some (.pointer none)
  r1 : wr.cell? ⟨bb, 1, none⟩ = some (.slice none 0 0)
  r2 : wr.cell? ⟨bb, 2, none⟩ = some (.int .i64 0)
  r3 : wr.cell? ⟨bb, 3, none⟩ = some (.bool false)
  g : ∀ j, wr.frozen? ⟨bb, j, none⟩ = false
  nu : ∀ o n, wr.cell? ⟨cb, o, none⟩ ≠ some (.int .u32 n)
  sc : ¬ S cb
  rc : ¬ R cb
  sb : ¬ S bb
  ne : bb ≠ cb
  cl : cb < wr.heap.size
  bl : bb < wr.heap.size
  wb : w.heap.size ≤ bb
  wc : w.heap.size ≤ cb
theorem PS.q8 {K : FsKit} {w wr W : World} {p : Nat} {S R : Nat → Prop} {m : FSm} {xa : Option Addr} {xc cb bb : Nat} (h : PS K w wr p S R m xa xc cb bb) (hb : Below wr.heap.size wr W) : Q8 K W W p S R S R m xa xc :=
  ⟨K.below h.fs hb, Did.refl _ _ _, h.x.below8 hb, h.xl, h.xm⟩
theorem PS.next {K : FsKit} {w wr W w4 : World} {p p' : Nat} {S R S' R' : Nat → Prop} {m m' : FSm} {xa xa' : Option Addr} {xc xc' cb bb : Nat} (h : PS K w wr p S R m xa xc cb bb) (hbW : Below wr.heap.size wr W) (hq : Q8 K W w4 p' S R S' R' m' xa' xc') (ob : Obj) :
    PS K w (((((w4.alloc ob).setCell ⟨cb, 0, none⟩ (.pointer (some ⟨p', 0, none⟩))).setCell ⟨cb, 1, none⟩ (.slice xa' m'.files.length xc')).setCell ⟨cb, 2, none⟩ (.int .i64 m'.fuse)).setCell ⟨cb, 3, none⟩ (.bool m'.down)) p' S' R' m' xa' xc' cb bb := by
  obtain ⟨Y, hY⟩ : ∃ Y, Y = w4.alloc ob := ⟨_, rfl⟩
  have hb5 : Below w4.heap.size w4 Y := by rw [hY]; exact box1 _ _
  have hs1 := hbW.size
  have hs2 := hq.did.off.size
  have hs3 := hb5.size
  have hcl := h.cl
  have hbl := h.bl
  have hwc := h.wc
  have hblk : ∀ k, k < wr.heap.size → ¬ S k → Y.heap[k]? = wr.heap[k]? := fun k hk hn => by
    rw [hb5.block k (by omega), hq.did.off.block k (by omega) hn, hbW.block k hk]
  have c0 : Y.cell? ⟨cb, 0, none⟩ = some (.pointer (some ⟨p, 0, none⟩)) := by rw [World.cell?_of_block (a := ⟨cb, 0, none⟩) (hblk cb h.cl h.sc)]; exact h.c0
  have c1 : Y.cell? ⟨cb, 1, none⟩ = some (.slice xa m.files.length xc) := by rw [World.cell?_of_block (a := ⟨cb, 1, none⟩) (hblk cb h.cl h.sc)]; exact h.c1
  have c2 : Y.cell? ⟨cb, 2, none⟩ = some (.int .i64 m.fuse) := by rw [World.cell?_of_block (a := ⟨cb, 2, none⟩) (hblk cb h.cl h.sc)]; exact h.c2
  have c3 : Y.cell? ⟨cb, 3, none⟩ = some (.bool m.down) := by rw [World.cell?_of_block (a := ⟨cb, 3, none⟩) (hblk cb h.cl h.sc)]; exact h.c3
  have nu : ∀ o n, Y.cell? ⟨cb, o, none⟩ ≠ some (.int .u32 n) := fun o n => by rw [World.cell?_of_block (a := ⟨cb, o, none⟩) (hblk cb h.cl h.sc)]; exact h.nu o n
  have sc' : ¬ S' cb := fun hs => (hq.did.s cb hs).elim h.sc (fun h2 => by omega)
  have rc' : ¬ R' cb := fun hr => (hq.did.r cb hr).elim h.rc (fun h2 => h2.elim h.sc (fun h3 => by omega))
  have sb' : ¬ S' bb := fun hs => (hq.did.s bb hs).elim h.sb (fun h2 => by omega)
  have hfY := K.below hq.fs hb5
  have hxY := hq.x.below8 hb5
  have hbY : Below w.heap.size w Y := (h.bw.trans (hbW.mono h.bw.size)).trans ((hq.did.off.below (by have := h.bw.size; omega) h.lo).trans (hb5.mono (by have := h.bw.size; omega)))
  rw [← hY]
  have hlo' : ∀ k, S' k → w.heap.size ≤ k := fun k hs => (hq.did.s k hs).elim (h.lo k) (fun h2 => by have := h.bw.size; omega)
  have hr : ∀ j, Y.cell? ⟨bb, j, none⟩ = wr.cell? ⟨bb, j, none⟩ := fun j => World.cell?_of_block (hblk bb h.bl h.sb)
  have hfc : ∀ j, Y.frozen? ⟨cb, j, none⟩ = false := fun j => by rw [World.frozen?_of_block (a := ⟨cb, j, none⟩) (hblk cb h.cl h.sc)]; exact h.f j
  have hgb : ∀ j, Y.frozen? ⟨bb, j, none⟩ = false := fun j => by rw [World.frozen?_of_block (a := ⟨bb, j, none⟩) (hblk bb h.bl h.sb)]; exact h.g j
  clear hblk hb5 hY
  obtain ⟨X, hX⟩ : ∃ X, X = ((((Y.setCell ⟨cb, 0, none⟩ (.pointer (some ⟨p', 0, none⟩))).setCell ⟨cb, 1, none⟩ (.slice xa' m'.files.length xc')).setCell ⟨cb, 2, none⟩ (.int .i64 m'.fuse)).setCell ⟨cb, 3, none⟩ (.bool m'.down)) := ⟨_, rfl⟩
  have k1 : (Y.setCell ⟨cb, 0, none⟩ (.pointer (some ⟨p', 0, none⟩))).cell? ⟨cb, 1, none⟩ = some (.slice xa m.files.length xc) := by rw [set_at8 _ _ c0, if_neg (by omega)]; exact c1
  have k2 : ((Y.setCell ⟨cb, 0, none⟩ (.pointer (some ⟨p', 0, none⟩))).setCell ⟨cb, 1, none⟩ (.slice xa' m'.files.length xc')).cell? ⟨cb, 2, none⟩ = some (.int .i64 m.fuse) := by rw [set_at8 _ _ k1, if_neg (by omega), set_at8 _ _ c0, if_neg (by omega)]; exact c2
  have k3 : (((Y.setCell ⟨cb, 0, none⟩ (.pointer (some ⟨p', 0, none⟩))).setCell ⟨cb, 1, none⟩ (.slice xa' m'.files.length xc')).setCell ⟨cb, 2, none⟩ (.int .i64 m'.fuse)).cell? ⟨cb, 3, none⟩ = some (.bool m.down) := by rw [set_at8 _ _ k2, if_neg (by omega), set_at8 _ _ k1, if_neg (by omega), set_at8 _ _ c0, if_neg (by omega)]; exact c3
  have hat : ∀ o, X.cell? ⟨cb, o, none⟩ = if o = 3 then some (.bool m'.down) else if o = 2 then some (.int .i64 m'.fuse) else if o = 1 then some (.slice xa' m'.files.length xc') else if o = 0 then some (.pointer (some ⟨p', 0, none⟩)) else Y.cell? ⟨cb, o, none⟩ := fun o => by
    rw [hX, set_at8 _ _ k3, set_at8 _ _ k2, set_at8 _ _ k1, set_at8 _ _ c0]
  have hsz : X.heap.size = Y.heap.size := by rw [hX]; simp only [setCell_size]
  have hbk : ∀ k, k ≠ cb → X.heap[k]? = Y.heap[k]? := fun k hk => by rw [hX, setCell_far _ hk, setCell_far _ hk, setCell_far _ hk, setCell_far _ hk]
  have hf : ∀ b j, X.frozen? ⟨b, j, none⟩ = Y.frozen? ⟨b, j, none⟩ := fun b j => by rw [hX]; simp only [World.frozen?_setCell]
  have hxr : ∀ j, X.cell? ⟨bb, j, none⟩ = wr.cell? ⟨bb, j, none⟩ := fun j => by rw [World.cell?_of_block (a := ⟨bb, j, none⟩) (hbk bb h.ne), hr]
  rw [← hX]
  refine { fs := K.move hfY (Nat.le_of_eq hsz.symm) fun k hk => hbk k (fun e => by subst e; exact hk.elim sc' rc')
           lo := hlo'
           bw := ?_, x := fun h0 => ?_, xl := hq.xl, xm := hq.xm
           c0 := by rw [hat]; simp, c1 := by rw [hat]; simp, c2 := by rw [hat]; simp, c3 := by rw [hat]; simp
           f := fun j => by rw [hf]; exact hfc j
           r0 := by rw [hxr]; exact h.r0, r1 := by rw [hxr]; exact h.r1, r2 := by rw [hxr]; exact h.r2, r3 := by rw [hxr]; exact h.r3
           g := fun j => by rw [hf]; exact hgb j
           nu := fun o n => ?_, sc := sc', rc := rc', sb := sb', ne := h.ne, cl := by omega, bl := by omega, wb := h.wb, wc := h.wc }
  · rw [hX]
    exact (((hbY.setCell hwc _).setCell hwc _).setCell hwc _).setCell hwc _
  · obtain ⟨b, off, ha, hlt, hs, hcc⟩ := hxY h0
    have hne : b ≠ cb := by
      rintro rfl
      cases hL : m'.files with
      | nil => rw [hL] at h0; simp [flF, flatG] at h0
      | cons y L =>
        refine nu (off + 0) (y.n : Int) (hcc 0 (.int .u32 (y.n : Int)) ?_)
        rw [hL]; simp [flF, flatG, Fl.l]
    exact ⟨b, off, ha, by omega, hs, fun j u hu => by rw [World.cell?_of_block (a := ⟨b, off + j, none⟩) (hbk b hne)]; exact hcc j u hu⟩
  · rw [hat]
    split
    · simp
    · split
      · simp
      · split
        · simp
        · split
          · simp
          · exact nu o n
theorem PS.at4 {K : FsKit} {w wr W w4 : World} {p p' : Nat} {S R S' R' : Nat → Prop} {m m' : FSm} {xa xa' : Option Addr} {xc xc' cb bb : Nat} (h : PS K w wr p S R m xa xc cb bb) (hbW : Below wr.heap.size wr W) (hq : Q8 K W w4 p' S R S' R' m' xa' xc') :
    (w4.cell? ⟨cb, 0, none⟩ = some (.pointer (some ⟨p, 0, none⟩)) ∧ w4.cell? ⟨cb, 1, none⟩ = some (.slice xa m.files.length xc) ∧ w4.cell? ⟨cb, 2, none⟩ = some (.int .i64 m.fuse) ∧ w4.cell? ⟨cb, 3, none⟩ = some (.bool m.down)) ∧
    (w4.frozen? ⟨cb, 0, none⟩ = false ∧ w4.frozen? ⟨cb, 1, none⟩ = false ∧ w4.frozen? ⟨cb, 2, none⟩ = false ∧ w4.frozen? ⟨cb, 3, none⟩ = false) := by
  have hs1 := hbW.size
  have hk : w4.heap[cb]? = wr.heap[cb]? := by rw [hq.did.off.block cb (by have := h.cl; omega) h.sc, hbW.block cb h.cl]
  have hc : ∀ j, w4.cell? ⟨cb, j, none⟩ = wr.cell? ⟨cb, j, none⟩ := fun j => World.cell?_of_block hk
  have hf : ∀ j, w4.frozen? ⟨cb, j, none⟩ = wr.frozen? ⟨cb, j, none⟩ := fun j => World.frozen?_of_block hk
  refine ⟨⟨?_, ?_, ?_, ?_⟩, ?_, ?_, ?_, ?_⟩
  · rw [hc]; exact h.c0
  · rw [hc]; exact h.c1
  · rw [hc]; exact h.c2
  · rw [hc]; exact h.c3
  all_goals rw [hf]; exact h.f _
theorem ps_start {K : FsKit} {w W w1 w2 : World} {p : Nat} {S R : Nat → Prop} (hW : W = w.alloc (.cells #[.pointer none, .slice none 0 0, .int .i64 0, .bool false] 30)) (hf : K.Fs w1 S R p newF) (hs : ∀ k, S k → W.heap.size ≤ k) (hb1 : Below W.heap.size W w1) (hb2 : Below w1.heap.size w1 w2) :
    PS K w (w2.alloc (.cells #[.pointer (some ⟨p, 0, none⟩), .slice none 0 0, .int .i64 (-1), .bool false] 30)) p S R newF none 0 w2.heap.size w.heap.size := by
  have hsW : W.heap.size = w.heap.size + 1 := by rw [hW]; simp
  have h1 := hb1.size
  have h2 := hb2.size
  obtain ⟨X, hX⟩ : ∃ X, X = w2.alloc (.cells #[.pointer (some ⟨p, 0, none⟩), .slice none 0 0, .int .i64 (-1), .bool false] 30) := ⟨_, rfl⟩
  have hb3 : Below w2.heap.size w2 X := by rw [hX]; exact box1 _ _
  have h3 := hb3.size
  have hk : X.heap[w.heap.size]? = W.heap[w.heap.size]? := by rw [hb3.block _ (by omega), hb2.block _ (by omega), hb1.block _ (by omega)]
  have hc : ∀ j, X.cell? ⟨w.heap.size, j, none⟩ = W.cell? ⟨w.heap.size, j, none⟩ := fun j => World.cell?_of_block hk
  have hfz : ∀ j, X.frozen? ⟨w.heap.size, j, none⟩ = W.frozen? ⟨w.heap.size, j, none⟩ := fun j => World.frozen?_of_block hk
  have lo := (K.low hf).1
  have lr := (K.low hf).2
  have hx : ∀ j, X.cell? ⟨w2.heap.size, j, none⟩ = (#[.pointer (some ⟨p, 0, none⟩), .slice none 0 0, .int .i64 (-1), .bool false] : Array Value)[j]? := fun j => by rw [hX]; exact World.cell?_alloc_at _ _ _ _ rfl
  rw [← hX]
  refine { fs := K.below (K.below hf hb2) hb3, lo := fun k h => by have := hs k h; omega
           bw := ?_, x := fun h0 => absurd h0 (by simp [newF, flF, flatG]), xl := Nat.zero_le _, xm := Nat.zero_le _
           c0 := by rw [hx]; rfl, c1 := by rw [hx]; rfl, c2 := by rw [hx]; rfl, c3 := by rw [hx]; rfl
           f := fun j => by rw [hX]; simp
           r0 := by rw [hc, hW]; simp, r1 := by rw [hc, hW]; simp, r2 := by rw [hc, hW]; simp, r3 := by rw [hc, hW]; simp
           g := fun j => by rw [hfz, hW]; simp
           nu := fun o n => ?_, sc := fun h => by have := lo _ h; omega, rc := fun h => by have := lr _ h; omega, sb := fun h => by have := hs _ h; omega, ne := by omega, cl := by rw [hX]; simp, bl := by omega, wb := Nat.le_refl _, wc := by omega }
  · have hbW : Below w.heap.size w W := by rw [hW]; exact box1 _ _
    exact hbW.trans (((hb1.trans (hb2.mono h1)).trans (hb3.mono (by omega))).mono (by omega))
  · rw [hx]
    match o with
    | 0 => simp
    | 1 => simp
    | 2 => simp
    | 3 => simp
    | o + 4 => simp
set_option maxRecDepth 20000 in
set_option maxHeartbeats 8000000 in
theorem play_any (K : FsKit) (la : Option Addr) (lc : Nat) (L : List Ac) (w : World) (hr : Rd w w.heap.size la (flA L)) (ha : ∀ a ∈ L, AcArg w a) (hlen : L.length ≤ 80) (hwide : ∀ a ∈ L, a.body.length ≤ 4000 ∧ a.fates.length ≤ 4000) :
    Calls Try.prog 9 #[.slice la L.length lc] w fun e w' => (∃ (v0 : Nat) (v1 : Option Addr) (v2 v3 : Nat) (v4 : Int) (v5 : Bool), e = .returned (.tuple #[.agg #[.pointer (some ⟨v0, 0, none⟩), .slice v1 v2 v3, .int .i64 v4, .bool v5], .bool true])) ∧ Below w.heap.size w w' := by
  have HR := Lib.hid hr; have HARGS := Lib.hid ha; have HWide := Lib.hid hwide; have HLen := Lib.hid hlen
  clear hr ha hwide
  go_enter Try.func9, Try.ntmps9
  go_wp2_with fail
  obtain ⟨W, hW⟩ : ∃ W, W = w.alloc (.cells #[.pointer none, .slice none 0 0, .int .i64 0, .bool false] 30) := ⟨_, rfl⟩
  have HW := Lib.hid hW
  obtain ⟨bb, hbb⟩ : ∃ bb, bb = w.heap.size := ⟨_, rfl⟩
  have HBB := Lib.hid hbb
  rw [← hW, ← hbb]
  clear hW hbb
  refine (K.new W).mono ?_
  rintro e w1 ⟨p, S, R, rfl, hf1, hs1, _, hb1⟩
  have HF1 := Lib.hid hf1; have HS1 := Lib.hid hs1; have HB1 := Lib.hid hb1
  clear hf1 hs1 hb1
  go_wp2_with fail
  have hnf := new_fs w1
  unfold fsv at hnf
  refine hnf.mono ?_
  clear hnf
  rintro e w2 ⟨rfl, hb2⟩
  have HP0 := Lib.hid (ps_start HW.out HF1.out HS1.out HB1.out hb2)
  clear hb2 HF1 HS1 HB1
  go_wp2_with fail
  obtain ⟨cb, hcb⟩ : ∃ cb, cb = w2.heap.size := ⟨_, rfl⟩
  obtain ⟨W3, hW3⟩ : ∃ W3, W3 = w2.alloc (.cells #[.pointer (some ⟨p, 0, none⟩), .slice none 0 0, .int .i64 (-1), .bool false] 30) := ⟨_, rfl⟩
  rw [← hW3, ← hcb, ← HBB.out] at HP0
  rw [← hW3, ← hcb]
  clear hW3 hcb HW
  go_loopw [18] (fun i wr => ∃ (k p : Nat) (S R : Nat → Prop) (m : FSm) (xa : Option Addr) (xc : Nat), k ≤ L.length ∧ i = .int .i64 k ∧ PS K w wr p S R m xa xc cb bb ∧ Lim k m ∧ U32 m) (fun i _ => L.length - (intOf i).toNat)
  case atStart => exact ⟨0, p, S, R, newF, none, 0, Nat.zero_le _, rfl, HP0.out, lim_new, fun y hy => absurd hy (by simp [newF])⟩
  case round =>
    clear HP0
    obtain ⟨k, p, S, R, m, xa, xc, hk, rfl, hps, hl, hu⟩ := hrel
    have HPS := Lib.hid hps; have HL := Lib.hid hl; have HU := Lib.hid hu
    have c0 := hps.c0; have c1 := hps.c1; have c2 := hps.c2; have c3 := hps.c3
    clear hps hl hu
    by_cases hlt : k < L.length
    · obtain ⟨b, off, hla, hbl, e0, e1, e2, e3, e4⟩ := act_elem (HR.out.below HPS.out.bw) hlt
      subst hla
      have HARG := Lib.hid (HARGS.out L[k] (List.getElem_mem _))
      have HW4 := Lib.hid (HWide.out L[k] (List.getElem_mem _))
      have HLT := Lib.hid hlt
      generalize L[k] = a at *
      obtain ⟨kd, n, ba, bc, body, sz, fa, fc, fates⟩ := a
      simp only at e0 e1 e2 e3 e4
      obtain ⟨W5, hW5⟩ : ∃ W5, W5 = wr.alloc (.cells #[.int .i64 kd, .int .u32 (n : Int), .slice ba body.length bc, .int .i64 sz, .slice fa fates.length fc] 38) := ⟨_, rfl⟩
      have hb5 : Below wr.heap.size wr W5 := by rw [hW5]; exact box1 _ _
      have HB5 := Lib.hid hb5
      have hdl := do_lim HL.out (K.ok HPS.out.fs) ⟨kd, n, ba, bc, body, sz, fa, fc, fates⟩ HW4.out.1 HARG.out.s1 HARG.out.s2
      have HDL := Lib.hid hdl.1
      have HUN := Lib.hid (u32_do HU.out (a := ⟨kd, n, ba, bc, body, sz, fa, fc, fates⟩) HARG.out.n)
      have hst := bstep_any K p S R m xa xc W5 ⟨kd, n, ba, bc, body, sz, fa, fc, fates⟩ (HPS.out.q8 hb5) (HL.out.more (by omega)) (hdl.1.more (by omega)) HU.out (HARG.out.in (HPS.out.bw.trans (hb5.mono HPS.out.bw.size)) HPS.out.lo HW4.out.1 HW4.out.2)
      unfold bothV Ac.v at hst
      have HST := Lib.hid hst
      have hcl := HPS.out.cl
      have ca0 : ∀ ob, (wr.alloc ob).cell? ⟨cb, 0, none⟩ = some (.pointer (some ⟨p, 0, none⟩)) := fun ob => by rw [World.cell?_alloc_lt _ _ _ hcl]; exact c0
      have ca1 : ∀ ob, (wr.alloc ob).cell? ⟨cb, 1, none⟩ = some (.slice xa m.files.length xc) := fun ob => by rw [World.cell?_alloc_lt _ _ _ hcl]; exact c1
      have ca2 : ∀ ob, (wr.alloc ob).cell? ⟨cb, 2, none⟩ = some (.int .i64 m.fuse) := fun ob => by rw [World.cell?_alloc_lt _ _ _ hcl]; exact c2
      have ca3 : ∀ ob, (wr.alloc ob).cell? ⟨cb, 3, none⟩ = some (.bool m.down) := fun ob => by rw [World.cell?_alloc_lt _ _ _ hcl]; exact c3
      clear hb5 hdl hst hcl c0 c1 c2 c3
      go_wp2_with fail
      rw [← hW5]
      clear hW5 ca0 ca1 ca2 ca3 e0 e1 e2 e3 e4
      refine HST.out.mono ?_
      rintro e w4 ⟨S', R', p', xa', xc', rfl, hq4⟩
      obtain ⟨⟨c0, c1, c2, c3⟩, f0, f1, f2, f3⟩ := HPS.out.at4 HB5.out hq4
      have HNX := Lib.hid (HPS.out.next HB5.out hq4)
      have hcl : cb < w4.heap.size := World.block_lt_of_cell? w4 _ c0
      have ca0 : ∀ ob, (w4.alloc ob).cell? ⟨cb, 0, none⟩ = some (.pointer (some ⟨p, 0, none⟩)) := fun ob => by rw [World.cell?_alloc_lt _ _ _ hcl]; exact c0
      have ca1 : ∀ ob, (w4.alloc ob).cell? ⟨cb, 1, none⟩ = some (.slice xa m.files.length xc) := fun ob => by rw [World.cell?_alloc_lt _ _ _ hcl]; exact c1
      have ca2 : ∀ ob, (w4.alloc ob).cell? ⟨cb, 2, none⟩ = some (.int .i64 m.fuse) := fun ob => by rw [World.cell?_alloc_lt _ _ _ hcl]; exact c2
      have ca3 : ∀ ob, (w4.alloc ob).cell? ⟨cb, 3, none⟩ = some (.bool m.down) := fun ob => by rw [World.cell?_alloc_lt _ _ _ hcl]; exact c3
      have fa0 : ∀ ob, (w4.alloc ob).frozen? ⟨cb, 0, none⟩ = false := fun ob => by rw [World.frozen?_of_block (a := ⟨cb, 0, none⟩) ((box1 w4 ob).block cb hcl)]; exact f0
      have fa1 : ∀ ob, (w4.alloc ob).frozen? ⟨cb, 1, none⟩ = false := fun ob => by rw [World.frozen?_of_block (a := ⟨cb, 1, none⟩) ((box1 w4 ob).block cb hcl)]; exact f1
      have fa2 : ∀ ob, (w4.alloc ob).frozen? ⟨cb, 2, none⟩ = false := fun ob => by rw [World.frozen?_of_block (a := ⟨cb, 2, none⟩) ((box1 w4 ob).block cb hcl)]; exact f2
      have fa3 : ∀ ob, (w4.alloc ob).frozen? ⟨cb, 3, none⟩ = false := fun ob => by rw [World.frozen?_of_block (a := ⟨cb, 3, none⟩) ((box1 w4 ob).block cb hcl)]; exact f3
      clear hq4 HST HB5 hcl c0 c1 c2 c3 f0 f1 f2 f3 HPS HL HU
      go_wp2_with fail
      go_roundw
      case rel => exact ⟨k + 1, p', S', R', _, xa', xc', HLT.out, by go_num, HNX.out _, HDL.out, HUN.out⟩
      case measure => have := HLT.out; simp [intOf]; omega
    · have HBX := Lib.hid HPS.out.bw
      have r0 := HPS.out.r0; have r1 := HPS.out.r1; have r2 := HPS.out.r2; have r3 := HPS.out.r3
      have g0 := HPS.out.g 0; have g1 := HPS.out.g 1; have g2 := HPS.out.g 2; have g3 := HPS.out.g 3
      have HTH : Hid (wr.there bb 0 4) := fun j hj => by
        have : j = 0 ∨ j = 1 ∨ j = 2 ∨ j = 3 := by omega
        rcases this with rfl | rfl | rfl | rfl <;> simp [*]
      have HWB := Lib.hid HPS.out.wb
      go_wp2_with fail
      refine bodyPost_ret (v := .tuple #[bothV p xa xc m, .bool true]) (results_cell_two (p := 2) (u := 3) (ty := 30) (b := bb) (x := .bool true) rfl rfl rfl (load_both wr bb #[.pointer (some ⟨p, 0, none⟩), .slice xa m.files.length xc, .int .i64 m.fuse, .bool m.down] HTH.out)) rfl ?_
      exact ⟨⟨_, _, _, _, _, _, rfl⟩, (((HBX.out.setCell HWB.out _).setCell HWB.out _).setCell HWB.out _).setCell HWB.out _⟩
theorem acarg_below {w w' : World} {a : Ac} (h : AcArg w a) (hb : Below w.heap.size w w') : AcArg w' a :=
  { h with b := (h.b.below hb).more hb.size, f := (h.f.below hb).more hb.size, t := fun t ht => ⟨((h.t t ht).1.below hb).more hb.size, (h.t t ht).2⟩ }
set_option maxRecDepth 20000 in
set_option maxHeartbeats 2000000 in
theorem simplays_any (K : FsKit) (la : Option Addr) (lc : Nat) (L : List Ac) (w : World) (hr : Rd w w.heap.size la (flA L)) (ha : ∀ a ∈ L, AcArg w a) :
    Calls Try.prog 3 #[.slice la L.length lc] w fun e w' => e = .returned (.bool true) ∧ Below w.heap.size w w' := by
  have HR := Lib.hid hr; have HARGS := Lib.hid ha; clear hr ha
  go_enter Try.func3, Try.ntmps3
  go_wp2_with fail
  refine (great_any la lc L w HR.out (fun a ha => ⟨Nat.le_trans (HARGS.out a ha).bc (HARGS.out a ha).bm, Nat.le_trans (HARGS.out a ha).fc (HARGS.out a ha).fm⟩)).mono ?_
  cases hg : greatB L
  case true =>
    rintro e w1 ⟨rfl, hb1⟩
    have HB1 := Lib.hid hb1; clear hb1
    go_wp2_with fail
    refine (fixed_any K w1).mono ?_
    rintro e w2 ⟨rfl, hb2⟩
    have HB2 := Lib.hid (bel2 HB1.out hb2); clear hb2
    go_wp2_with fail
    go_ret
    exact ⟨rfl, HB2.out⟩
  rintro e w1 ⟨rfl, hb1⟩
  have HB1 := Lib.hid hb1
  obtain ⟨hlen, hwide⟩ := great_no hg
  have HPL := Lib.hid (play_any K la lc L w1 ((HR.out.below hb1).more hb1.size) (fun a ha => acarg_below (HARGS.out a ha) hb1) hlen hwide)
  clear hb1 hg hwide
  go_wp2_with fail
  refine HPL.out.mono ?_
  rintro e w2 ⟨⟨v0, v1, v2, v3, v4, v5, rfl⟩, hb2⟩
  have HB2 := Lib.hid (bel2 HB1.out hb2); clear hb2
  go_wp2_with fail
  refine (fixed_any K _).mono ?_
  rintro e w3 ⟨rfl, hb3⟩
  have HB3 := Lib.hid (bel2 (HB2.out.alloc HB2.out.size _) hb3); clear hb3
  go_wp2_with fail
  go_ret
  exact ⟨rfl, HB3.out⟩
end Go.Proofs.Ythfhmohbfoolnaa

