import Derived.Test.YthfhmohbfoolnaaTg
import Derived.Sort.Walk13
import Derived.Sort.WalkD1
namespace Go.Proofs.Ythfhmohbfoolnaa
open Go Go.RowKit Go.Sort

/-! The library's sort at []uint32: the pivot is chosen. -/
theorem less_is {x y : Int} {b : Bool} (h : ltInt x y = b) (w : World) : Calls Try.prog 72 #[.int .u32 x, .int .u32 y] w fun e w' => e = .returned (.bool b) ∧ Below w.heap.size w w' := by
  subst h; exact less_any x y w
/-- The counter of exchanges: a block of its own. -/
def Cnt (w0 w : World) (s c : Nat) : Prop := w0.heap.size ≤ s ∧ w.heap[s]? = some (.cells #[.int .i64 (c : Int)] 3)
theorem cnt_below {w0 w w' : World} {s c : Nat} (h : Cnt w0 w s c) (hb : Below w.heap.size w w') : Cnt w0 w' s c := ⟨h.1, by rw [hb.block s (Array.getElem?_eq_some_iff.1 h.2).1]; exact h.2⟩
theorem Srt.aside {w0 w : World} {blk off : Nat} {d : Array Int} (h : Srt w0 w blk off d) {s : Nat} (hs : w0.heap.size ≤ s) (v : Value) : Srt w0 (w.setCell ⟨s, 0, none⟩ v) blk off d := by
  obtain ⟨cs, cs', e, fr, a1, a2, a3⟩ := h.shape
  have hbl := (Array.getElem?_eq_some_iff.1 a1).1
  have hne : s ≠ blk := by omega
  refine ⟨fun j hj => ?_, ⟨h.grown.os, h.grown.tape, h.grown.output, by simp [World.setCell]; exact h.grown.size, fun k hk hn => (set_other 0 v (by omega)).trans (h.grown.block k hk hn)⟩, cs, cs', e, fr, a1, ?_, a3⟩
  · rw [World.cell?_setCell_other _ _ _ _ (fun e => hne (by injection e)), World.frozen?_setCell]; exact h.holds j hj
  · rw [set_other 0 v (Ne.symm hne)]; exact a2
theorem Cnt.set {w0 w : World} {s c : Nat} (h : Cnt w0 w s c) (c' : Int) (n : Nat) (hn : c' = (n : Int)) : Cnt w0 (w.setCell ⟨s, 0, none⟩ (.int .i64 c')) s n := by
  subst hn
  exact ⟨h.1, set_heap h.2 0 _⟩
set_option maxRecDepth 20000 in
set_option maxHeartbeats 8000000 in
theorem orderU (w0 w : World) (blk off cap D s c x y : Nat) (d : Array Int) (hD : d.size = D) (hs : Srt w0 w blk off d) (hc : Cnt w0 w s c) (hx : x < D) (hy : y < D) (hsz : D ≤ 1000000000) (hcb : c ≤ 1000) :
    Calls Try.prog 83 #[.slice (some ⟨blk, off, none⟩) D cap, .int .i64 x, .int .i64 y, .pointer (some ⟨s, 0, none⟩)] w fun e w' => e = .returned (.tuple #[.int .i64 ((order2 ltInt d x y c).1 : Nat), .int .i64 ((order2 ltInt d x y c).2.1 : Nat)]) ∧ Srt w0 w' blk off d ∧ Cnt w0 w' s (order2 ltInt d x y c).2.2 := by
  have HS := Lib.hid hs; have HC := Lib.hid hc; clear hs hc
  have HSK : Hid (d.size = D) := hD
  clear hD
  have i1 : (0 : Int) ≤ (x : Int) := by omega
  have i2 : (x : Int) < (D : Int) := by omega
  have i3 : (0 : Int) ≤ (y : Int) := by omega
  have i4 : (y : Int) < (D : Int) := by omega
  obtain ⟨X, hX⟩ : ∃ X, X = d[x]! := ⟨_, rfl⟩
  have HX := Lib.hid hX; clear hX
  obtain ⟨Y, hY⟩ : ∃ Y, Y = d[y]! := ⟨_, rfl⟩
  have HY := Lib.hid hY; clear hY
  cases hl : ltInt Y X
  · have HE : Hid (order2 ltInt d x y c = (x, y, c)) := by show _ = _; rw [HY.out, HX.out] at hl; unfold order2; rw [hl]; rfl
    rw [HE.out]
    go_enter Try.func83, Try.ntmps83
    go_wp2_with fail
    obtain ⟨cY, fY⟩ := HS.out.holds y (by rw [HSK.out]; exact hy)
    rw [← HY.out] at cY
    obtain ⟨cX, fX⟩ := HS.out.holds x (by rw [HSK.out]; exact hx)
    rw [← HX.out] at cX
    have qcY := fun d os => cell_regrown cY d os
    have qcX := fun d os => cell_regrown cX d os
    refine wp_region_quiet_below (by kernel_rfl) (by kernel_rfl) ?_
    iterate 9 (first | go_big_quiet_step (first
      | (go_at_call 72; exact Calls.regrown_of (less_is hl _))) | fail)
    refine wpQuiet_nil ?_
    intro HSeW hw'
    obtain ⟨⟨dq, oq⟩, hw''⟩ := hw'
    have hb3 := below_regrown w dq oq
    rw [← hw''] at hb3
    clear hw'' qcY qcX cY cX fY fX
    have HSe := Lib.hid (HS.out.below hb3)
    have HCe := Lib.hid (cnt_below HC.out hb3); clear hb3
    go_wp2_with fail
    go_ret2
    exact ⟨rfl, HSe.out, HCe.out⟩
  · have HE : Hid (order2 ltInt d x y c = (y, x, c + 1)) := by show _ = _; rw [HY.out, HX.out] at hl; unfold order2; rw [hl]; rfl
    rw [HE.out]
    go_enter Try.func83, Try.ntmps83
    go_wp2_with fail
    obtain ⟨cY, fY⟩ := HS.out.holds y (by rw [HSK.out]; exact hy)
    rw [← HY.out] at cY
    obtain ⟨cX, fX⟩ := HS.out.holds x (by rw [HSK.out]; exact hx)
    rw [← HX.out] at cX
    have qcY := fun d os => cell_regrown cY d os
    have qcX := fun d os => cell_regrown cX d os
    refine wp_region_quiet_below (by kernel_rfl) (by kernel_rfl) ?_
    iterate 9 (first | go_big_quiet_step (first
      | (go_at_call 72; exact Calls.regrown_of (less_is hl _))) | fail)
    refine wpQuiet_nil ?_
    intro HSeW hw'
    obtain ⟨⟨dq, oq⟩, hw''⟩ := hw'
    have hb3 := below_regrown w dq oq
    rw [← hw''] at hb3
    clear hw'' qcY qcX cY cX fY fX
    have HSe := Lib.hid (HS.out.below hb3)
    have HCe := Lib.hid (cnt_below HC.out hb3); clear hb3
    have c0 := cells_cell HCe.out.2 (i := 0) rfl
    have f0 := cells_frozen HCe.out.2 0
    go_wp2
    go_ret2
    exact ⟨rfl, HSe.out.aside HCe.out.1 _, HCe.out.set _ _ (by omega)⟩
theorem order2_P (P : Nat → Prop) (d : Array Int) {x y : Nat} (c : Nat) (hx : P x) (hy : P y) : P (order2 ltInt d x y c).1 ∧ P (order2 ltInt d x y c).2.1 := by
  unfold order2; split
  · exact ⟨hy, hx⟩
  · exact ⟨hx, hy⟩
theorem median_P (P : Nat → Prop) (d : Array Int) {x y z : Nat} (c : Nat) (hx : P x) (hy : P y) (hz : P z) : P (median ltInt d x y z c).1 := by
  unfold median
  obtain ⟨h1, h2⟩ := order2_P P d c hx hy
  obtain ⟨h3, h4⟩ := order2_P P d (order2 ltInt d x y c).2.2 h2 hz
  exact (order2_P P d _ h1 h3).2
theorem median_swaps (d : Array Int) (x y z c : Nat) : (median ltInt d x y z c).2 ≤ c + 3 := by
  unfold median
  have h1 := order2_swaps d x y c
  have h2 := order2_swaps d (order2 ltInt d x y c).2.1 z (order2 ltInt d x y c).2.2
  have h3 := order2_swaps d (order2 ltInt d x y c).1 (order2 ltInt d (order2 ltInt d x y c).2.1 z (order2 ltInt d x y c).2.2).1 (order2 ltInt d (order2 ltInt d x y c).2.1 z (order2 ltInt d x y c).2.2).2.2
  simp only
  omega
set_option maxRecDepth 20000 in
set_option maxHeartbeats 8000000 in
theorem medianU (w0 w : World) (blk off cap D s c x y z : Nat) (d : Array Int) (hD : d.size = D) (hs : Srt w0 w blk off d) (hc : Cnt w0 w s c) (hx : x < D) (hy : y < D) (hz : z < D) (hsz : D ≤ 1000000000) (hcb : c ≤ 900) :
    Calls Try.prog 81 #[.slice (some ⟨blk, off, none⟩) D cap, .int .i64 x, .int .i64 y, .int .i64 z, .pointer (some ⟨s, 0, none⟩)] w fun e w' => e = .returned (.int .i64 ((median ltInt d x y z c).1 : Nat)) ∧ Srt w0 w' blk off d ∧ Cnt w0 w' s (median ltInt d x y z c).2 := by
  have HS := Lib.hid hs; have HC := Lib.hid hc; clear hs hc
  have HSK : Hid (d.size = D) := hD
  have hDD := HSK.out
  clear hD
  obtain ⟨h11, h12⟩ := order2_P (· < D) d c hx hy
  have h1s := order2_swaps d x y c
  obtain ⟨r1, hr1⟩ : ∃ r1, r1 = order2 ltInt d x y c := ⟨_, rfl⟩
  rw [← hr1] at h11 h12 h1s
  obtain ⟨h21, h22⟩ := order2_P (· < D) d r1.2.2 h12 hz
  have h2s := order2_swaps d r1.2.1 z r1.2.2
  obtain ⟨r2, hr2⟩ : ∃ r2, r2 = order2 ltInt d r1.2.1 z r1.2.2 := ⟨_, rfl⟩
  rw [← hr2] at h21 h22 h2s
  obtain ⟨r3, hr3⟩ : ∃ r3, r3 = order2 ltInt d r1.1 r2.1 r2.2.2 := ⟨_, rfl⟩
  have HE : Hid (median ltInt d x y z c = (r3.2.1, r3.2.2)) := by show _ = _; rw [hr3, hr2, hr1]; rfl
  have HR1 := Lib.hid hr1; have HR2 := Lib.hid hr2; have HR3 := Lib.hid hr3
  rw [HE.out]
  clear hr1 hr2 hr3 hDD
  obtain ⟨a1, b1, c1⟩ := r1
  obtain ⟨a2, b2, c2⟩ := r2
  obtain ⟨a3, b3, c3⟩ := r3
  simp only at *
  go_enter Try.func81, Try.ntmps81
  go_wp2_with fail
  refine (orderU w0 w blk off cap D s c x y d HSK.out HS.out HC.out hx hy hsz (by omega)).mono ?_
  rintro e w1 ⟨rfl, hs1, hc1⟩
  rw [← HR1.out] at hc1 ⊢
  have HS1 := Lib.hid hs1; have HC1 := Lib.hid hc1; clear hs1 hc1
  go_wp2_with fail
  refine (orderU w0 w1 blk off cap D s c1 b1 z d HSK.out HS1.out HC1.out h12 hz hsz (by omega)).mono ?_
  rintro e w2 ⟨rfl, hs1, hc1⟩
  rw [← HR2.out] at hc1 ⊢
  have HS2 := Lib.hid hs1; have HC2 := Lib.hid hc1; clear hs1 hc1
  go_wp2_with fail
  refine (orderU w0 w2 blk off cap D s c2 a1 a2 d HSK.out HS2.out HC2.out h11 h21 hsz (by omega)).mono ?_
  rintro e w3 ⟨rfl, hs1, hc1⟩
  rw [← HR3.out] at hc1 ⊢
  have HS3 := Lib.hid hs1; have HC3 := Lib.hid hc1; clear hs1 hc1
  go_wp2_with fail
  go_ret
  exact ⟨rfl, HS3.out, HC3.out⟩
set_option maxRecDepth 20000 in
set_option maxHeartbeats 8000000 in
theorem medAdjU (w0 w : World) (blk off cap D s c x : Nat) (d : Array Int) (hD : d.size = D) (hs : Srt w0 w blk off d) (hc : Cnt w0 w s c) (hx0 : 0 < x) (hx : x + 1 < D) (hsz : D ≤ 1000000000) (hcb : c ≤ 900) :
    Calls Try.prog 80 #[.slice (some ⟨blk, off, none⟩) D cap, .int .i64 x, .pointer (some ⟨s, 0, none⟩)] w fun e w' => e = .returned (.int .i64 ((medianAdjacent ltInt d x c).1 : Nat)) ∧ Srt w0 w' blk off d ∧ Cnt w0 w' s (medianAdjacent ltInt d x c).2 := by
  have HS := Lib.hid hs; have HC := Lib.hid hc; clear hs hc
  obtain ⟨u, rfl⟩ : ∃ u, x = u + 1 := ⟨x - 1, by omega⟩
  have HM := Lib.hid (medianU w0 w blk off cap D s c u (u + 1) (u + 1 + 1) d hD HS.out HC.out (by omega) (by omega) (by omega) hsz hcb)
  go_enter Try.func80, Try.ntmps80
  go_wp2_with fail
  refine HM.out.mono ?_
  rintro e w1 ⟨rfl, hs1, hc1⟩
  have HS1 := Lib.hid hs1; have HC1 := Lib.hid hc1; clear hs1 hc1
  go_wp2_with fail
  go_ret
  exact ⟨rfl, HS1.out, HC1.out⟩
end Go.Proofs.Ythfhmohbfoolnaa
