import Derived.Test.YthfhmohbfoolnaaKf
import Derived.Laws.Concat
namespace Go.Proofs.Ythfhmohbfoolnaa
open Go Go.RowKit Go.Maps Go.Sort

/-! The landed file system: what Append and Truncate make of a file. -/
theorem string_grown {W : World} {a : Option Addr} (c : Nat) {l : List UInt8} (h : Rd W W.heap.size a (bV l)) :
    ∀ d os, (convert 36 9 (.slice a l.length c)).run Try.prog (grow (redrawn W d) os) = .ok (.string (bs l)) (grow (redrawn W d) os) := fun d os =>
  run_string_rd (P := Try.prog) _ 36 9 5 Try.underlying36 Try.underlying5 Try.underlying9 l.length c ((h.below (below_regrown W d os)).more (below_regrown W d os).size) rfl
set_option maxRecDepth 20000 in
set_option maxHeartbeats 4000000 in
theorem append1_any (x : Fl) (q bx : Nat) (fl : Bool) (w : World) (a : Option Addr) (c : Nat) (b : List UInt8) (hq : w.heap[q]? = some (.cells (flC x) 69)) (hbx : w.cell? ⟨bx, 0, none⟩ = some (.slice a b.length c)) (hr : Rd w w.heap.size a (bV b)) (hbl : b.length ≤ 1000000000) (hsz : x.now.size ≤ 1000000000) :
    Calls Try.prog 32 #[.pointer (some ⟨q, 0, none⟩), .bool fl, .pointer (some ⟨bx, 0, none⟩)] w fun e w' => e = .returned (.int .i64 (moreG (bs b) x).1) ∧ Turned w w' q (moreG (bs b) x).2 := by
  obtain ⟨n, t, k, nw, sf⟩ := x
  obtain ⟨c0, c1, c2, c3, f0, f1, f2, f3⟩ := file_cells hq
  simp only at c0 c1 c2 c3 hsz
  have HQ := Lib.hid hq; clear hq
  have hadd : ∀ w, (Op.stringOp .add nw (bs b)).run Try.prog w = .ok (.string (nw ++ bs b)) w := fun w => run_string_add_sum w _ _ (by rw [bs_size]; omega)
  cases t
  · go_enter Try.func32, Try.ntmps32
    go_wp2
    go_ret
    exact ⟨rfl, Turned.no HQ.out (Below.refl _ _)⟩
  · go_enter Try.func32, Try.ntmps32
    go_wp2_with fail
    have k1 := fun d os => cell_regrown c1 d os
    have k2 := fun d os => cell_regrown hbx d os
    have kc := string_grown c hr
    clear c0 c1 c2 c3 f0 f1 f2 f3 hbx hr
    refine wp_region_below_tail 8 (by kernel_rfl) (by kernel_rfl) ?_
    simp only [List.take_succ_cons, List.take_zero, List.drop_succ_cons, List.drop_zero]
    iterate 8 (first | go_big_quiet_step (fail) | fail)
    refine wpQuiet_nil ?_
    intro W3 hw'
    obtain ⟨⟨d, os⟩, hw''⟩ := hw'
    have hb3 := below_regrown w d os
    rw [← hw''] at hb3
    clear hw'' k1 k2 kc
    have hT3 := Turned.no HQ.out hb3
    have HT3 := Lib.hid hT3
    obtain ⟨c0, c1, c2, c3, f0, f1, f2, f3⟩ := file_cells hT3.2
    simp only at c0 c1 c2 c3
    clear hT3 hb3
    go_wp2
    go_ret
    exact ⟨rfl, HT3.out.1.trans (turn_at _ q 1 _), set_heap HT3.out.2 1 _⟩
set_option maxRecDepth 20000 in
set_option maxHeartbeats 4000000 in
theorem trunc1_any (x : Fl) (q bx : Nat) (fl : Bool) (w : World) (s : Int) (hq : w.heap[q]? = some (.cells (flC x) 69)) (hbx : w.cell? ⟨bx, 0, none⟩ = some (.int .i64 s)) (h1 : -9223372036854775808 ≤ s) (h2 : s ≤ 9223372036854775807) (hsz : x.now.size ≤ 1000000000) :
    Calls Try.prog 42 #[.pointer (some ⟨q, 0, none⟩), .bool fl, .pointer (some ⟨bx, 0, none⟩)] w fun e w' => e = .returned (.int .i64 (lessG s x).1) ∧ Turned w w' q (lessG s x).2 := by
  obtain ⟨n, t, k, nw, sf⟩ := x
  obtain ⟨c0, c1, c2, c3, f0, f1, f2, f3⟩ := file_cells hq
  simp only at c0 c1 c2 c3 hsz
  have HQ := Lib.hid hq; clear hq
  cases t
  · go_enter Try.func42, Try.ntmps42
    go_wp2
    go_ret
    exact ⟨rfl, Turned.no HQ.out (Below.refl _ _)⟩
  · by_cases hs : s < 0
    · have HE : Hid (lessG s ⟨n, true, k, nw, sf⟩ = (4, ⟨n, true, k, nw, sf⟩)) := by show _ = _; simp [lessG, hs]
      have d0 : decide (s < 0) = true := decide_eq_true hs
      go_enter Try.func42, Try.ntmps42
      go_wp2_with fail
      have k1 := fun d os => cell_regrown c1 d os
      have k2 := fun d os => cell_regrown hbx d os
      clear c0 c1 c2 c3 f0 f1 f2 f3 hbx
      refine wp_region_quiet_below (by kernel_rfl) (by kernel_rfl) ?_
      iterate 13 (first | go_big_quiet_step (fail) | fail)
      refine wpQuiet_nil ?_
      intro W3 hw'
      obtain ⟨⟨d, os⟩, hw''⟩ := hw'
      have hb3 := below_regrown w d os
      rw [← hw''] at hb3
      clear hw'' k1 k2
      have HB3 := Lib.hid hb3; clear hb3
      go_wp2
      go_ret
      rw [HE.out]
      exact ⟨rfl, Turned.no HQ.out HB3.out⟩
    · have hsn : (0 : Int) ≤ s := by omega
      have d0 : decide (s < 0) = false := decide_eq_false hs
      by_cases hg : (nw.size : Int) < s
      · have HE : Hid (lessG s ⟨n, true, k, nw, sf⟩ = (4, ⟨n, true, k, nw, sf⟩)) := by show _ = _; simp [lessG, hg]
        have d1 : decide ((nw.size : Int) < s) = true := decide_eq_true hg
        go_enter Try.func42, Try.ntmps42
        go_wp2_with fail
        have k1 := fun d os => cell_regrown c1 d os
        have k2 := fun d os => cell_regrown hbx d os
        clear c0 c1 c2 c3 f0 f1 f2 f3 hbx
        refine wp_region_quiet_below (by kernel_rfl) (by kernel_rfl) ?_
        iterate 13 (first | go_big_quiet_step (fail) | fail)
        refine wpQuiet_nil ?_
        intro W3 hw'
        obtain ⟨⟨d, os⟩, hw''⟩ := hw'
        have hb3 := below_regrown w d os
        rw [← hw''] at hb3
        clear hw'' k1 k2
        have HB3 := Lib.hid hb3; clear hb3
        go_wp2
        go_ret
        rw [HE.out]
        exact ⟨rfl, Turned.no HQ.out HB3.out⟩
      · have HE : Hid (lessG s ⟨n, true, k, nw, sf⟩ = (0, cutF ⟨n, true, k, nw, sf⟩ s.toNat)) := by show _ = _; simp [lessG, hg, hs]
        have d1 : decide ((nw.size : Int) < s) = false := decide_eq_false hg
        have i1 : s ≤ (nw.size : Int) := by omega
        go_enter Try.func42, Try.ntmps42
        go_wp2_with fail
        have k1 := fun d os => cell_regrown c1 d os
        have k2 := fun d os => cell_regrown hbx d os
        clear c0 c2 c3 f0 f1 f2 f3
        refine wp_region_quiet_below (by kernel_rfl) (by kernel_rfl) ?_
        iterate 13 (first | go_big_quiet_step (fail) | fail)
        refine wpQuiet_nil ?_
        intro W3 hw'
        obtain ⟨⟨d, os⟩, hw''⟩ := hw'
        have hb3 := below_regrown w d os
        rw [← hw''] at hb3
        have q2 := k2 d os
        rw [← hw''] at q2
        clear hw'' k1 k2 c1 hbx
        have hT3 := Turned.no HQ.out hb3
        have HT3 := Lib.hid hT3
        obtain ⟨c0, c1, c2, c3, f0, f1, f2, f3⟩ := file_cells hT3.2
        simp only at c0 c1 c2 c3
        clear hT3 hb3
        go_wp2_with fail
        have k1 := fun d os => cell_regrown c1 d os
        have k2 := fun d os => cell_regrown q2 d os
        clear c0 c1 c2 c3 f0 f1 f2 f3 q2
        refine wp_region_below_tail 8 (by kernel_rfl) (by kernel_rfl) ?_
        simp only [List.take_succ_cons, List.take_zero, List.drop_succ_cons, List.drop_zero]
        iterate 8 (first | go_big_quiet_step (fail) | fail)
        refine wpQuiet_nil ?_
        intro W5 hw'
        obtain ⟨⟨d, os⟩, hw''⟩ := hw'
        have hb5 := below_regrown W3 d os
        rw [← hw''] at hb5
        clear hw'' k1 k2
        have hT5 := Turned.no HT3.out.2 hb5
        have HT5 := Lib.hid hT5
        obtain ⟨c0, c1, c2, c3, f0, f1, f2, f3⟩ := file_cells hT5.2
        simp only at c0 c1 c2 c3
        clear hT5 hb5
        go_wp2
        go_ret
        rw [HE.out]
        exact ⟨rfl, (HT3.out.1.trans HT5.out.1).trans (turn_at _ q 1 _), set_heap HT5.out.2 1 _⟩
end Go.Proofs.Ythfhmohbfoolnaa
