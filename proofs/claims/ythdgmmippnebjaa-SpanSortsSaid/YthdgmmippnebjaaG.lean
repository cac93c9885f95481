import Derived.Test.YthdgmmippnebjaaF
namespace Go.Proofs.Ythdgmmippnebjaa
open Go.RowKit Go.Sort

theorem end_yes (s : Sp) (w : World) (ok : s.Ok) (h : mayB s = true) : Calls Try.prog 11 #[s.v] w fun e w' => e = .returned (.tuple #[.int .i64 (s.start + s.dur), .bool true]) ∧ Below w.heap.size w w' := by
  have := end_any s w ok; rw [h] at this; simpa using this
theorem end_no (s : Sp) (w : World) (ok : s.Ok) (h : mayB s = false) : Calls Try.prog 11 #[s.v] w fun e w' => e = .returned (.tuple #[.int .i64 0, .bool false]) ∧ Below w.heap.size w w' := by
  have := end_any s w ok; rw [h] at this; simpa using this
theorem mayB_times {s : Sp} (h : mayB s = true) : 0 ≤ s.start ∧ s.start < 1125899906842624 ∧ 0 ≤ s.dur ∧ s.dur ≤ 1125899906842624 := by
  simp [mayB, tmB] at h; omega
theorem may_is {s : Sp} {b : Bool} (h : mayB s = b) (w : World) (hh : s.host.size ≤ maxLen) (hn : s.name.size ≤ maxLen) : Calls Try.prog 12 #[s.v] w fun e w' => e = .returned (.bool b) ∧ Below w.heap.size w w' := by
  subst h; exact may_any s w hh hn
theorem refMay_is {s : Sp} {b : Bool} (h : mayB s = b) (w : World) (hh : s.host.size ≤ maxLen) (hn : s.name.size ≤ maxLen) (hk : 0 ≤ s.kind) : Calls Try.prog 13 #[s.v] w fun e w' => e = .returned (.bool b) ∧ Below w.heap.size w w' := by
  subst h; exact refMay_any s w hh hn hk

set_option maxHeartbeats 2000000 in
theorem law_may (s : Sp) (w : World) (ok : s.Ok) : Calls Try.prog 4 #[s.v] w fun e w' => e = .returned (.bool true) ∧ Below w.heap.size w w' := by
  have OK := Lib.hid ok; clear ok
  cases hl : longB s
  case true =>
    have HL := Lib.hid hl; clear hl
    unfold Sp.v
    go_enter Try.func4, Try.ntmps4
    go_wp2_with (first
      | (go_at_call 10; refine (long_any s _ OK.out.host OK.out.name).mono ?_; rw [HL.out]; rintro e w' ⟨rfl, hb⟩)
      | (go_at_call 7; refine (fixed_any _).mono ?_; rintro e w' ⟨rfl, hb2⟩))
    go_ret
    exact ⟨rfl, bel2 (bel2 (box1 _ _) hb) hb2⟩
  have HL := Lib.hid hl; clear hl
  cases hm : mayB s
  · have HM := Lib.hid hm; clear hm
    unfold Sp.v
    go_enter Try.func4, Try.ntmps4
    go_wp2_with fail
    refine (long_any s _ OK.out.host OK.out.name).mono ?_; rw [HL.out]; rintro e w1 ⟨rfl, hb1⟩
    have hA := (Box.new w s 26).below hb1 (by simp)
    obtain ⟨c0, c1, c2, c3, c4, c5, c6, c7⟩ := hA.all
    have HA := Lib.hid hA; clear hA
    have HB1 := Lib.hid (bel2 (box1 _ _) hb1); clear hb1
    go_wp2_with fail
    refine (end_no s _ OK.out HM.out).mono ?_; rintro e w2 ⟨rfl, hb2⟩
    clear c0 c1 c2 c3 c4 c5 c6 c7
    have hA := HA.out.below hb2 HA.out.1
    clear HA
    obtain ⟨c0, c1, c2, c3, c4, c5, c6, c7⟩ := hA.all
    have q1 := hA.1
    have HA := Lib.hid hA; clear hA
    have HB2 := Lib.hid (bel2 HB1.out hb2); clear hb2 HB1
    go_wp2_with fail
    have hcg : ∀ d os n o, n < w2.heap.size → (grow (redrawn w2 d) os).cell? ⟨n, o, none⟩ = w2.cell? ⟨n, o, none⟩ := fun d os n o h => (below_regrown w2 d os).cell h
    refine wp_region_quiet_below (by kernel_rfl) (by kernel_rfl) ?_
    iterate 11 (first | go_big_quiet_step (first | (go_at_call 12; exact Calls.regrown_of (may_is HM.out _ OK.out.host OK.out.name)) | (go_at_call 13; exact Calls.regrown_of (refMay_is HM.out _ OK.out.host OK.out.name OK.out.kind.1))) | fail)
    refine wpQuiet_nil ?_
    intro w3 hw3
    obtain ⟨⟨d, os⟩, hw3'⟩ := hw3
    have hb3 := below_regrown w2 d os
    rw [← hw3'] at hb3
    clear hw3' hcg c0 c1 c2 c3 c4 c5 c6 c7 q1
    have hA := HA.out.below hb3 HA.out.1
    clear HA
    have HA := Lib.hid hA; clear hA
    have HB3 := Lib.hid (bel2 HB2.out hb3); clear hb3 HB2
    go_wp2_with (go_at_call 7; refine (fixed_any _).mono ?_; rintro e w4 ⟨rfl, hb4⟩; have hA := HA.out.below hb4 HA.out.1; obtain ⟨_, _, _, _, _, _, c6, c7⟩ := hA.all; clear hA; have HB4 := Lib.hid (bel2 HB3.out hb4); clear hb4)
    go_ret
    exact ⟨rfl, HB4.out⟩
  · obtain ⟨t1, t2, t3, t4⟩ := mayB_times hm
    have HM := Lib.hid hm; clear hm
    have t5 : s.start ≤ s.start + s.dur := by omega
    have t6 : s.start + s.dur < 2251799813685248 := by omega
    unfold Sp.v
    go_enter Try.func4, Try.ntmps4
    go_wp2_with fail
    refine (long_any s _ OK.out.host OK.out.name).mono ?_; rw [HL.out]; rintro e w1 ⟨rfl, hb1⟩
    have hA := (Box.new w s 26).below hb1 (by simp)
    obtain ⟨c0, c1, c2, c3, c4, c5, c6, c7⟩ := hA.all
    have HA := Lib.hid hA; clear hA
    have HB1 := Lib.hid (bel2 (box1 _ _) hb1); clear hb1
    go_wp2_with fail
    refine (end_yes s _ OK.out HM.out).mono ?_; rintro e w2 ⟨rfl, hb2⟩
    clear c0 c1 c2 c3 c4 c5 c6 c7
    have hA := HA.out.below hb2 HA.out.1
    clear HA
    obtain ⟨c0, c1, c2, c3, c4, c5, c6, c7⟩ := hA.all
    have q1 := hA.1
    have HA := Lib.hid hA; clear hA
    have HB2 := Lib.hid (bel2 HB1.out hb2); clear hb2 HB1
    go_wp2_with fail
    have hcg : ∀ d os n o, n < w2.heap.size → (grow (redrawn w2 d) os).cell? ⟨n, o, none⟩ = w2.cell? ⟨n, o, none⟩ := fun d os n o h => (below_regrown w2 d os).cell h
    refine wp_region_quiet_below (by kernel_rfl) (by kernel_rfl) ?_
    iterate 11 (first | go_big_quiet_step (first | (go_at_call 12; exact Calls.regrown_of (may_is HM.out _ OK.out.host OK.out.name)) | (go_at_call 13; exact Calls.regrown_of (refMay_is HM.out _ OK.out.host OK.out.name OK.out.kind.1))) | fail)
    refine wpQuiet_nil ?_
    intro w3 hw3
    obtain ⟨⟨d, os⟩, hw3'⟩ := hw3
    have hb3 := below_regrown w2 d os
    rw [← hw3'] at hb3
    clear hw3' hcg c0 c1 c2 c3 c4 c5 c6 c7 q1
    have hA := HA.out.below hb3 HA.out.1
    clear HA
    have HA := Lib.hid hA; clear hA
    have HB3 := Lib.hid (bel2 HB2.out hb3); clear hb3 HB2
    go_wp2_with (go_at_call 7; refine (fixed_any _).mono ?_; rintro e w4 ⟨rfl, hb4⟩; have hA := HA.out.below hb4 HA.out.1; obtain ⟨_, _, _, _, _, _, c6, c7⟩ := hA.all; clear hA; have HB4 := Lib.hid (bel2 HB3.out hb4); clear hb4)
    go_ret
    exact ⟨rfl, HB4.out⟩
end Go.Proofs.Ythdgmmippnebjaa
