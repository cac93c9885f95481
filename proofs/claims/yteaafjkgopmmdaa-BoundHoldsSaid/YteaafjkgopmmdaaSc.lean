import Derived.Test.YteaafjkgopmmdaaSb
import Derived.Deep.RegionWith
namespace Go.Proofs.Yteaafjkgopmmdaa
open Go.RowKit Go.Sort

def nmB (s : Sp) : Bool := !(s.trace == 0) && !(s.id == 0) && !(s.parent == s.id) && decide (s.kind ≤ 2)
def tmB (s : Sp) : Bool := decide (0 ≤ s.start) && decide (s.start < 1125899906842624) && decide (0 ≤ s.dur) && decide (s.dur ≤ 1125899906842624)
def mayB (s : Sp) : Bool := nmB s && tmB s && nameB s.host && nameB s.name

set_option maxHeartbeats 1000000 in
theorem numbersMay_any (s : Sp) (w : World) : Calls Try.prog 44 #[s.v] w fun e w' => e = .returned (.bool (nmB s)) ∧ Below w.heap.size w w' := by
  unfold Sp.v
  by_cases h1 : s.trace = 0
  · go_enter Try.func44, Try.ntmps44
    go_wp2
    go_ret
    exact ⟨ret_bool (by simp [nmB, h1]), box1 _ _⟩
  by_cases h2 : s.id = 0
  · go_enter Try.func44, Try.ntmps44
    go_wp2
    go_ret
    exact ⟨ret_bool (by simp [nmB, h2]), box1 _ _⟩
  by_cases h3 : s.parent = s.id
  · go_enter Try.func44, Try.ntmps44
    go_wp2
    go_ret
    exact ⟨ret_bool (by simp [nmB, h3]), box1 _ _⟩
  have e3 : (s.parent == s.id) = false := by simpa using h3
  go_enter Try.func44, Try.ntmps44
  go_wp2
  go_ret
  exact ⟨ret_bool (by simp [nmB, bne]), box1 _ _⟩
set_option maxHeartbeats 1000000 in
theorem timesMay_any (s : Sp) (w : World) : Calls Try.prog 45 #[s.v] w fun e w' => e = .returned (.bool (tmB s)) ∧ Below w.heap.size w w' := by
  unfold Sp.v
  by_cases h1 : 0 ≤ s.start
  case neg =>
    go_enter Try.func45, Try.ntmps45
    go_wp2
    go_ret
    exact ⟨ret_bool (by simp [tmB]; omega), box1 _ _⟩
  by_cases h2 : s.start < 1125899906842624
  case neg =>
    go_enter Try.func45, Try.ntmps45
    go_wp2
    go_ret
    exact ⟨ret_bool (by simp [tmB]; omega), box1 _ _⟩
  by_cases h3 : 0 ≤ s.dur
  case neg =>
    go_enter Try.func45, Try.ntmps45
    go_wp2
    go_ret
    exact ⟨ret_bool (by simp [tmB]; omega), box1 _ _⟩
  go_enter Try.func45, Try.ntmps45
  go_wp2
  go_ret
  exact ⟨ret_bool (by simp [tmB, h1, h2, h3]), box1 _ _⟩


set_option maxHeartbeats 1000000 in
theorem may_any (s : Sp) (w : World) (hh : s.host.size ≤ maxLen) (hn : s.name.size ≤ maxLen) : Calls Try.prog 41 #[s.v] w fun e w' => e = .returned (.bool (mayB s)) ∧ Below w.heap.size w w' := by
  unfold Sp.v
  have HH := Lib.hid hh; have HN := Lib.hid hn; clear hh hn
  have HB := Lib.hid (box1 w (.cells s.c 42))
  cases h1 : nmB s
  · have HE : Hid (mayB s = false) := by show _ = _; simp [mayB, h1]
    go_enter Try.func41, Try.ntmps41
    go_wp2_with (go_at_call 44; refine (numbersMay_any s _).mono ?_; rintro e w' ⟨rfl, hb⟩)
    go_ret
    exact ⟨ret_bool HE.out.symm, bel2 HB.out hb⟩
  cases h2 : tmB s
  · have HE : Hid (mayB s = false) := by show _ = _; simp [mayB, h2]
    go_enter Try.func41, Try.ntmps41
    go_wp2_with (first
      | (go_at_call 44; refine (numbersMay_any s _).mono ?_; rintro e w' ⟨rfl, hb⟩; have hA := (Box.new w s 42).below hb (by simp); obtain ⟨c0, c1, c2, c3, c4, c5, c6, c7⟩ := hA.all; have HA := Lib.hid hA; clear hA; have HB1 := Lib.hid hb; clear hb)
      | (go_at_call 45; refine (timesMay_any s _).mono ?_; rintro e w' ⟨rfl, hb2⟩))
    go_ret
    exact ⟨ret_bool HE.out.symm, bel2 (bel2 HB.out HB1.out) hb2⟩
  cases h3 : nameB s.host
  · have HE : Hid (mayB s = false) := by show _ = _; simp [mayB, h3]
    go_enter Try.func41, Try.ntmps41
    go_wp2_with (first
      | (go_at_call 44; refine (numbersMay_any s _).mono ?_; rintro e w' ⟨rfl, hb⟩; have hA := (Box.new w s 42).below hb (by simp); obtain ⟨c0, c1, c2, c3, c4, c5, c6, c7⟩ := hA.all; have HA := Lib.hid hA; clear hA; have HB1 := Lib.hid hb; clear hb)
      | (go_at_call 45; refine (timesMay_any s _).mono ?_; rintro e w' ⟨rfl, hb2⟩; clear c0 c1 c2 c3 c4 c5 c6 c7; have hA := HA.out.below hb2 HA.out.1; obtain ⟨_, _, _, _, c4, c5, _, _⟩ := hA.all; clear hA)
      | (go_at_call 46; refine (name_any _ _ HH.out).mono ?_; rintro e w' ⟨rfl, rfl⟩))
    go_ret
    exact ⟨ret_bool HE.out.symm, bel2 (bel2 HB.out HB1.out) hb2⟩
  have HE : Hid (mayB s = nameB s.name) := by show _ = _; simp [mayB, h1, h2, h3]
  go_enter Try.func41, Try.ntmps41
  go_wp2_with (first
      | (go_at_call 44; refine (numbersMay_any s _).mono ?_; rintro e w' ⟨rfl, hb⟩; have hA := (Box.new w s 42).below hb (by simp); obtain ⟨c0, c1, c2, c3, c4, c5, c6, c7⟩ := hA.all; have HA := Lib.hid hA; clear hA; have HB1 := Lib.hid hb; clear hb)
      | (go_at_call 45; refine (timesMay_any s _).mono ?_; rintro e w' ⟨rfl, hb2⟩; clear c0 c1 c2 c3 c4 c5 c6 c7; have hA := HA.out.below hb2 HA.out.1; obtain ⟨_, _, _, _, c4, c5, _, _⟩ := hA.all; clear hA)
      | (go_at_call_of 46 (Value.string s.host); refine (name_any _ _ HH.out).mono ?_; rintro e w' ⟨rfl, rfl⟩)
      | (go_at_call_of 46 (Value.string s.name); refine (name_any _ _ HN.out).mono ?_; rintro e w' ⟨rfl, rfl⟩))
  go_ret
  exact ⟨ret_bool HE.out.symm, bel2 (bel2 HB.out HB1.out) hb2⟩
set_option maxHeartbeats 2000000 in
theorem refMay_any (s : Sp) (w : World) (hh : s.host.size ≤ maxLen) (hn : s.name.size ≤ maxLen) (hk : 0 ≤ s.kind) : Calls Try.prog 19 #[s.v] w fun e w' => e = .returned (.bool (mayB s)) ∧ Below w.heap.size w w' := by
  unfold Sp.v
  have HH := Lib.hid hh; have HN := Lib.hid hn; clear hh hn
  cases h1 : (s.trace == 0)
  case true =>
    have HE : Hid (mayB s = false) := by show _ = _; simp [mayB, nmB, h1]
    go_enter Try.func19, Try.ntmps19
    go_wp2
    go_ret
    exact ⟨ret_bool HE.out.symm, box1 _ _⟩
  cases h2 : (s.id == 0)
  case true =>
    have HE : Hid (mayB s = false) := by show _ = _; simp [mayB, nmB, h2]
    go_enter Try.func19, Try.ntmps19
    go_wp2
    go_ret
    exact ⟨ret_bool HE.out.symm, box1 _ _⟩
  cases h3 : (s.parent == s.id)
  case true =>
    have HE : Hid (mayB s = false) := by show _ = _; simp [mayB, nmB, h3]
    go_enter Try.func19, Try.ntmps19
    go_wp2
    go_ret
    exact ⟨ret_bool HE.out.symm, box1 _ _⟩
  by_cases h4 : 2 < s.kind
  · have HE : Hid (mayB s = false) := by
      show _ = _
      have : ¬ s.kind ≤ 2 := by omega
      simp [mayB, nmB, this]
    have k0 : (s.kind == 0) = false := by simp; omega
    have k1 : (s.kind == 1) = false := by simp; omega
    have k2 : (s.kind == 2) = false := by simp; omega
    have k0' : (s.kind != 0) = true := by simp; omega
    have k1' : (s.kind != 1) = true := by simp; omega
    have k2' : (s.kind != 2) = true := by simp; omega
    go_enter Try.func19, Try.ntmps19
    go_wp2
    go_ret
    exact ⟨ret_bool HE.out.symm, box1 _ _⟩
  have HM : Hid (mayB s = (tmB s && nameB s.host && nameB s.name)) := by
    show _ = _
    have : s.kind ≤ 2 := by omega
    simp [mayB, nmB, h1, h2, h3, this]
  have hkk : s.kind = 0 ∨ s.kind = 1 ∨ s.kind = 2 := by omega
  clear hk h4
  have hkk : ((s.kind == 0) = true ∧ (s.kind != 0) = false) ∨ ((s.kind == 0) = false ∧ (s.kind != 0) = true ∧ (s.kind == 1) = true ∧ (s.kind != 1) = false) ∨ ((s.kind == 0) = false ∧ (s.kind != 0) = true ∧ (s.kind == 1) = false ∧ (s.kind != 1) = true ∧ (s.kind == 2) = true ∧ (s.kind != 2) = false) := by
    rcases hkk with h | h | h <;> simp [h]
  by_cases t1 : s.start < 0
  · have HE : Hid (mayB s = false) := by
      rw [Hid, HM.out]
      have : tmB s = false := by simp [tmB]; omega
      simp [this]
    rcases hkk with ⟨_, _⟩ | ⟨_, _, _, _⟩ | ⟨_, _, _, _, _, _⟩
    all_goals
      go_enter Try.func19, Try.ntmps19
      go_wp2
      go_ret
      exact ⟨ret_bool HE.out.symm, box1 _ _⟩
  by_cases t2 : 1125899906842623 < s.start
  · have HE : Hid (mayB s = false) := by
      rw [Hid, HM.out]
      have : tmB s = false := by simp [tmB]; omega
      simp [this]
    rcases hkk with ⟨_, _⟩ | ⟨_, _, _, _⟩ | ⟨_, _, _, _, _, _⟩
    all_goals
      go_enter Try.func19, Try.ntmps19
      go_wp2
      go_ret
      exact ⟨ret_bool HE.out.symm, box1 _ _⟩
  by_cases t3 : s.dur < 0
  · have HE : Hid (mayB s = false) := by
      rw [Hid, HM.out]
      have : tmB s = false := by simp [tmB]; omega
      simp [this]
    rcases hkk with ⟨_, _⟩ | ⟨_, _, _, _⟩ | ⟨_, _, _, _, _, _⟩
    all_goals
      go_enter Try.func19, Try.ntmps19
      go_wp2
      go_ret
      exact ⟨ret_bool HE.out.symm, box1 _ _⟩
  by_cases t4 : 1125899906842624 < s.dur
  · have HE : Hid (mayB s = false) := by
      rw [Hid, HM.out]
      have : tmB s = false := by simp [tmB]; omega
      simp [this]
    rcases hkk with ⟨_, _⟩ | ⟨_, _, _, _⟩ | ⟨_, _, _, _, _, _⟩
    all_goals
      go_enter Try.func19, Try.ntmps19
      go_wp2
      go_ret
      exact ⟨ret_bool HE.out.symm, box1 _ _⟩
  have HT : Hid (mayB s = (nameB s.host && nameB s.name)) := by
    rw [Hid, HM.out]
    have : tmB s = true := by simp [tmB]; omega
    simp [this]
  cases h5 : nameB s.host
  · have HE : Hid (mayB s = false) := by rw [Hid, HT.out, h5]; rfl
    rcases hkk with ⟨_, _⟩ | ⟨_, _, _, _⟩ | ⟨_, _, _, _, _, _⟩
    all_goals
      go_enter Try.func19, Try.ntmps19
      go_wp2_with (go_at_call 31; refine (refName_any _ _ HH.out).mono ?_; rintro e w' ⟨rfl, hb⟩)
      go_ret
      exact ⟨ret_bool HE.out.symm, bel2 (box1 _ _) hb⟩
  · have HE : Hid (mayB s = nameB s.name) := by rw [Hid, HT.out, h5]; rfl
    rcases hkk with ⟨_, _⟩ | ⟨_, _, _, _⟩ | ⟨_, _, _, _, _, _⟩
    all_goals
      go_enter Try.func19, Try.ntmps19
      go_wp2_with (first
        | (go_at_call_of 31 (Value.string s.host); refine (refName_any _ _ HH.out).mono ?_; rintro e w' ⟨rfl, hb⟩; have hA := (Box.new w s 42).below hb (by simp); obtain ⟨c0, c1, c2, c3, c4, c5, c6, c7⟩ := hA.all; clear hA; have HB1 := Lib.hid hb; clear hb)
        | (go_at_call_of 31 (Value.string s.name); refine (refName_any _ _ HN.out).mono ?_; rintro e w' ⟨rfl, hb2⟩))
      go_ret
      exact ⟨ret_bool HE.out.symm, bel2 (bel2 (box1 _ _) HB1.out) hb2⟩

theorem mayB_times {s : Sp} (h : mayB s = true) : 0 ≤ s.start ∧ s.start < 1125899906842624 ∧ 0 ≤ s.dur ∧ s.dur ≤ 1125899906842624 := by
  simp [mayB, tmB] at h; omega
theorem may_is {s : Sp} {b : Bool} (h : mayB s = b) (w : World) (hh : s.host.size ≤ maxLen) (hn : s.name.size ≤ maxLen) : Calls Try.prog 41 #[s.v] w fun e w' => e = .returned (.bool b) ∧ Below w.heap.size w w' := by
  subst h; exact may_any s w hh hn
theorem refMay_is {s : Sp} {b : Bool} (h : mayB s = b) (w : World) (hh : s.host.size ≤ maxLen) (hn : s.name.size ≤ maxLen) (hk : 0 ≤ s.kind) : Calls Try.prog 19 #[s.v] w fun e w' => e = .returned (.bool b) ∧ Below w.heap.size w w' := by
  subst h; exact refMay_any s w hh hn hk

end Go.Proofs.Yteaafjkgopmmdaa

