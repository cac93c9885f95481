import Derived.Test.YthdgmmippnebjaaD
import Derived.Deep.RegionWith
namespace Go.Proofs.Ythdgmmippnebjaa
open Go.RowKit Go.Sort

def nmB (s : Sp) : Bool := !(s.trace == 0) && !(s.id == 0) && !(s.parent == s.id) && decide (s.kind ≤ 2)
def tmB (s : Sp) : Bool := decide (0 ≤ s.start) && decide (s.start < 1125899906842624) && decide (0 ≤ s.dur) && decide (s.dur ≤ 1125899906842624)
def mayB (s : Sp) : Bool := nmB s && tmB s && nameB s.host && nameB s.name
theorem box1 (w : World) (o : Obj) : Below w.heap.size w (w.alloc o) := (Below.refl _ _).alloc (Nat.le_refl _) _

set_option maxHeartbeats 1000000 in
theorem numbersMay_any (s : Sp) (w : World) : Calls Try.prog 20 #[s.v] w fun e w' => e = .returned (.bool (nmB s)) ∧ Below w.heap.size w w' := by
  unfold Sp.v
  by_cases h1 : s.trace = 0
  · go_enter Try.func20, Try.ntmps20
    go_wp2
    go_ret
    exact ⟨ret_bool (by simp [nmB, h1]), box1 _ _⟩
  by_cases h2 : s.id = 0
  · go_enter Try.func20, Try.ntmps20
    go_wp2
    go_ret
    exact ⟨ret_bool (by simp [nmB, h2]), box1 _ _⟩
  by_cases h3 : s.parent = s.id
  · go_enter Try.func20, Try.ntmps20
    go_wp2
    go_ret
    exact ⟨ret_bool (by simp [nmB, h3]), box1 _ _⟩
  have e3 : (s.parent == s.id) = false := by simpa using h3
  go_enter Try.func20, Try.ntmps20
  go_wp2
  go_ret
  exact ⟨ret_bool (by simp [nmB, bne]), box1 _ _⟩
set_option maxHeartbeats 1000000 in
theorem timesMay_any (s : Sp) (w : World) : Calls Try.prog 21 #[s.v] w fun e w' => e = .returned (.bool (tmB s)) ∧ Below w.heap.size w w' := by
  unfold Sp.v
  by_cases h1 : 0 ≤ s.start
  case neg =>
    go_enter Try.func21, Try.ntmps21
    go_wp2
    go_ret
    exact ⟨ret_bool (by simp [tmB]; omega), box1 _ _⟩
  by_cases h2 : s.start < 1125899906842624
  case neg =>
    go_enter Try.func21, Try.ntmps21
    go_wp2
    go_ret
    exact ⟨ret_bool (by simp [tmB]; omega), box1 _ _⟩
  by_cases h3 : 0 ≤ s.dur
  case neg =>
    go_enter Try.func21, Try.ntmps21
    go_wp2
    go_ret
    exact ⟨ret_bool (by simp [tmB]; omega), box1 _ _⟩
  go_enter Try.func21, Try.ntmps21
  go_wp2
  go_ret
  exact ⟨ret_bool (by simp [tmB, h1, h2, h3]), box1 _ _⟩

theorem bel2 {w w0 w1 : World} (h : Below w.heap.size w w0) (h1 : Below w0.heap.size w0 w1) : Below w.heap.size w w1 := h.trans (h1.mono h.size)

set_option maxHeartbeats 1000000 in
theorem may_any (s : Sp) (w : World) (hh : s.host.size ≤ maxLen) (hn : s.name.size ≤ maxLen) : Calls Try.prog 12 #[s.v] w fun e w' => e = .returned (.bool (mayB s)) ∧ Below w.heap.size w w' := by
  unfold Sp.v
  have HH := Lib.hid hh; have HN := Lib.hid hn; clear hh hn
  have HB := Lib.hid (box1 w (.cells s.c 26))
  cases h1 : nmB s
  · have HE : Hid (mayB s = false) := by show _ = _; simp [mayB, h1]
    go_enter Try.func12, Try.ntmps12
    go_wp2_with (go_at_call 20; refine (numbersMay_any s _).mono ?_; rintro e w' ⟨rfl, hb⟩)
    go_ret
    exact ⟨ret_bool HE.out.symm, bel2 HB.out hb⟩
  cases h2 : tmB s
  · have HE : Hid (mayB s = false) := by show _ = _; simp [mayB, h2]
    go_enter Try.func12, Try.ntmps12
    go_wp2_with (first
      | (go_at_call 20; refine (numbersMay_any s _).mono ?_; rintro e w' ⟨rfl, hb⟩; have hA := (Box.new w s 26).below hb (by simp); obtain ⟨c0, c1, c2, c3, c4, c5, c6, c7⟩ := hA.all; have HA := Lib.hid hA; clear hA; have HB1 := Lib.hid hb; clear hb)
      | (go_at_call 21; refine (timesMay_any s _).mono ?_; rintro e w' ⟨rfl, hb2⟩))
    go_ret
    exact ⟨ret_bool HE.out.symm, bel2 (bel2 HB.out HB1.out) hb2⟩
  cases h3 : nameB s.host
  · have HE : Hid (mayB s = false) := by show _ = _; simp [mayB, h3]
    go_enter Try.func12, Try.ntmps12
    go_wp2_with (first
      | (go_at_call 20; refine (numbersMay_any s _).mono ?_; rintro e w' ⟨rfl, hb⟩; have hA := (Box.new w s 26).below hb (by simp); obtain ⟨c0, c1, c2, c3, c4, c5, c6, c7⟩ := hA.all; have HA := Lib.hid hA; clear hA; have HB1 := Lib.hid hb; clear hb)
      | (go_at_call 21; refine (timesMay_any s _).mono ?_; rintro e w' ⟨rfl, hb2⟩; clear c0 c1 c2 c3 c4 c5 c6 c7; have hA := HA.out.below hb2 HA.out.1; obtain ⟨_, _, _, _, c4, c5, _, _⟩ := hA.all; clear hA)
      | (go_at_call 8; refine (name_any _ _ HH.out).mono ?_; rintro e w' ⟨rfl, rfl⟩))
    go_ret
    exact ⟨ret_bool HE.out.symm, bel2 (bel2 HB.out HB1.out) hb2⟩
  have HE : Hid (mayB s = nameB s.name) := by show _ = _; simp [mayB, h1, h2, h3]
  go_enter Try.func12, Try.ntmps12
  go_wp2_with (first
      | (go_at_call 20; refine (numbersMay_any s _).mono ?_; rintro e w' ⟨rfl, hb⟩; have hA := (Box.new w s 26).below hb (by simp); obtain ⟨c0, c1, c2, c3, c4, c5, c6, c7⟩ := hA.all; have HA := Lib.hid hA; clear hA; have HB1 := Lib.hid hb; clear hb)
      | (go_at_call 21; refine (timesMay_any s _).mono ?_; rintro e w' ⟨rfl, hb2⟩; clear c0 c1 c2 c3 c4 c5 c6 c7; have hA := HA.out.below hb2 HA.out.1; obtain ⟨_, _, _, _, c4, c5, _, _⟩ := hA.all; clear hA)
      | (go_at_call_of 8 (Value.string s.host); refine (name_any _ _ HH.out).mono ?_; rintro e w' ⟨rfl, rfl⟩)
      | (go_at_call_of 8 (Value.string s.name); refine (name_any _ _ HN.out).mono ?_; rintro e w' ⟨rfl, rfl⟩))
  go_ret
  exact ⟨ret_bool HE.out.symm, bel2 (bel2 HB.out HB1.out) hb2⟩
end Go.Proofs.Ythdgmmippnebjaa
