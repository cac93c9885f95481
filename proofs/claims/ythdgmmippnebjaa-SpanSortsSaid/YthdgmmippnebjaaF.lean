import Derived.Test.YthdgmmippnebjaaE
import Derived.Test.YthdgmmippnebjaaO
namespace Go.Proofs.Ythdgmmippnebjaa
open Go.RowKit Go.Sort

set_option maxHeartbeats 2000000 in
theorem refMay_any (s : Sp) (w : World) (hh : s.host.size ≤ maxLen) (hn : s.name.size ≤ maxLen) (hk : 0 ≤ s.kind) : Calls Try.prog 13 #[s.v] w fun e w' => e = .returned (.bool (mayB s)) ∧ Below w.heap.size w w' := by
  unfold Sp.v
  have HH := Lib.hid hh; have HN := Lib.hid hn; clear hh hn
  cases h1 : (s.trace == 0)
  case true =>
    have HE : Hid (mayB s = false) := by show _ = _; simp [mayB, nmB, h1]
    go_enter Try.func13, Try.ntmps13
    go_wp2
    go_ret
    exact ⟨ret_bool HE.out.symm, box1 _ _⟩
  cases h2 : (s.id == 0)
  case true =>
    have HE : Hid (mayB s = false) := by show _ = _; simp [mayB, nmB, h2]
    go_enter Try.func13, Try.ntmps13
    go_wp2
    go_ret
    exact ⟨ret_bool HE.out.symm, box1 _ _⟩
  cases h3 : (s.parent == s.id)
  case true =>
    have HE : Hid (mayB s = false) := by show _ = _; simp [mayB, nmB, h3]
    go_enter Try.func13, Try.ntmps13
    go_wp2
    go_ret
    exact ⟨ret_bool HE.out.symm, box1 _ _⟩
  by_cases h4 : 2 < s.kind
  · have HE : Hid (mayB s = false) := by
      show _ = _
      have : ¬ s.kind ≤ 2 := by omega
      simp [mayB, nmB, this]
    have k0 : (s.kind == 0) = false := by simp; omega
    have k1 : (s.kind == 1) = false := by simp; omega
    have k2 : (s.kind == 2) = false := by simp; omega
    have k0' : (s.kind != 0) = true := by simp; omega
    have k1' : (s.kind != 1) = true := by simp; omega
    have k2' : (s.kind != 2) = true := by simp; omega
    go_enter Try.func13, Try.ntmps13
    go_wp2
    go_ret
    exact ⟨ret_bool HE.out.symm, box1 _ _⟩
  have HM : Hid (mayB s = (tmB s && nameB s.host && nameB s.name)) := by
    show _ = _
    have : s.kind ≤ 2 := by omega
    simp [mayB, nmB, h1, h2, h3, this]
  have hkk : s.kind = 0 ∨ s.kind = 1 ∨ s.kind = 2 := by omega
  clear hk h4
  have hkk : ((s.kind == 0) = true ∧ (s.kind != 0) = false) ∨ ((s.kind == 0) = false ∧ (s.kind != 0) = true ∧ (s.kind == 1) = true ∧ (s.kind != 1) = false) ∨ ((s.kind == 0) = false ∧ (s.kind != 0) = true ∧ (s.kind == 1) = false ∧ (s.kind != 1) = true ∧ (s.kind == 2) = true ∧ (s.kind != 2) = false) := by
    rcases hkk with h | h | h <;> simp [h]
  by_cases t1 : s.start < 0
  · have HE : Hid (mayB s = false) := by
      rw [Hid, HM.out]
      have : tmB s = false := by simp [tmB]; omega
      simp [this]
    rcases hkk with ⟨_, _⟩ | ⟨_, _, _, _⟩ | ⟨_, _, _, _, _, _⟩
    all_goals
      go_enter Try.func13, Try.ntmps13
      go_wp2
      go_ret
      exact ⟨ret_bool HE.out.symm, box1 _ _⟩
  by_cases t2 : 1125899906842623 < s.start
  · have HE : Hid (mayB s = false) := by
      rw [Hid, HM.out]
      have : tmB s = false := by simp [tmB]; omega
      simp [this]
    rcases hkk with ⟨_, _⟩ | ⟨_, _, _, _⟩ | ⟨_, _, _, _, _, _⟩
    all_goals
      go_enter Try.func13, Try.ntmps13
      go_wp2
      go_ret
      exact ⟨ret_bool HE.out.symm, box1 _ _⟩
  by_cases t3 : s.dur < 0
  · have HE : Hid (mayB s = false) := by
      rw [Hid, HM.out]
      have : tmB s = false := by simp [tmB]; omega
      simp [this]
    rcases hkk with ⟨_, _⟩ | ⟨_, _, _, _⟩ | ⟨_, _, _, _, _, _⟩
    all_goals
      go_enter Try.func13, Try.ntmps13
      go_wp2
      go_ret
      exact ⟨ret_bool HE.out.symm, box1 _ _⟩
  by_cases t4 : 1125899906842624 < s.dur
  · have HE : Hid (mayB s = false) := by
      rw [Hid, HM.out]
      have : tmB s = false := by simp [tmB]; omega
      simp [this]
    rcases hkk with ⟨_, _⟩ | ⟨_, _, _, _⟩ | ⟨_, _, _, _, _, _⟩
    all_goals
      go_enter Try.func13, Try.ntmps13
      go_wp2
      go_ret
      exact ⟨ret_bool HE.out.symm, box1 _ _⟩
  have HT : Hid (mayB s = (nameB s.host && nameB s.name)) := by
    rw [Hid, HM.out]
    have : tmB s = true := by simp [tmB]; omega
    simp [this]
  cases h5 : nameB s.host
  · have HE : Hid (mayB s = false) := by rw [Hid, HT.out, h5]; rfl
    rcases hkk with ⟨_, _⟩ | ⟨_, _, _, _⟩ | ⟨_, _, _, _, _, _⟩
    all_goals
      go_enter Try.func13, Try.ntmps13
      go_wp2_with (go_at_call 9; refine (refName_any _ _ HH.out).mono ?_; rintro e w' ⟨rfl, hb⟩)
      go_ret
      exact ⟨ret_bool HE.out.symm, bel2 (box1 _ _) hb⟩
  · have HE : Hid (mayB s = nameB s.name) := by rw [Hid, HT.out, h5]; rfl
    rcases hkk with ⟨_, _⟩ | ⟨_, _, _, _⟩ | ⟨_, _, _, _, _, _⟩
    all_goals
      go_enter Try.func13, Try.ntmps13
      go_wp2_with (first
        | (go_at_call_of 9 (Value.string s.host); refine (refName_any _ _ HH.out).mono ?_; rintro e w' ⟨rfl, hb⟩; have hA := (Box.new w s 26).below hb (by simp); obtain ⟨c0, c1, c2, c3, c4, c5, c6, c7⟩ := hA.all; clear hA; have HB1 := Lib.hid hb; clear hb)
        | (go_at_call_of 9 (Value.string s.name); refine (refName_any _ _ HN.out).mono ?_; rintro e w' ⟨rfl, hb2⟩))
      go_ret
      exact ⟨ret_bool HE.out.symm, bel2 (bel2 (box1 _ _) HB1.out) hb2⟩

set_option maxHeartbeats 1000000 in
theorem end_any (s : Sp) (w : World) (ok : s.Ok) : Calls Try.prog 11 #[s.v] w fun e w' => e = .returned (.tuple #[.int .i64 (if mayB s then s.start + s.dur else 0), .bool (mayB s)]) ∧ Below w.heap.size w w' := by
  have OK := Lib.hid ok
  cases hm : mayB s
  · unfold Sp.v
    have HM := Lib.hid hm; clear hm
    clear ok
    go_enter Try.func11, Try.ntmps11
    go_wp2_with (go_at_call 12; refine (may_any s _ OK.out.host OK.out.name).mono ?_; rw [HM.out]; rintro e w' ⟨rfl, hb⟩)
    go_ret2
    exact ⟨rfl, bel2 (box1 _ _) hb⟩
  · have ht : 0 ≤ s.start ∧ s.start < 1125899906842624 ∧ 0 ≤ s.dur ∧ s.dur ≤ 1125899906842624 := by
      simp [mayB, tmB] at hm; omega
    obtain ⟨t1, t2, t3, t4⟩ := ht
    unfold Sp.v
    have HM := Lib.hid hm; clear hm
    clear ok
    go_enter Try.func11, Try.ntmps11
    go_wp2_with (go_at_call 12; refine (may_any s _ OK.out.host OK.out.name).mono ?_; rw [HM.out]; rintro e w' ⟨rfl, hb⟩; have hA := (Box.new w s 26).below hb (by simp); obtain ⟨c0, c1, c2, c3, c4, c5, c6, c7⟩ := hA.all; clear hA; have HB1 := Lib.hid hb; clear hb)
    go_ret2
    exact ⟨rfl, bel2 (box1 _ _) HB1.out⟩

def longB (s : Sp) : Bool := decide (100 < s.host.size) || decide (100 < s.name.size)
set_option maxHeartbeats 1000000 in
theorem long_any (s : Sp) (w : World) (hh : s.host.size ≤ maxLen) (hn : s.name.size ≤ maxLen) : Calls Try.prog 10 #[s.v] w fun e w' => e = .returned (.bool (longB s)) ∧ Below w.heap.size w w' := by
  unfold maxLen at hh hn
  unfold Sp.v
  by_cases h1 : 100 < s.host.size
  · have HE : Hid (longB s = true) := by show _ = _; simp [longB, h1]
    go_enter Try.func10, Try.ntmps10
    go_wp2
    go_ret
    exact ⟨ret_bool HE.out.symm, box1 _ _⟩
  · by_cases h2 : 100 < s.name.size
    · have HE : Hid (longB s = true) := by show _ = _; simp [longB, h2]
      go_enter Try.func10, Try.ntmps10
      go_wp2
      go_ret
      exact ⟨ret_bool (by rw [HE.out]; simp; omega), box1 _ _⟩
    · have HE : Hid (longB s = false) := by show _ = _; simp [longB]; omega
      go_enter Try.func10, Try.ntmps10
      go_wp2
      go_ret
      exact ⟨ret_bool (by rw [HE.out]; simp; omega), box1 _ _⟩
end Go.Proofs.Ythdgmmippnebjaa
