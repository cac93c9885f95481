import Derived.Test.YthdgmmippnebjaaC
namespace Go.Proofs.Ythdgmmippnebjaa
open Go.RowKit Go.Sort

theorem name_yes : nameB ⟨#[97, 46, 98, 45, 49, 95]⟩ = true := by decide +kernel
theorem name_no : nameB ⟨#[65]⟩ = false := by decide +kernel
def e5 : Sp := ⟨0, 0, 0, 0, ⟨#[]⟩, ⟨#[]⟩, 5, 0⟩
def e6 : Sp := ⟨0, 0, 0, 0, ⟨#[]⟩, ⟨#[]⟩, 6, 0⟩
theorem cmp_56 : cmpI e5 e6 = -1 := by decide +kernel

set_option maxHeartbeats 1000000 in
theorem fixed_any (w : World) : Calls Try.prog 7 #[] w fun e w' => e = .returned (.bool true) ∧ Below w.heap.size w w' := by
  go_enter Try.func7, Try.ntmps7
  go_wp2_with fail
  refine (name_any ⟨#[97, 46, 98, 45, 49, 95]⟩ _ (by decide)).mono ?_
  rw [name_yes]
  rintro e w' ⟨rfl, rfl⟩
  go_wp2_with fail
  refine (name_any ⟨#[65]⟩ _ (by decide)).mono ?_
  rw [name_no]
  rintro e w' ⟨rfl, rfl⟩
  go_wp2_with fail
  refine (cmp_any e5 e6 _).mono ?_
  rw [cmp_56]
  rintro e w' ⟨rfl, hb⟩
  go_wp2
  go_ret
  exact ⟨rfl, hb⟩

set_option maxHeartbeats 1000000 in
theorem law_names (s : ByteArray) (w : World) (hs : s.size ≤ maxLen) : Calls Try.prog 3 #[.string s] w fun e w' => e = .returned (.bool true) ∧ Below w.heap.size w w' := by
  have hs' := hs
  unfold maxLen at hs'
  have HS := Lib.hid hs; clear hs
  by_cases h : 100 < s.size
  · go_enter Try.func3, Try.ntmps3
    go_wp2_with (go_at_call 7; refine (fixed_any _).mono ?_; rintro e w' ⟨rfl, hb⟩)
    go_ret
    exact ⟨rfl, hb⟩
  · go_enter Try.func3, Try.ntmps3
    go_wp2_with (first
      | (go_at_call 7; refine (fixed_any _).mono ?_; rintro e w' ⟨rfl, hb⟩)
      | (go_at_call 8; refine (name_any _ _ HS.out).mono ?_; rintro e w' ⟨rfl, rfl⟩)
      | (go_at_call 9; refine (refName_any _ _ HS.out).mono ?_; rintro e w' ⟨rfl, hb2⟩))
    go_ret
    exact ⟨ret_bool (by simp), hb.trans (hb2.mono hb.size)⟩
end Go.Proofs.Ythdgmmippnebjaa
