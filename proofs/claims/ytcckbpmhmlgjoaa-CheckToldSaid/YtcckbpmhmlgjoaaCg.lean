import Derived.Test.YtcckbpmhmlgjoaaCf
import Derived.Deep.RegionHeldLaw
namespace Go.Proofs.Ytcckbpmhmlgjoaa
open Go Go.RowKit

/-- The bytes from the k-th on, whichever way their place is told. -/
theorem Rd.from {w : World} {B : Nat} {a : Option Addr} {l : List UInt8} (h : Rd w B a (bV l)) (k : Nat) :
    Rd w B (a.map (·.add k)) (bV (l.drop k)) := by
  by_cases hk : k < l.length
  · obtain ⟨b, off, rfl, _⟩ := h (by rw [bV_length]; omega)
    rw [bV_drop, Option.map_some, add_at]
    exact h.drop k
  · rw [List.drop_of_length_le (by omega)]; exact Rd.nil _ _ _
theorem Rd.at_end {w : World} {B : Nat} {l : List UInt8} {k : Nat} (hk : l.length ≤ k) (a' : Option Addr) : Rd w B a' (bV (l.drop k)) := by
  rw [List.drop_of_length_le hk]; exact Rd.nil _ _ _
theorem sum_is (a : Option Addr) (n c : Nat) (l : List UInt8) (w : World) (hn : n = l.length) (S : Nat) (hS : S = moreL 0 l) (hr : Rd w w.heap.size a (bV l)) (hl : l.length ≤ 1000000000000) :
    Calls Try.prog 8 #[.slice a n c] w fun e w' => e = .returned (.int .u32 (S : Nat)) ∧ Below w.heap.size w w' := by
  subst hn hS; exact sum_any a c l w hr hl
theorem more_is (s : Nat) (a : Option Addr) (n c : Nat) (l : List UInt8) (w : World) (hn : n = l.length) (S : Nat) (hS : moreL s l = S) (hs : s < 4294967296) (hr : Rd w w.heap.size a (bV l)) (hl : l.length ≤ 1000000000000) :
    Calls Try.prog 10 #[.int .u32 (s : Int), .slice a n c] w fun e w' => e = .returned (.int .u32 (S : Nat)) ∧ Below w.heap.size w w' := by
  subst hn hS; exact more_any s a c l w hs hr hl
set_option maxHeartbeats 2000000 in
theorem law_parts (a : Option Addr) (c : Nat) (l : List UInt8) (p : Nat) (w : World) (hr : Rd w w.heap.size a (bV l)) (hlc : l.length ≤ c) (hc : c ≤ maxLen) (hp : p < 65536) :
    Calls Try.prog 4 #[.slice a l.length c, .int .u16 (p : Int)] w fun e w' => e = .returned (.bool true) ∧ Below w.heap.size w w' := by
  have HR := Lib.hid hr; clear hr
  unfold maxLen at hc
  have hlm : l.length ≤ 9223372036854775807 := by omega
  by_cases hlong : 2000 < l.length
  · go_enter Try.func4, Try.ntmps4
    go_wp2_with (go_at_call 7; refine (fixed_any _).mono ?_; rintro e w' ⟨rfl, hb⟩)
    go_ret
    exact ⟨rfl, hb⟩
  have hl : l.length ≤ 1000000000000 := by omega
  have hw : IntKind.i64.wrap (p : Int) = (p : Int) := IntWalk.i64_in _ ⟨by omega, by omega⟩
  by_cases hlp : l.length < p
  · have hkl : (l.length) ≤ l.length := by omega
    have i1 : (0 : Int) ≤ ((l.length : Nat) : Int) := by omega
    have i2 : ((l.length : Nat) : Int) ≤ (c : Int) := by omega
    have i3 : ((l.length : Nat) : Int) ≤ (l.length : Int) := by omega
    obtain ⟨S0, hS0⟩ : ∃ S0, S0 = moreL 0 l := ⟨_, rfl⟩
    have HS0 := Lib.hid hS0
    have HS : Hid (moreL S0 [] = S0) := by show _ = _; rw [hS0, moreL_parts, List.append_nil]
    have HLT : Hid (S0 < 4294967296) := by show _ < _; rw [hS0]; exact moreL_lt _ _
    clear hS0
    go_enter Try.func4, Try.ntmps4
    go_wp2_with fail
    refine wp_region_quiet_below (by kernel_rfl) (by kernel_rfl) ?_
    iterate 15 (first | go_big_quiet_step (first
      | (go_at_call 7; exact Calls.regrown_of (fixed_any _))
      | (go_at_call 8; with_reducible (show Calls Try.prog 8 #[.slice a l.length _] _ _); exact Calls.regrown_of (sum_is a _ _ l _ rfl S0 HS0.out ((HR.out.below (below_regrown w _ _)).more (below_regrown w _ _).size) hl))
      | (go_at_call 10; exact Calls.regrown_of (more_is S0 _ _ _ [] _ rfl S0 HS.out HLT.out (Rd.nil _ _ _) (by simp)))) | fail)
    refine wpQuiet_nil ?_
    intro W3 hw'
    obtain ⟨⟨d, os⟩, hw''⟩ := hw'
    have hb3 := below_regrown w d os
    rw [← hw''] at hb3
    clear hw''
    go_wp2_with fail
    all_goals (go_ret; exact ⟨ret_bool (by simp), hb3⟩)
  · have hkl : (p) ≤ l.length := by omega
    have i1 : (0 : Int) ≤ ((p : Nat) : Int) := by omega
    have i2 : ((p : Nat) : Int) ≤ (c : Int) := by omega
    have i3 : ((p : Nat) : Int) ≤ (l.length : Int) := by omega
    by_cases hck : c = p
    · have HRT : Hid (Rd w w.heap.size a (bV (l.take (p)))) := by show Rd _ _ _ _; rw [bV_take]; exact HR.out.take _
      have HRF := Lib.hid (HR.out.from (p))
      have HTL : Hid ((p) = (l.take (p)).length) := by show _ = _; rw [List.length_take]; omega
      have HDL : Hid (l.length - (p) = (l.drop (p)).length) := by show _ = _; rw [List.length_drop]
      have HS : Hid (moreL (moreL 0 (l.take (p))) (l.drop (p)) = moreL 0 l) := by show _ = _; rw [moreL_parts, List.take_append_drop]
      obtain ⟨S1, hS1⟩ : ∃ S1, S1 = moreL 0 (l.take (p)) := ⟨_, rfl⟩
      have HS1 := Lib.hid hS1
      have HLT : Hid (S1 < 4294967296) := by show _ < _; rw [hS1]; exact moreL_lt _ _
      obtain ⟨S0, hS0⟩ : ∃ S0, S0 = moreL 0 l := ⟨_, rfl⟩
      have HS0 := Lib.hid hS0
      rw [← hS0, ← hS1] at HS
      clear hS0 hS1
      go_enter Try.func4, Try.ntmps4
      go_wp2_with fail
      refine wp_region_quiet_below (by kernel_rfl) (by kernel_rfl) ?_
      iterate 15 (first | go_big_quiet_step (first
        | (go_at_call 7; exact Calls.regrown_of (fixed_any _))
        | (go_at_call 8; with_reducible (show Calls Try.prog 8 #[.slice a l.length _] _ _); exact Calls.regrown_of (sum_is a _ _ l _ rfl S0 HS0.out ((HR.out.below (below_regrown w _ _)).more (below_regrown w _ _).size) hl))
        | (go_at_call 8; with_reducible (show Calls Try.prog 8 #[.slice a p _] _ _); exact Calls.regrown_of (sum_is a _ _ (l.take (p)) _ HTL.out S1 HS1.out ((HRT.out.below (below_regrown w _ _)).more (below_regrown w _ _).size) (by rw [List.length_take]; omega)))
        | (go_at_call 10; exact Calls.regrown_of (more_is S1 _ _ _ (l.drop (p)) _ HDL.out S0 HS.out HLT.out ((Rd.below (w := w) (B := w.heap.size) (Rd.at_end (by omega) a) (below_regrown w _ _)).more (below_regrown w _ _).size) (by rw [List.length_drop]; omega)))) | fail)
      refine wpQuiet_nil ?_
      intro W3 hw'
      obtain ⟨⟨d, os⟩, hw''⟩ := hw'
      have hb3 := below_regrown w d os
      rw [← hw''] at hb3
      clear hw''
      go_wp2_with fail
      all_goals (go_ret; exact ⟨ret_bool (by simp), hb3⟩)
    · have HRT : Hid (Rd w w.heap.size a (bV (l.take (p)))) := by show Rd _ _ _ _; rw [bV_take]; exact HR.out.take _
      have HRF := Lib.hid (HR.out.from (p))
      have HTL : Hid ((p) = (l.take (p)).length) := by show _ = _; rw [List.length_take]; omega
      have HDL : Hid (l.length - (p) = (l.drop (p)).length) := by show _ = _; rw [List.length_drop]
      have HS : Hid (moreL (moreL 0 (l.take (p))) (l.drop (p)) = moreL 0 l) := by show _ = _; rw [moreL_parts, List.take_append_drop]
      obtain ⟨S1, hS1⟩ : ∃ S1, S1 = moreL 0 (l.take (p)) := ⟨_, rfl⟩
      have HS1 := Lib.hid hS1
      have HLT : Hid (S1 < 4294967296) := by show _ < _; rw [hS1]; exact moreL_lt _ _
      obtain ⟨S0, hS0⟩ : ∃ S0, S0 = moreL 0 l := ⟨_, rfl⟩
      have HS0 := Lib.hid hS0
      rw [← hS0, ← hS1] at HS
      clear hS0 hS1
      go_enter Try.func4, Try.ntmps4
      go_wp2_with fail
      refine wp_region_quiet_below (by kernel_rfl) (by kernel_rfl) ?_
      iterate 15 (first | go_big_quiet_step (first
        | (go_at_call 7; exact Calls.regrown_of (fixed_any _))
        | (go_at_call 8; with_reducible (show Calls Try.prog 8 #[.slice a l.length _] _ _); exact Calls.regrown_of (sum_is a _ _ l _ rfl S0 HS0.out ((HR.out.below (below_regrown w _ _)).more (below_regrown w _ _).size) hl))
        | (go_at_call 8; with_reducible (show Calls Try.prog 8 #[.slice a p _] _ _); exact Calls.regrown_of (sum_is a _ _ (l.take (p)) _ HTL.out S1 HS1.out ((HRT.out.below (below_regrown w _ _)).more (below_regrown w _ _).size) (by rw [List.length_take]; omega)))
        | (go_at_call 10; exact Calls.regrown_of (more_is S1 _ _ _ (l.drop (p)) _ HDL.out S0 HS.out HLT.out ((Rd.below (w := w) (B := w.heap.size) (HRF.out) (below_regrown w _ _)).more (below_regrown w _ _).size) (by rw [List.length_drop]; omega)))) | fail)
      refine wpQuiet_nil ?_
      intro W3 hw'
      obtain ⟨⟨d, os⟩, hw''⟩ := hw'
      have hb3 := below_regrown w d os
      rw [← hw''] at hb3
      clear hw''
      go_wp2_with fail
      all_goals (go_ret; exact ⟨ret_bool (by simp), hb3⟩)
end Go.Proofs.Ytcckbpmhmlgjoaa
