import Derived.Test.YtcckbpmhmlgjoaaCe
namespace Go.Proofs.Ytcckbpmhmlgjoaa
open Go Go.RowKit

theorem run_string_of {w : World} {a : Option Addr} {l : List UInt8} (n c : Nat) (h : Rd w w.heap.size a (bV l)) (hn : n = l.length) :
    (convert 22 9 (.slice a n c)).run Try.prog w = .ok (.string (bs l)) w :=
  run_string_rd w 22 9 5 Try.underlying22 Try.underlying5 Try.underlying9 n c h hn
set_option maxHeartbeats 1000000 in
theorem law_sums (a : Option Addr) (c : Nat) (l : List UInt8) (s : Nat) (w : World) (hr : Rd w w.heap.size a (bV l)) (hlc : l.length ≤ c) (hc : c ≤ maxLen) (hs : s < 4294967296) :
    Calls Try.prog 3 #[.slice a l.length c, .int .u32 (s : Int)] w fun e w' => e = .returned (.bool true) ∧ Below w.heap.size w w' := by
  have HR := Lib.hid hr; have HC := Lib.hid hc; clear hr hc
  have hlm : l.length ≤ 9223372036854775807 := by have := HC.out; unfold maxLen at this; omega
  by_cases hlong : 2000 < l.length
  · go_enter Try.func3, Try.ntmps3
    go_wp2_with (go_at_call 7; refine (fixed_any _).mono ?_; rintro e w' ⟨rfl, hb⟩)
    go_ret
    exact ⟨rfl, hb⟩
  have hl : l.length ≤ 1000000000000 := by omega
  have hcv := run_string_of (w := w) l.length c HR.out rfl
  have HBS : Hid ((bs l).data.toList = l) := bs_toList l
  have HSZ : Hid ((bs l).size ≤ 1000000000000) := by show _ ≤ _; rw [bs_size]; exact hl
  go_enter Try.func3, Try.ntmps3
  go_wp2_with fail
  clear hcv
  refine (fixed_any _).mono ?_; rintro e w1 ⟨rfl, hb1⟩
  have HR1 := Lib.hid ((HR.out.below hb1).more hb1.size)
  go_wp2_with fail
  refine (sum_any a c l w1 HR1.out hl).mono ?_; rintro e w2 ⟨rfl, hb2⟩
  have HR2 := Lib.hid ((HR1.out.below hb2).more hb2.size)
  go_wp2_with fail
  refine (refSum_any (bs l) w2 HSZ.out).mono ?_; rw [HBS.out]; rintro e w3 ⟨rfl, hb3⟩
  have HR3 := Lib.hid ((HR2.out.below hb3).more hb3.size)
  go_wp2_with fail
  refine (more_any s a c l w3 hs HR3.out hl).mono ?_; rintro e w4 ⟨rfl, hb4⟩
  have HR4 := Lib.hid ((HR3.out.below hb4).more hb4.size)
  go_wp2_with fail
  refine (refMore_any s (bs l) w4 hs HSZ.out).mono ?_; rw [HBS.out]; rintro e w5 ⟨rfl, hb5⟩
  have HR5 := Lib.hid ((HR4.out.below hb5).more hb5.size)
  have hcv := run_string_of (w := w5) l.length c HR5.out rfl
  go_wp2_with fail
  go_ret
  exact ⟨ret_bool (by simp), bel2 (bel2 (bel2 (bel2 hb1 hb2) hb3) hb4) hb5⟩
end Go.Proofs.Ytcckbpmhmlgjoaa
