import Derived.Test.YtlpalhlihckidaaWh
namespace Go.Proofs.Ytlpalhlihckidaa
open Go Go.RowKit

theorem great_is {L : List Sp} {b : Bool} (h : greatB L = b) (a : Option Addr) (c : Nat) (w : World) (hr : Rd w w.heap.size a (flatL L)) (hl : L.length ≤ maxLen) (ok : ∀ s ∈ L, s.Ok) :
    Calls Try.prog 7 #[.slice a L.length c] w fun e w' => e = .returned (.bool b) ∧ Below w.heap.size w w' := by
  subst h; exact great_any a c L w hr hl ok
theorem great_le {L : List Sp} (h : greatB L = false) : L.length ≤ 60 := by
  simp [greatB] at h; omega
theorem SpansOut.err {w w' : World} {r : Except Nat (List Sp)} {n : Nat} {e : Ending} (h : r = .error n) (hs : SpansOut w r e w') :
    ∃ a c, e = .returned (.tuple #[.slice a 0 c, .int .i64 (n : Int)]) ∧ Rd w' w'.heap.size a (flatL []) ∧ Below w.heap.size w w' := by
  subst h; obtain ⟨a, c, he, _, _, h3, h4⟩ := hs; exact ⟨a, c, he, h3, h4⟩
theorem SpansOut.fine {w w' : World} {r : Except Nat (List Sp)} {L : List Sp} {e : Ending} (h : r = .ok L) (hs : SpansOut w r e w') :
    ∃ a c, e = .returned (.tuple #[.slice a L.length c, .int .i64 0]) ∧ L.length ≤ c ∧ c ≤ maxLen ∧ Rd w' w'.heap.size a (flatL L) ∧ Below w.heap.size w w' := by
  subst h; exact hs
set_option maxHeartbeats 2000000 in
theorem law_puts (a : Option Addr) (c : Nat) (L : List Sp) (w : World) (hr : Rd w w.heap.size a (flatL L)) (hlc : L.length ≤ c) (hc : c ≤ maxLen) (ok : ∀ s ∈ L, s.Ok) :
    Calls Try.prog 3 #[.slice a L.length c] w fun e w' => e = .returned (.bool true) ∧ Below w.heap.size w w' := by
  have HR := Lib.hid hr; have OK := Lib.hid ok; have HC := Lib.hid hc; have HLM : Hid (L.length ≤ maxLen) := Nat.le_trans hlc hc
  clear hr ok hc
  cases hg : greatB L
  case true =>
    have HG := Lib.hid hg; clear hg
    go_enter Try.func3, Try.ntmps3
    go_wp2_with fail
    refine (great_is HG.out a c _ HR.out HLM.out OK.out).mono ?_; rintro e w1 ⟨rfl, hb1⟩
    go_wp2_with fail
    refine (fixed_any _).mono ?_; rintro e w2 ⟨rfl, hb2⟩
    go_wp2_with fail
    go_ret
    exact ⟨rfl, bel2 hb1 hb2⟩
  have hl60 := great_le hg
  have HG := Lib.hid hg; clear hg
  have HPS := Lib.hid (putStr_bs L)
  have HPL := Lib.hid (putB_le (L := L))
  cases hm : mayL L
  case false =>
    obtain ⟨p1, p2, p3⟩ := putB_no hm
    have HP2 := Lib.hid p2; clear hm p1 p2 p3
    go_enter Try.func3, Try.ntmps3
    go_wp2_with fail
    refine (great_is HG.out a c _ HR.out HLM.out OK.out).mono ?_; rintro e w1 ⟨rfl, hb1⟩
    have HR1 := Lib.hid ((HR.out.below hb1).more hb1.size)
    go_wp2_with fail
    refine (putW_any a c L w1 HR1.out hlc HC.out OK.out).mono ?_
    unfold PutOut
    rw [HP2.out]
    rintro e w2 ⟨a2, c2, rfl, hlc2, hcm2, hr2, hb2⟩
    have HR2 := Lib.hid ((HR1.out.below hb2).more hb2.size)
    have HB2 := Lib.hid hr2; have HBB := Lib.hid (bel2 hb1 hb2)
    clear hr2 hb1 hb2 hcm2
    go_wp2_with fail
    refine (refPutL_any a c L w2 HR2.out HLM.out OK.out).mono ?_
    rw [HP2.out]
    rintro e w3 ⟨rfl, hb3⟩
    have hcv := run_string_b (w := w3) (putB L).length c2 ((HB2.out.below hb3).more hb3.size) rfl
    rw [HPS.out] at hcv
    have HB3 := Lib.hid hb3; clear hb3
    go_wp2_with fail
    refine (fixed_any _).mono ?_; rintro e w4 ⟨rfl, hb4⟩
    go_wp2_with fail
    go_ret
    exact ⟨rfl, bel2 (bel2 HBB.out HB3.out) hb4⟩
  case true =>
    obtain ⟨p1, p2, p3⟩ := putB_yes hm
    have HGW : Hid (getW (putB L) = .ok L) := by show _ = _; rw [p1]; exact getW_batch hm OK.out
    have HP2 := Lib.hid p2; clear hm p1 p2 p3
    go_enter Try.func3, Try.ntmps3
    go_wp2_with fail
    refine (great_is HG.out a c _ HR.out HLM.out OK.out).mono ?_; rintro e w1 ⟨rfl, hb1⟩
    have HR1 := Lib.hid ((HR.out.below hb1).more hb1.size)
    go_wp2_with fail
    refine (putW_any a c L w1 HR1.out hlc HC.out OK.out).mono ?_
    unfold PutOut
    rw [HP2.out]
    rintro e w2 ⟨a2, c2, rfl, hlc2, hcm2, hr2, hb2⟩
    have HR2 := Lib.hid ((HR1.out.below hb2).more hb2.size)
    have HB2 := Lib.hid hr2; have HBB := Lib.hid (bel2 hb1 hb2); have HCM2 := Lib.hid hcm2
    clear hr2 hb1 hb2 hcm2
    go_wp2_with fail
    refine (refPutL_any a c L w2 HR2.out HLM.out OK.out).mono ?_
    rw [HP2.out]
    rintro e w3 ⟨rfl, hb3⟩
    have hcv := run_string_b (w := w3) (putB L).length c2 ((HB2.out.below hb3).more hb3.size) rfl
    rw [HPS.out] at hcv
    have HR3 := Lib.hid ((HR2.out.below hb3).more hb3.size)
    have HBX := Lib.hid ((HB2.out.below hb3).more hb3.size)
    have HB3 := Lib.hid (bel2 HBB.out hb3); clear hb3
    go_wp2_with fail
    refine (getW_any a2 c2 (putB L) w3 HBX.out (by have := HPL.out; omega) hlc2 HCM2.out).mono ?_
    intro e w4 hso; obtain ⟨a4, c4, rfl, hlc4, hcm4, hr4, hb4⟩ := SpansOut.fine HGW.out hso; clear hso
    have HR4 := Lib.hid ((HR3.out.below hb4).more hb4.size)
    have HX4 := Lib.hid hr4
    have HB4 := Lib.hid (bel2 HB3.out hb4)
    clear hcv hr4 hb4 hcm4
    go_wp2_with fail
    refine (fixed_any _).mono ?_; rintro e w5 ⟨rfl, hb5⟩
    have HR5 := Lib.hid ((HR4.out.below hb5).more hb5.size)
    have HX5 := Lib.hid ((HX4.out.below hb5).more hb5.size)
    have HB5 := Lib.hid (bel2 HB4.out hb5); clear hb5
    go_wp2_with fail
    refine (same_is _ _ _ _ _ _ L L true (by simp) rfl rfl _ HX5.out HR5.out HLM.out HLM.out).mono ?_; rintro e w6 ⟨rfl, hb6⟩
    go_wp2_with fail
    go_ret
    exact ⟨rfl, bel2 HB5.out hb6⟩
set_option maxHeartbeats 2000000 in
theorem law_gets (a : Option Addr) (c : Nat) (b : List UInt8) (w : World) (hr : Rd w w.heap.size a (bV b)) (hlc : b.length ≤ c) (hc : c ≤ maxLen) :
    Calls Try.prog 4 #[.slice a b.length c] w fun e w' => e = .returned (.bool true) ∧ Below w.heap.size w w' := by
  have HR := Lib.hid hr; have HC := Lib.hid hc; clear hr
  unfold maxLen at hc
  have hlm : b.length ≤ 9223372036854775807 := by omega
  by_cases hlong : 4000 < b.length
  · go_enter Try.func4, Try.ntmps4
    go_wp2_with (go_at_call 8; refine (fixed_any _).mono ?_; rintro e w' ⟨rfl, hb⟩)
    go_ret
    exact ⟨rfl, hb⟩
  have hl : b.length ≤ 1000000000000 := by omega
  have HBS := Lib.hid (bs_toList b)
  cases hw : getW b with
  | error n =>
    have hn : ((n : Int) != 0) = true := by have := getW_err hw; simp; omega
    have HW := Lib.hid hw; clear hw
    go_enter Try.func4, Try.ntmps4
    go_wp2_with fail
    refine (getW_any a c b _ HR.out hl hlc HC.out).mono ?_
    intro e w1 hso; obtain ⟨a1, c1, rfl, hr1, hb1⟩ := SpansOut.err HW.out hso; clear hso
    have HX1 := Lib.hid hr1
    have hcv := run_string_b (w := w1) b.length c ((HR.out.below hb1).more hb1.size) rfl
    have HB1 := Lib.hid hb1; clear hr1 hb1
    go_wp2_with fail
    refine (refGetL_any (bs b) b HBS.out _ hl).mono ?_
    intro e w2 hso; obtain ⟨a2, c2, rfl, hr2, hb2⟩ := SpansOut.err HW.out hso; clear hso
    have HX2 := Lib.hid hr2; have HX12 := Lib.hid ((HX1.out.below hb2).more hb2.size); have HB2 := Lib.hid (bel2 HB1.out hb2)
    clear hcv hr2 hb2
    go_wp2_with fail
    refine (same_is _ _ _ _ _ _ [] [] true (by simp) rfl rfl _ HX12.out HX2.out (by decide) (by decide)).mono ?_; rintro e w3 ⟨rfl, hb3⟩
    go_wp2_with fail
    refine (fixed_any _).mono ?_; rintro e w4 ⟨rfl, hb4⟩
    go_wp2_with fail
    go_ret
    exact ⟨rfl, bel2 (bel2 HB2.out hb3) hb4⟩
  | ok L =>
    obtain ⟨g1, g2, g3⟩ := getW_back hw
    obtain ⟨p1, p2, _⟩ := putB_yes g2
    have HPB : Hid (putB L = b) := by show _ = _; rw [p1, g1]
    have HP2 := Lib.hid p2
    have HW := Lib.hid hw; have OK := Lib.hid g3
    have hl32 := (mayL_iff.1 g2).2.1
    have HLM : Hid (L.length ≤ maxLen) := by show _ ≤ _; unfold maxLen; omega
    clear hw g1 g2 g3 p1 p2
    go_enter Try.func4, Try.ntmps4
    go_wp2_with fail
    refine (getW_any a c b _ HR.out hl hlc HC.out).mono ?_
    intro e w1 hso; obtain ⟨a1, c1, rfl, hlc1, hcm1, hr1, hb1⟩ := SpansOut.fine HW.out hso; clear hso
    have HX1 := Lib.hid hr1; have HCM1 := Lib.hid hcm1; have HLC1 := Lib.hid hlc1
    have HR1 := Lib.hid ((HR.out.below hb1).more hb1.size)
    have hcv := run_string_b (w := w1) b.length c HR1.out rfl
    have HB1 := Lib.hid hb1; clear hr1 hb1 hcm1 hlc1
    go_wp2_with fail
    refine (refGetL_any (bs b) b HBS.out _ hl).mono ?_
    intro e w2 hso; obtain ⟨a2, c2, rfl, _, _, hr2, hb2⟩ := SpansOut.fine HW.out hso; clear hso
    have HX2 := Lib.hid hr2; have HX12 := Lib.hid ((HX1.out.below hb2).more hb2.size); have HB2 := Lib.hid (bel2 HB1.out hb2); have HR2 := Lib.hid ((HR1.out.below hb2).more hb2.size)
    clear hcv hr2 hb2
    go_wp2_with fail
    refine (same_is _ _ _ _ _ _ L L true (by simp) rfl rfl _ HX12.out HX2.out HLM.out HLM.out).mono ?_; rintro e w3 ⟨rfl, hb3⟩
    have HX3 := Lib.hid ((HX12.out.below hb3).more hb3.size); have HB3 := Lib.hid (bel2 HB2.out hb3); have HR3 := Lib.hid ((HR2.out.below hb3).more hb3.size)
    clear hb3
    go_wp2_with fail
    refine (putW_any a1 c1 L w3 HX3.out HLC1.out HCM1.out OK.out).mono ?_
    unfold PutOut
    rw [HPB.out, HP2.out]
    rintro e w4 ⟨a4, c4, rfl, _, _, hr4, hb4⟩
    have HX4 := Lib.hid hr4; have HB4 := Lib.hid (bel2 HB3.out hb4); have HR4 := Lib.hid ((HR3.out.below hb4).more hb4.size)
    clear hr4 hb4
    go_wp2_with fail
    refine (fixed_any _).mono ?_; rintro e w5 ⟨rfl, hb5⟩
    have hcv1 := run_string_b (w := w5) b.length c ((HR4.out.below hb5).more hb5.size) rfl
    have hcv2 := run_string_b (w := w5) b.length c4 ((HX4.out.below hb5).more hb5.size) rfl
    have HB5 := Lib.hid (bel2 HB4.out hb5); clear hb5
    go_wp2_with fail
    go_ret
    exact ⟨ret_bool (by simp), HB5.out⟩
end Go.Proofs.Ytlpalhlihckidaa
