import Derived.Test.YtlpalhlihckidaaWi
namespace Go.Proofs.Ytlpalhlihckidaa
open Go Go.RowKit

theorem getW_is (a : Option Addr) (n c : Nat) (b : List UInt8) (hn : n = b.length) (w : World) (hr : Rd w w.heap.size a (bV b)) (hl : b.length ≤ 1000000000000) (hlc : n ≤ c) (hc : c ≤ maxLen) :
    Calls Try.prog 11 #[.slice a n c] w (SpansOut w (getW b)) := by
  subst hn; exact getW_any a c b w hr hl hlc hc
theorem info_b : (Try.prog.info? 5).map (fun i => (i.zero, i.size, i.bytes)) = some (some (.int .u8 0), 1, 1) := by kernel_rfl
set_option maxHeartbeats 4000000 in
theorem law_cuts (a : Option Addr) (c : Nat) (L : List Sp) (p : Nat) (am : Option Addr) (cm : Nat) (more : List UInt8) (w : World) (hr : Rd w w.heap.size a (flatL L)) (hlc : L.length ≤ c) (hc : c ≤ maxLen) (ok : ∀ s ∈ L, s.Ok) (hp : p < 65536)
    (hrm : Rd w w.heap.size am (bV more)) (hmc : more.length ≤ cm) (hcm : cm ≤ maxLen) :
    Calls Try.prog 5 #[.slice a L.length c, .int .u16 (p : Int), .slice am more.length cm] w fun e w' => e = .returned (.bool true) ∧ Below w.heap.size w w' := by
  have HR := Lib.hid hr; have OK := Lib.hid ok; have HC := Lib.hid hc; have HLM : Hid (L.length ≤ maxLen) := Nat.le_trans hlc hc
  have HRM := Lib.hid hrm
  clear hr ok hc hrm
  unfold maxLen at hcm
  have hml : more.length ≤ 9223372036854775807 := by omega
  cases hg : greatB L
  case true =>
    have HG := Lib.hid hg; clear hg
    go_enter Try.func5, Try.ntmps5
    go_wp2_with fail
    refine (great_is HG.out a c _ HR.out HLM.out OK.out).mono ?_; rintro e w1 ⟨rfl, hb1⟩
    go_wp2_with fail
    refine (fixed_any _).mono ?_; rintro e w2 ⟨rfl, hb2⟩
    go_wp2_with fail
    go_ret
    exact ⟨rfl, bel2 hb1 hb2⟩
  have hl60 := great_le hg
  have HG := Lib.hid hg; clear hg
  by_cases hm100 : 100 < more.length
  · go_enter Try.func5, Try.ntmps5
    go_wp2_with fail
    refine (great_is HG.out a c _ HR.out HLM.out OK.out).mono ?_; rintro e w1 ⟨rfl, hb1⟩
    go_wp2_with fail
    refine (fixed_any _).mono ?_; rintro e w2 ⟨rfl, hb2⟩
    go_wp2_with fail
    go_ret
    exact ⟨rfl, bel2 hb1 hb2⟩
  by_cases hm0 : more.length = 0
  · have hm0' : ((more.length : Int) == 0) = true := by simp [hm0]
    go_enter Try.func5, Try.ntmps5
    go_wp2_with fail
    refine (great_is HG.out a c _ HR.out HLM.out OK.out).mono ?_; rintro e w1 ⟨rfl, hb1⟩
    go_wp2_with fail
    refine (fixed_any _).mono ?_; rintro e w2 ⟨rfl, hb2⟩
    go_wp2_with fail
    go_ret
    exact ⟨rfl, bel2 hb1 hb2⟩
  have hm0' : ((more.length : Int) == 0) = false := beq_eq_false_iff_ne.2 (by omega)
  have hm100' : ¬ (100 < (more.length : Int)) := by omega
  cases hm : mayL L
  case false =>
    obtain ⟨p1, p2, _⟩ := putB_no hm
    have HP1 := Lib.hid p1; have HP2 := Lib.hid p2; clear hm p1 p2
    go_enter Try.func5, Try.ntmps5
    go_wp2_with fail
    refine (great_is HG.out a c _ HR.out HLM.out OK.out).mono ?_; rintro e w1 ⟨rfl, hb1⟩
    have HR1 := Lib.hid ((HR.out.below hb1).more hb1.size)
    go_wp2_with fail
    refine (putW_any a c L w1 HR1.out hlc HC.out OK.out).mono ?_
    unfold PutOut
    rw [HP1.out, HP2.out]
    rintro e w2 ⟨a2, c2, rfl, _, _, _, hb2⟩
    go_wp2_with fail
    refine (fixed_any _).mono ?_; rintro e w3 ⟨rfl, hb3⟩
    go_wp2_with fail
    go_ret
    exact ⟨rfl, bel2 (bel2 hb1 hb2) hb3⟩
  case true =>
    obtain ⟨p1, p2, _⟩ := putB_yes hm
    have hbl := batchL_length hm
    have hm1 := (mayL_iff.1 hm).2.1
    have HP1 := Lib.hid p1; have HP2 := Lib.hid p2; have HM := Lib.hid hm; clear hm p1 p2
    have HCUT := Lib.hid (fun (k : Nat) h => getW_cut HM.out (m := k) h)
    have HMORE := Lib.hid (getW_more HM.out (more := more) (by intro e; apply hm0; rw [e]; rfl))
    obtain ⟨B, hB⟩ : ∃ B, B = batchL L := ⟨_, rfl⟩
    rw [← hB] at hbl HCUT HMORE HP1
    clear hB
    obtain ⟨k, hk⟩ : ∃ k, k = p % B.length := ⟨_, rfl⟩
    have hkl : k < B.length := by rw [hk]; exact Nat.mod_lt _ (by omega)
    have hki : (p : Int) % (B.length : Int) = (k : Int) := by rw [hk]; simp
    have HKE := Lib.hid (HCUT.out k hkl)
    clear hk HCUT hm0
    have hw : IntKind.i64.wrap (p : Int) = (p : Int) := IntWalk.i64_in _ ⟨by omega, by omega⟩
    have hB0 : ((B.length : Int) == 0) = false := beq_eq_false_iff_ne.2 (by omega)
    have hB1 : ¬ ((B.length : Int) = 0) := by omega
    have hB2 : B.length ≤ 2406 := by omega
    have HTK : Hid (k = (B.take k).length) := by show _ = _; rw [List.length_take]; omega
    have HAP : Hid (B.length + more.length = (B ++ more).length) := by show _ = _; rw [List.length_append]
    obtain ⟨i0, hi0, hz0, hz1, hz2⟩ := info_parts info_b
    have HZ2 := Lib.hid hz2; clear hz2
    clear hbl
    go_enter Try.func5, Try.ntmps5
    go_wp2_with fail
    refine (great_is HG.out a c _ HR.out HLM.out OK.out).mono ?_; rintro e w1 ⟨rfl, hb1⟩
    have HR1 := Lib.hid ((HR.out.below hb1).more hb1.size)
    have HRM1 := Lib.hid ((HRM.out.below hb1).more hb1.size)
    have HB1 := Lib.hid hb1; clear hb1
    go_wp2_with fail
    refine (putW_any a c L w1 HR1.out hlc HC.out OK.out).mono ?_
    unfold PutOut
    rw [HP1.out, HP2.out]
    rintro e w2 ⟨a2, c2, rfl, hlc2, hcm2, hr2, hb2⟩
    have HX2 := Lib.hid hr2
    have HRM2 := Lib.hid ((HRM1.out.below hb2).more hb2.size)
    have HB2 := Lib.hid (bel2 HB1.out hb2); clear hb2 hr2
    have HCM2 := Lib.hid hcm2
    unfold maxLen at hcm2
    have i1 : (0 : Int) ≤ (k : Int) := by omega
    have i2 : (k : Int) ≤ (c2 : Int) := by omega
    go_wp2_with fail
    refine (getW_is a2 k c2 (B.take k) HTK.out w2 (by rw [bV_take]; exact HX2.out.take k) (by rw [← HTK.out]; omega) (by omega) HCM2.out).mono ?_
    intro e w3 hso; obtain ⟨a3, c3, rfl, _, hb3⟩ := SpansOut.err HKE.out hso; clear hso
    have HX3 := Lib.hid ((HX2.out.below hb3).more hb3.size)
    have HRM3 := Lib.hid ((HRM2.out.below hb3).more hb3.size)
    have HB3 := Lib.hid (bel2 HB2.out hb3); clear hb3
    have HX4 := Lib.hid (HX3.out.below (box1 w3 (.cells #[] 5)))
    go_wp2_with (first
      | (refine wpList_append_rd _ rfl (.tmp 55) (.tmp 56) 25 rfl w3.heap.size 5 i0 _ 1 1 Try.underlying25 hi0 hz0 hz1 HZ2.out rfl (by omega) (.slice (some ⟨w3.heap.size, 0, none⟩) 0 0) 0 [] rfl (World.ownsRow_made w3 #[] 0 (Nat.le_refl _) (by decide) rfl) _ _ B.length _ (bV B) rfl (by rw [bV_length, Nat.mul_one]) HX4.out (bV_one _) (by unfold maxLen; omega) (by omega) (by simp) ?_
         intro v5 w5 hown5 hg5 _
         have hb5 : Below w3.heap.size w3 w5 := Below.of_grown (box1 w3 _) hg5 (by simp) (by intro g h; simp [Value.ownBlock] at h; omega)
         have HO5 := Lib.hid hown5; have HB5 := Lib.hid hb5; have HRM5 := Lib.hid (HRM3.out.below hb5); clear hown5 hg5 hb5)
      | (refine wpList_append_rd _ rfl (.tmp 57) (.tmp 58) 25 rfl w3.heap.size 5 i0 _ 1 1 Try.underlying25 hi0 hz0 hz1 HZ2.out rfl (by omega) v5 (0 + B.length) _ rfl HO5.out _ _ more.length _ (bV more) rfl (by rw [bV_length, Nat.mul_one]) HRM5.out (bV_one _) (by unfold maxLen; omega) (by omega) HB5.out.size ?_
         intro v6 w6 hown6 hg6 _
         have hb6 : Below w3.heap.size w3 w6 := Below.of_grown HB5.out hg6 HB5.out.size (fun g h => (own_shape HO5.out h).1)
         obtain ⟨a6, c6, rfl, hlc6, hcm6, _⟩ := own_slice hown6
         have HO6 := Lib.hid hown6; have HB6 := Lib.hid hb6; have HL6 := Lib.hid hlc6; have HC6 := Lib.hid hcm6; clear hown6 hg6 hb6 hlc6 hcm6))
    refine (getW_is a6 _ c6 (B ++ more) HAP.out w6 (by have h := Rd.own HO6.out; rw [List.nil_append, ← bV_append] at h; exact h) (by rw [← HAP.out]; omega) (by have := HL6.out; omega) HC6.out).mono ?_
    intro e w7 hso; obtain ⟨a7, c7, rfl, _, hb7⟩ := SpansOut.err HMORE.out hso; clear hso
    go_wp2_with fail
    refine (fixed_any _).mono ?_; rintro e w8 ⟨rfl, hb8⟩
    go_wp2_with fail
    go_ret
    exact ⟨ret_bool (by first | rfl | simp), bel2 HB3.out (bel2 (bel2 HB6.out hb7) hb8)⟩
end Go.Proofs.Ytlpalhlihckidaa
