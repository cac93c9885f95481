import Derived.Test.YtkaafjcfcknbpaaWm
import Derived.Test.YtkaafjcfcknbpaaGe
import Derived.Lib.AppendStr
import Derived.Laws.MakeOwn
namespace Go.Proofs.Ytkaafjcfcknbpaa
open Go Go.RowKit

set_option maxHeartbeats 2000000 in
theorem wmay_any (a : Option Addr) (c : Nat) (L : List Sp) (w : World) (hr : Rd w w.heap.size a (flatL L)) (hl : L.length ≤ maxLen) (ok : ∀ s ∈ L, s.Ok) :
    Calls Try.prog 29 #[.slice a L.length c] w fun e w' => e = .returned (.bool (mayL L)) ∧ Below w.heap.size w w' := by
  have HR := Lib.hid hr; have OK := Lib.hid ok; clear hr ok
  unfold maxLen at hl
  by_cases hin : 1 ≤ L.length ∧ L.length ≤ 32
  case neg =>
    have hmf : mayL L = false := by
      by_cases h0 : L.length < 1
      · exact mayL_none (by omega)
      · exact mayL_many (by omega)
    have HE := Lib.hid hmf
    clear hmf
    have hcm : (decide (1 ≤ L.length) && decide (L.length ≤ 32)) = false := by
      by_cases h1 : 1 ≤ L.length
      · simp [h1]; omega
      · simp [h1]
    have HC := Lib.hid hcm
    clear hcm
    go_enter Try.func29, Try.ntmps29
    go_wp2_with fail
    refine (countMay_is L.length false HC.out _).mono ?_; rintro e w1 ⟨rfl, rfl⟩
    go_wp2_with fail
    go_ret
    exact ⟨ret_bool HE.out.symm, Below.refl _ _⟩
  obtain ⟨hin1, hin2⟩ := hin
  have HF := Lib.hid (mayL_fit (L := L) (by omega) (by omega))
  have HC : Hid ((decide (1 ≤ L.length) && decide (L.length ≤ 32)) = true) := by show _ = _; simp [hin1, hin2]
  go_enter Try.func29, Try.ntmps29
  go_wp2_with fail
  refine (countMay_is L.length true HC.out _).mono ?_; rintro e w1 ⟨rfl, rfl⟩
  go_wp2_with fail
  go_loopw [11] (fun i wr => ∃ k : Nat, k ≤ L.length ∧ i = .int .i64 k ∧ (L.take k).all mayB = true ∧ Below w.heap.size w wr) (fun i _ => L.length - (intOf i).toNat)
  case atStart => exact ⟨0, Nat.zero_le _, rfl, rfl, Below.refl _ _⟩
  case round =>
    obtain ⟨k, hk, rfl, he, hbw⟩ := hrel
    have HE := Lib.hid he; have HW := Lib.hid hbw; clear he hbw
    by_cases hlt : k < L.length
    · obtain ⟨b1, o1, ha1, _, e0, e1, e2, e3, e4, e5, e6, e7⟩ := (HR.out.below HW.out).elem hlt
      subst ha1
      have i1 : (0 : Int) ≤ (k : Int) := by omega
      have i2 : (k : Int) < (L.length : Int) := by omega
      have OKK := Lib.hid (OK.out L[k] (List.getElem_mem _))
      have HT := Lib.hid (all_take hlt)
      cases hm : mayB L[k]
      · have HA := Lib.hid (all_not hlt hm)
        have HM := Lib.hid hm
        clear hm
        generalize L[k] = s at *
        have HBW := Lib.hid (HW.out.alloc HW.out.size (.cells s.c 54))
        go_wp2_with fail
        refine (may_is HM.out _ OKK.out.host OKK.out.name).mono ?_; rintro e w2 ⟨rfl, hb2⟩
        go_wp2_with fail
        go_ret
        exact ⟨ret_bool (by rw [HF.out, HA.out]), bel2 HBW.out hb2⟩
      · have HM := Lib.hid hm
        rw [hm] at HT
        clear hm
        generalize L[k] = s at *
        have HBW := Lib.hid (HW.out.alloc HW.out.size (.cells s.c 54))
        go_wp2_with fail
        refine (may_is HM.out _ OKK.out.host OKK.out.name).mono ?_; rintro e w2 ⟨rfl, hb2⟩
        go_wp2_with fail
        go_roundw
        case rel => exact ⟨k + 1, by omega, by go_num, by rw [HT.out, HE.out]; rfl, bel2 HBW.out hb2⟩
        case measure => simp [intOf]; omega
    · have : k = L.length := by omega
      subst this
      have HA : Hid (L.all mayB = true) := by
        show _ = _
        have h := HE.out
        rwa [List.take_length] at h
      go_wp2_with fail
      go_ret
      exact ⟨ret_bool (by rw [HF.out, HA.out]), HW.out⟩
set_option maxHeartbeats 4000000 in
theorem putW_any (a : Option Addr) (c : Nat) (L : List Sp) (w : World) (hr : Rd w w.heap.size a (flatL L)) (hlc : L.length ≤ c) (hc : c ≤ maxLen) (ok : ∀ s ∈ L, s.Ok) :
    Calls Try.prog 14 #[.slice a L.length c] w (PutOut w L) := by
  have HR := Lib.hid hr; have OK := Lib.hid ok; have HLM : Hid (L.length ≤ maxLen) := Nat.le_trans hlc hc; clear hr ok
  unfold maxLen at hc
  cases hm : mayL L
  · obtain ⟨p1, p2, _⟩ := putB_no hm
    have HM := Lib.hid hm; have HP1 := Lib.hid p1; have HP2 := Lib.hid p2; clear hm p1 p2
    go_enter Try.func14, Try.ntmps14
    go_wp2_with fail
    refine (wmay_any a c L _ HR.out HLM.out OK.out).mono ?_; rw [HM.out]; rintro e w1 ⟨rfl, hb1⟩
    go_wp2_with fail
    go_ret2
    unfold PutOut
    rw [HP1.out, HP2.out]
    exact ⟨none, 0, rfl, Nat.le_refl _, by decide, Rd.nil _ _ _, hb1⟩
  · obtain ⟨p1, p2, _⟩ := putB_yes hm
    obtain ⟨m1, m2, m3⟩ := mayL_iff.1 hm
    have HM := Lib.hid hm; have HP1 := Lib.hid p1; have HP2 := Lib.hid p2; have HM3 := Lib.hid m3; clear hm p1 p2 m3
    have hw : IntKind.u64.wrap (L.length : Int) = (L.length : Int) := IntWalk.u64_in _ ⟨by omega, by omega⟩
    obtain ⟨i0, hi0, hz0, hz1, hz2⟩ := info_parts info_u8
    have HZ2 := Lib.hid hz2; clear hz2
    go_enter Try.func14, Try.ntmps14
    go_wp2_with fail
    refine (wmay_any a c L _ HR.out HLM.out OK.out).mono ?_; rw [HM.out]; rintro e w1 ⟨rfl, hb1⟩
    have HB1 := Lib.hid hb1; clear hb1
    obtain ⟨sz, hsz⟩ : ∃ sz, 6 + 75 * L.length = sz := ⟨_, rfl⟩
    have HSZ := Lib.hid hsz
    have hsz2 : sz ≤ 2406 := by omega
    clear hsz
    go_wp2_with fail
    refine (batchSize_is L.length sz HSZ.out _ (by omega)).mono ?_; rintro e w1' ⟨rfl, rfl⟩
    go_wp2_with (first
      | (refine wpList_make_room _ rfl (.const (.int .i64 0)) (.tmp 12) 23 rfl w.heap.size 5 i0 _ 1 Try.underlying23 hi0 hz0 hz1 .i64 .i64 _ _ 0 sz rfl rfl rfl rfl (by omega) (by rw [HZ2.out]; omega) (by unfold maxLen; omega) HB1.out.size ?_
         intro w2 hown2 hb2
         have hown2' : w2.ownsRow w.heap.size 5 1 (.slice (some ⟨w1.heap.size, 0, none⟩) 0 sz) 0 [] := by simpa using hown2
         have HO2 := Lib.hid hown2'; have HB2 := Lib.hid (bel2 HB1.out hb2); clear hown2 hown2' hb2)
      | (refine Lib.wpList_append_own_string _ rfl (.tmp 14) (.const (.string ⟨#[83, 80, 65, 78]⟩)) 23 9 rfl w.heap.size 5 i0 Try.underlying23 Try.underlying9 hi0 hz0 hz1 HZ2.out _ 0 [] rfl HO2.out ⟨#[83, 80, 65, 78]⟩ rfl (by unfold maxLen; decide) (by decide) HB2.out.size ?_
         intro v3 w3 hown3 hg3 _
         have HO3 := Lib.hid hown3
         have HB3 := Lib.hid (Below.of_grown HB2.out hg3 HB2.out.size (fun g h => (own_shape HO2.out h).1))
         clear hown3 hg3))
    refine (put_is none 0 0 [] L.length 2 2 rfl w3 rfl (Rd.nil _ _ _) (by decide) (by decide) (by omega) (by omega) (by omega) (putL L.length 2) rfl).mono ?_
    rintro e w4 ⟨a4, c4, rfl, hlc4, hcm4, hr4, hb4⟩
    have HR4 := Lib.hid hr4; have HO4 := Lib.hid (own_below HO3.out hb4); have HB4 := Lib.hid (bel2 HB3.out hb4)
    clear hr4 hb4 hlc4 hcm4
    go_wp2_with (refine wpList_append_rd _ rfl (.tmp 16) (.tmp 20) 23 rfl w.heap.size 5 i0 _ 1 1 Try.underlying23 hi0 hz0 hz1 HZ2.out rfl (by omega) v3 _ _ rfl HO4.out _ a4 (putL L.length 2).length c4 (bV (putL L.length 2)) rfl (by rw [bV_length]; omega) HR4.out (bV_one _) (by rw [putL_length]; unfold maxLen; decide) (by rw [putL_length]; decide) HB4.out.size ?_
                 intro v5 w5 hown5 hg5 _
                 have hown5' : w5.ownsRow w.heap.size 5 1 v5 (partL L 0).length (bV (partL L 0)) := by
                   have e1 : (partL L 0).length = 0 + (ByteArray.mk #[83, 80, 65, 78]).size + (putL L.length 2).length := by rw [partL_zero, List.length_append]; rfl
                   have e2 : bV (partL L 0) = [] ++ Lib.strCells ⟨#[83, 80, 65, 78]⟩ ++ bV (putL L.length 2) := by rw [partL_zero, bV_append]; rfl
                   rw [e1, e2]; exact hown5
                 have HO5 := Lib.hid hown5'
                 have HB5 := Lib.hid (Below.of_grown HB4.out hg5 HB4.out.size (fun g h => (own_shape HO4.out h).1))
                 clear hown5 hown5' hg5)
    go_loopw [4, 24] (fun v i wr => ∃ (k : Nat), k ≤ L.length ∧ i = .int .i64 k ∧ wr.ownsRow w.heap.size 5 1 v (partL L k).length (bV (partL L k)) ∧ RowKit.Below w.heap.size w wr) (fun _ i _ => L.length - (intOf i).toNat)
    case atStart => exact ⟨0, Nat.zero_le _, rfl, HO5.out, HB5.out⟩
    case round =>
      obtain ⟨k, hk, rfl, hown, hbw⟩ := hrel
      have HO := Lib.hid hown; have HW := Lib.hid hbw; clear hown hbw
      by_cases hlt : k < L.length
      · obtain ⟨b1, o1, ha1, _, e0, e1, e2, e3, e4, e5, e6, e7⟩ := (HR.out.below HW.out).elem hlt
        subst ha1
        have i1 : (0 : Int) ≤ (k : Int) := by omega
        have i2 : (k : Int) < (L.length : Int) := by omega
        have OKK := Lib.hid (OK.out L[k] (List.getElem_mem _))
        have HMK := Lib.hid (HM3.out L[k] (List.getElem_mem _))
        have HT := Lib.hid (partL_succ hlt)
        have hq := partL_length HM3.out hk
        have HQ : Hid ((partL L k).length ≤ 3000) := by show _ ≤ _; omega
        clear hq
        generalize L[k] = s at *
        have HW2 := Lib.hid (HW.out.alloc HW.out.size (.cells s.c 54))
        go_wp2_with fail
        refine (spanBytes_any s _ OKK.out HMK.out).mono ?_
        rintro e w6 ⟨a6, c6, rfl, h6a, h6b, hr6, hb6⟩
        have HR6 := Lib.hid hr6; have HO6 := Lib.hid (own_below (HO.out.alloc _) hb6); have HB6 := Lib.hid (bel2 HW2.out hb6)
        have HSL := Lib.hid (spanL_length HMK.out)
        clear hr6 hb6 h6a h6b
        go_wp2_with (refine wpList_append_rd _ rfl (.tmp 28) (.tmp 30) 23 rfl w.heap.size 5 i0 _ 1 1 Try.underlying23 hi0 hz0 hz1 HZ2.out rfl (by omega) _ _ _ rfl HO6.out _ a6 (spanL s).length c6 (bV (spanL s)) rfl (by rw [bV_length]; omega) HR6.out (bV_one _) (by have := HQ.out; have := HSL.out; unfold maxLen; omega) (by have := HQ.out; have := HSL.out; omega) HB6.out.size ?_
                     intro v7 w7 hown7 hg7 _
                     have hown7' : w7.ownsRow w.heap.size 5 1 v7 (partL L (k + 1)).length (bV (partL L (k + 1))) := by
                       rw [HT.out, List.length_append, bV_append]; exact hown7
                     have HO7 := Lib.hid hown7'
                     have HB7 := Lib.hid (Below.of_grown HB6.out hg7 HB6.out.size (fun g h => (own_shape HO6.out h).1))
                     clear hown7 hown7' hg7)
        go_roundw
        case rel => exact ⟨k + 1, by omega, by go_num, HO7.out, HB7.out⟩
        case measure => simp [intOf]; omega
      · have : k = L.length := by omega
        subst this
        have hall := partL_all L
        rw [hall] at HO
        clear hall
        obtain ⟨a8, c8, rfl, h8a, h8b, _⟩ := own_slice HO.out
        have H8a := Lib.hid h8a; have H8b := Lib.hid h8b; clear h8a h8b
        go_wp2_with fail
        go_ret2
        unfold PutOut
        rw [HP1.out, HP2.out]
        exact ⟨a8, c8, rfl, H8a.out, H8b.out, Rd.own HO.out, HW.out⟩
end Go.Proofs.Ytkaafjcfcknbpaa

