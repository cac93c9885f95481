import Derived.Test.YtlpalhlihckidaaWc
namespace Go.Proofs.Ytlpalhlihckidaa
open Go Go.RowKit

theorem refSpan_any (s : Sp) (w : World) (ok : s.Ok) (hm : mayB s = true) :
    Calls Try.prog 20 #[s.v] w fun e w' => e = .returned (.string (bs (spanL s))) ∧ Below w.heap.size w w' := by
  obtain ⟨_, _, _, hs1, hs2, hd1, hd2, h1, h2⟩ := mayB_parts hm
  obtain ⟨⟨a1, a2⟩, ⟨b1, b2⟩, ⟨c1, c2⟩, ⟨d1, d2⟩, _, _, _, _⟩ := ok
  obtain ⟨a, b, c, k, h, n, st, du⟩ := s
  simp only at *
  obtain ⟨a, rfl⟩ := Int.eq_ofNat_of_zero_le a1
  obtain ⟨b, rfl⟩ := Int.eq_ofNat_of_zero_le b1
  obtain ⟨c, rfl⟩ := Int.eq_ofNat_of_zero_le c1
  obtain ⟨k, rfl⟩ := Int.eq_ofNat_of_zero_le d1
  obtain ⟨st, rfl⟩ := Int.eq_ofNat_of_zero_le hs1
  obtain ⟨du, rfl⟩ := Int.eq_ofNat_of_zero_le hd1
  exact refSpan_nat a b c k st du h n w (by omega) (by omega) (by omega) (by omega) (by omega) (by omega) h1 h2
theorem mayL_none {L : List Sp} (h : L.length = 0) : mayL L = false := by simp [mayL, h]
theorem mayL_many {L : List Sp} (h : 32 < L.length) : mayL L = false := by
  have : ¬ L.length ≤ 32 := by omega
  simp [mayL, this]
theorem mayL_fit {L : List Sp} (h1 : 1 ≤ L.length) (h2 : L.length ≤ 32) : mayL L = L.all mayB := by simp [mayL, h1, h2]
theorem all_take {L : List Sp} {k : Nat} (h : k < L.length) : (L.take (k + 1)).all mayB = ((L.take k).all mayB && mayB L[k]) := by
  rw [List.take_succ_eq_append_getElem h, List.all_append]; simp
theorem all_not {L : List Sp} {k : Nat} (h : k < L.length) (hk : mayB L[k] = false) : L.all mayB = false := by
  rw [List.all_eq_false]
  exact ⟨L[k], List.getElem_mem _, by simp [hk]⟩
theorem refMay_one {s : Sp} {b : Bool} (h : mayB s = b) (w : World) (ok : s.Ok) : Calls Try.prog 25 #[s.v] w fun e w' => e = .returned (.bool b) ∧ Below w.heap.size w w' := by
  subst h; exact refMay_any s w ok.host ok.name ok.kind.1
set_option maxHeartbeats 2000000 in
theorem refMayL_any (a : Option Addr) (c : Nat) (L : List Sp) (w : World) (hr : Rd w w.heap.size a (flatL L)) (hl : L.length ≤ maxLen) (ok : ∀ s ∈ L, s.Ok) :
    Calls Try.prog 18 #[.slice a L.length c] w fun e w' => e = .returned (.bool (mayL L)) ∧ Below w.heap.size w w' := by
  have HR := Lib.hid hr; have OK := Lib.hid ok; clear hr ok
  unfold maxLen at hl
  by_cases h0 : L.length = 0
  · have HE := Lib.hid (mayL_none h0)
    have h1 : ((L.length : Int) == 0) = true := by simp [h0]
    go_enter Try.func18, Try.ntmps18
    go_wp2
    go_ret
    exact ⟨ret_bool HE.out.symm, Below.refl _ _⟩
  have h1 : ((L.length : Int) == 0) = false := beq_eq_false_iff_ne.2 (by omega)
  by_cases h32 : 32 < L.length
  · have HE := Lib.hid (mayL_many h32)
    clear h0
    go_enter Try.func18, Try.ntmps18
    go_wp2
    go_ret
    exact ⟨ret_bool HE.out.symm, Below.refl _ _⟩
  have HF := Lib.hid (mayL_fit (L := L) (by omega) (by omega))
  have h32' : ¬ (32 < (L.length : Int)) := by omega
  clear h0
  go_enter Try.func18, Try.ntmps18
  go_wp2_with fail
  go_loopw [3] (fun i wr => ∃ k : Nat, k ≤ L.length ∧ i = .int .i64 k ∧ (L.take k).all mayB = true ∧ Below w.heap.size w wr) (fun i _ => L.length - (intOf i).toNat)
  case atStart => exact ⟨0, Nat.zero_le _, rfl, rfl, Below.refl _ _⟩
  case round =>
    obtain ⟨k, hk, rfl, he, hbw⟩ := hrel
    have HE := Lib.hid he; have HW := Lib.hid hbw; clear he hbw
    by_cases hlt : k < L.length
    · obtain ⟨b1, o1, ha1, _, e0, e1, e2, e3, e4, e5, e6, e7⟩ := (HR.out.below HW.out).elem hlt
      subst ha1
      have i1 : (0 : Int) ≤ (k : Int) := by omega
      have i2 : (k : Int) < (L.length : Int) := by omega
      have OKK := Lib.hid (OK.out L[k] (List.getElem_mem _))
      have HT := Lib.hid (all_take hlt)
      cases hm : mayB L[k]
      · have HA := Lib.hid (all_not hlt hm)
        have HM := Lib.hid hm
        clear hm
        generalize L[k] = s at *
        go_wp2_with fail
        refine (refMay_one HM.out _ OKK.out).mono ?_; rintro e w2 ⟨rfl, hb2⟩
        go_wp2_with fail
        go_ret
        exact ⟨ret_bool (by rw [HF.out, HA.out]), bel2 HW.out hb2⟩
      · have HM := Lib.hid hm
        rw [hm] at HT
        clear hm
        generalize L[k] = s at *
        go_wp2_with fail
        refine (refMay_one HM.out _ OKK.out).mono ?_; rintro e w2 ⟨rfl, hb2⟩
        go_wp2_with fail
        go_roundw
        case rel => exact ⟨k + 1, by omega, by go_num, by rw [HT.out, HE.out]; rfl, bel2 HW.out hb2⟩
        case measure => simp [intOf]; omega
    · have : k = L.length := by omega
      subst this
      have HA : Hid (L.all mayB = true) := by
        show _ = _
        have h := HE.out
        rwa [List.take_length] at h
      go_wp2_with fail
      go_ret
      exact ⟨ret_bool (by rw [HF.out, HA.out]), HW.out⟩
end Go.Proofs.Ytlpalhlihckidaa
