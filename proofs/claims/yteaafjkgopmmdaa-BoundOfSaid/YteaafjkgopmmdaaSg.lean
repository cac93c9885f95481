import Derived.Test.YteaafjkgopmmdaaSe
import Derived.Test.YteaafjkgopmmdaaGe
namespace Go.Proofs.Yteaafjkgopmmdaa
open Go Go.RowKit

/-! Batches that are more than is gone through (as in Wh). -/
def greatS (s : Sp) : Bool := decide (100 < s.host.size) || decide (100 < s.name.size)
def greatB (L : List Sp) : Bool := decide (60 < L.length) || L.any greatS
theorem great_many {L : List Sp} (h : 60 < L.length) : greatB L = true := by simp [greatB, h]
theorem great_few {L : List Sp} (h : ¬ 60 < L.length) : greatB L = L.any greatS := by simp [greatB, h]
theorem any_take {L : List Sp} {k : Nat} (h : k < L.length) : (L.take (k + 1)).any greatS = ((L.take k).any greatS || greatS L[k]) := by
  rw [List.take_succ_eq_append_getElem h, List.any_append]; simp
theorem any_yes {L : List Sp} {k : Nat} (h : k < L.length) (hk : greatS L[k] = true) : L.any greatS = true :=
  List.any_eq_true.2 ⟨L[k], List.getElem_mem _, hk⟩
set_option maxHeartbeats 2000000 in
theorem great_any (a : Option Addr) (c : Nat) (L : List Sp) (w : World) (hr : Rd w w.heap.size a (flatL L)) (hl : L.length ≤ maxLen) (ok : ∀ s ∈ L, s.Ok) :
    Calls Try.prog 7 #[.slice a L.length c] w fun e w' => e = .returned (.bool (greatB L)) ∧ Below w.heap.size w w' := by
  have HR := Lib.hid hr; have OK := Lib.hid ok; clear hr ok
  unfold maxLen at hl
  by_cases h60 : 60 < L.length
  · have HE := Lib.hid (great_many h60)
    go_enter Try.func7, Try.ntmps7
    go_wp2
    go_ret
    exact ⟨ret_bool HE.out.symm, Below.refl _ _⟩
  have HF := Lib.hid (great_few h60)
  go_enter Try.func7, Try.ntmps7
  go_wp2_with fail
  go_loopw [10] (fun i wr => ∃ k : Nat, k ≤ L.length ∧ i = .int .i64 k ∧ (L.take k).any greatS = false ∧ Below w.heap.size w wr) (fun i _ => L.length - (intOf i).toNat)
  case atStart => exact ⟨0, Nat.zero_le _, rfl, rfl, Below.refl _ _⟩
  case round =>
    obtain ⟨k, hk, rfl, he, hbw⟩ := hrel
    have HE := Lib.hid he; have HW := Lib.hid hbw; clear he hbw
    by_cases hlt : k < L.length
    · obtain ⟨b1, o1, ha1, _, e0, e1, e2, e3, e4, e5, e6, e7⟩ := (HR.out.below HW.out).elem hlt
      subst ha1
      have i1 : (0 : Int) ≤ (k : Int) := by omega
      have i2 : (k : Int) < (L.length : Int) := by omega
      have HT := Lib.hid (any_take hlt)
      have hmx := (OK.out L[k] (List.getElem_mem _)).host
      have hmy := (OK.out L[k] (List.getElem_mem _)).name
      have HA := Lib.hid (fun h => any_yes (L := L) hlt h)
      generalize L[k] = s at *
      unfold maxLen at hmx hmy
      have HBW := Lib.hid (HW.out.alloc HW.out.size (.cells s.c 42))
      by_cases hg1 : 100 < s.host.size
      · have HG : Hid (greatS s = true) := by show _ = _; simp [greatS, hg1]
        go_wp2_with fail
        go_ret
        exact ⟨ret_bool (by rw [HF.out]; exact (HA.out HG.out).symm), HBW.out⟩
      by_cases hg2 : 100 < s.name.size
      · have HG : Hid (greatS s = true) := by show _ = _; simp [greatS, hg2]
        go_wp2_with fail
        go_ret
        exact ⟨ret_bool (by rw [HF.out]; exact (HA.out HG.out).symm), HBW.out⟩
      have HG : Hid (greatS s = false) := by show _ = _; simp [greatS, hg1, hg2]
      go_wp2_with fail
      go_roundw
      case rel => exact ⟨k + 1, by omega, by go_num, by rw [HT.out, HE.out, HG.out]; rfl, HBW.out⟩
      case measure => simp [intOf]; omega
    · have : k = L.length := by omega
      subst this
      have HA : Hid (L.any greatS = false) := by
        show _ = _
        have h := HE.out
        rwa [List.take_length] at h
      go_wp2_with fail
      go_ret
      exact ⟨ret_bool (by rw [HF.out, HA.out]), HW.out⟩
end Go.Proofs.Yteaafjkgopmmdaa

