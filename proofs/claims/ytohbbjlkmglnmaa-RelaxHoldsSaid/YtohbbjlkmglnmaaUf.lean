import Derived.Test.YtohbbjlkmglnmaaUe
namespace Go.Proofs.Ytohbbjlkmglnmaa
open Go Go.RowKit Go.Sort
set_option linter.unusedVariables false

theorem right_no1 {P : List Int} {k : Nat} (h : k < P.length) (hx : P[k] < -1 ∨ (P.length : Int) ≤ P[k]) : rightL P = false := by
  cases hr : rightL P with
  | false => rfl
  | true => have := right_valid hr _ (List.getElem_mem h); omega
theorem right_no2 {P : List Int} {k : Nat} (h : k < P.length) (hx : 0 ≤ upL P (P.length + 1) k) : rightL P = false := by
  cases hr : rightL P with
  | false => rfl
  | true => have := right_ends hr h; omega
theorem right_yes {P : List Int} (hv : ValidP P) (h : ∀ k, k < P.length → upL P (P.length + 1) k < 0) : rightL P = true := by
  unfold rightL
  rw [Bool.and_eq_true, List.all_eq_true, List.all_eq_true]
  exact ⟨fun x hx => by simpa using hv x hx, fun i hi => decide_eq_true (h i (List.mem_range.1 hi))⟩
set_option maxHeartbeats 1000000 in
theorem same10_any (a b : Option Addr) (c d : Nat) (K M : List Int) (w : World) (ha : Rd w w.heap.size a (intV K)) (hb : Rd w w.heap.size b (intV M)) (hl : K.length ≤ maxLen) (hm : M.length ≤ maxLen) :
    Calls Try.prog 14 #[.slice a K.length c, .slice b M.length d] w fun e w' => e = .returned (.bool (decide (K = M))) ∧ Below w.heap.size w w' := by
  unfold maxLen at hl
  by_cases hne : K.length = M.length
  case neg =>
    have h1 : ((K.length : Int) != (M.length : Int)) = true := by simpa using (by omega : ¬ (K.length : Int) = (M.length : Int))
    have h2 : ((K.length : Int) == (M.length : Int)) = false := by simpa using (by omega : ¬ (K.length : Int) = (M.length : Int))
    have HE : Hid (decide (K = M) = false) := by show _ = _; simp; intro e; exact hne (by rw [e])
    clear hne
    go_enter Try.func14, Try.ntmps14
    go_wp2
    go_ret
    exact ⟨ret_bool HE.out.symm, Below.refl _ _⟩
  have h1 : ((K.length : Int) != (M.length : Int)) = false := by simp [hne]
  have h2 : ((K.length : Int) == (M.length : Int)) = true := by simp [hne]
  have HN := Lib.hid hne; clear hne
  have HA := Lib.hid ha; have HB := Lib.hid hb; clear ha hb
  go_enter Try.func14, Try.ntmps14
  go_wp2
  go_loopw [5] (fun i wr => ∃ k : Nat, k ≤ K.length ∧ i = .int .i64 k ∧ K.take k = M.take k ∧ Below w.heap.size w wr) (fun i _ => K.length - (intOf i).toNat)
  case atStart => exact ⟨0, Nat.zero_le _, rfl, rfl, Below.refl _ _⟩
  case round =>
    obtain ⟨k, hk, rfl, he, hbw⟩ := hrel
    have HE := Lib.hid he; clear he
    have HW := Lib.hid hbw; clear hbw
    by_cases hlt : k < K.length
    · have hltM : k < M.length := by have := HN.out; omega
      obtain ⟨b1, o1, ha1, _, c0⟩ := (HA.out.below HW.out).num hlt
      obtain ⟨b2, o2, hb1, _, c1⟩ := (HB.out.below HW.out).num hltM
      subst ha1 hb1
      have i1 : (0 : Int) ≤ (k : Int) := by omega
      have i2 : (k : Int) < (K.length : Int) := by omega
      have i3 : (k : Int) < (M.length : Int) := by omega
      have hsL := List.take_succ_eq_append_getElem hlt
      have hsM := List.take_succ_eq_append_getElem hltM
      by_cases hs : K[k] = M[k]
      · have HS : Hid (K.take (k + 1) = M.take (k + 1)) := by show _ = _; rw [hsL, hsM, HE.out, hs]
        have hq1 : (K[k] == M[k]) = true := by simpa using hs
        have hq2 : (K[k] != M[k]) = false := by simpa using hs
        clear hsL hsM hs
        generalize K[k] = x at *
        generalize M[k] = y at *
        go_wp2
        go_quiet (fail)
        go_wp2
        go_roundw
        case rel => exact ⟨k + 1, by omega, by go_num, HS.out, Below_drewN HW.out _⟩
        case measure => simp [intOf]; omega
      · have HD : Hid (decide (K = M) = false) := by
          show _ = _; simp; intro e; apply hs; simp [e]
        have hq1 : (K[k] == M[k]) = false := by simpa using hs
        have hq2 : (K[k] != M[k]) = true := by simpa using hs
        clear hsL hsM hs
        generalize K[k] = x at *
        generalize M[k] = y at *
        go_wp2
        go_quiet (fail)
        go_wp2
        go_ret
        exact ⟨ret_bool HD.out.symm, Below_drewN HW.out _⟩
    · have HD : Hid (decide (K = M) = true) := by
        show _ = _
        have h := HE.out
        rw [List.take_of_length_le (by omega), List.take_of_length_le (by have := HN.out; omega)] at h
        simpa using h
      go_wp2
      go_ret
      exact ⟨ret_bool HD.out.symm, HW.out⟩
end Go.Proofs.Ytohbbjlkmglnmaa

