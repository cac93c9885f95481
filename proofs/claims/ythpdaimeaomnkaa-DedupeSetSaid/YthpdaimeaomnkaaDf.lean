import Derived.Test.YthpdaimeaomnkaaDe
import Derived.Deep.DeepMust
import Derived.Deep.DeepCutAuto
namespace Go.Proofs.Ythpdaimeaomnkaa
open Go Go.RowKit Go.Sort
set_option linter.unusedVariables false

set_option maxHeartbeats 1000000 in
theorem refPlace_any (a : Option Addr) (c : Nat) (K : List Tx) (s : ByteArray) (w : World) (ha : Rd w w.heap.size a (strV K)) (hl : K.length ≤ maxLen) :
    Calls Try.prog 18 #[.slice a K.length c, .string s] w fun e w' => e = .returned (.int .i64 (placeL K (txt s))) ∧ Below w.heap.size w w' := by
  have HA := Lib.hid ha; clear ha
  unfold maxLen at hl
  go_enter Try.func18, Try.ntmps18
  go_wp2
  go_loopw [5] (fun i wr => ∃ k : Nat, k ≤ K.length ∧ i = .int .i64 k ∧ placeL K (txt s) = placeF (K.drop k) (txt s) k ∧ Below w.heap.size w wr) (fun i _ => K.length - (intOf i).toNat)
  case atStart => exact ⟨0, Nat.zero_le _, rfl, rfl, Below.refl _ _⟩
  case round =>
    obtain ⟨k, hk, rfl, hp, hb⟩ := hrel
    have HP := Lib.hid hp; have HB := Lib.hid hb; clear hp hb
    by_cases hlt : k < K.length
    · obtain ⟨b1, o1, X, ha1, _, c0, hX⟩ := (HA.out.below HB.out).str hlt
      subst ha1
      have HS := Lib.hid (placeF_step (x := txt s) hlt)
      have i1 : (0 : Int) ≤ (k : Int) := by omega
      have i2 : (k : Int) < (K.length : Int) := by omega
      rw [hX] at HS
      clear hX
      by_cases hx : txt X = txt s
      · have hq := tx_eq hx
        have HE : Hid (placeL K (txt s) = k) := by show _ = _; rw [HP.out, HS.out, if_pos hx]
        clear hx HS
        go_wp2
        go_ret
        exact ⟨ret_i64 HE.out.symm, HB.out⟩
      · have hq := tx_ne hx
        have HE : Hid (placeL K (txt s) = placeF (K.drop (k + 1)) (txt s) (k + 1)) := by show _ = _; rw [HP.out, HS.out, if_neg hx]
        clear hx HS
        go_wp2
        go_roundw
        case rel => exact ⟨k + 1, by omega, by go_num, HE.out, HB.out⟩
        case measure => simp [intOf]; omega
    · obtain rfl : k = K.length := by omega
      have HE : Hid (placeL K (txt s) = -1) := by show _ = _; rw [HP.out, List.drop_length]; rfl
      go_wp2
      go_ret
      exact ⟨ret_i64 HE.out.symm, HB.out⟩

set_option maxHeartbeats 1000000 in
theorem index_any (a : Option Addr) (c : Nat) (K : List Tx) (s : ByteArray) (w : World) (ha : Rd w w.heap.size a (strV K)) (hl : K.length ≤ maxLen) :
    Calls Try.prog 28 #[.slice a K.length c, .string s] w fun e w' => e = .returned (.int .i64 (placeL K (txt s))) ∧ Below w.heap.size w w' := by
  have HA := Lib.hid ha; clear ha
  unfold maxLen at hl
  go_enter Try.func28, Try.ntmps28
  go_wp2
  go_loopw [8] (fun i wr => ∃ k : Nat, k ≤ K.length ∧ i = .int .i64 k ∧ placeL K (txt s) = placeF (K.drop k) (txt s) k ∧ Below w.heap.size w wr) (fun i _ => K.length - (intOf i).toNat)
  case atStart => exact ⟨0, Nat.zero_le _, rfl, rfl, Below.refl _ _⟩
  case round =>
    obtain ⟨k, hk, rfl, hp, hb⟩ := hrel
    have HP := Lib.hid hp; have HB := Lib.hid hb; clear hp hb
    by_cases hlt : k < K.length
    · obtain ⟨b1, o1, X, ha1, _, c0, hX⟩ := (HA.out.below HB.out).str hlt
      subst ha1
      have HS := Lib.hid (placeF_step (x := txt s) hlt)
      have i1 : (0 : Int) ≤ (k : Int) := by omega
      have i2 : (k : Int) < (K.length : Int) := by omega
      rw [hX] at HS
      clear hX
      by_cases hx : txt X = txt s
      · have hq := tx_eq hx.symm
        have HE : Hid (placeL K (txt s) = k) := by show _ = _; rw [HP.out, HS.out, if_pos hx]
        clear hx HS
        go_wp2
        go_ret
        exact ⟨ret_i64 HE.out.symm, HB.out⟩
      · have hq := tx_ne (Ne.symm hx)
        have HE : Hid (placeL K (txt s) = placeF (K.drop (k + 1)) (txt s) (k + 1)) := by show _ = _; rw [HP.out, HS.out, if_neg hx]
        clear hx HS
        go_wp2
        go_roundw
        case rel => exact ⟨k + 1, by omega, by go_num, HE.out, HB.out⟩
        case measure => simp [intOf]; omega
    · obtain rfl : k = K.length := by omega
      have HE : Hid (placeL K (txt s) = -1) := by show _ = _; rw [HP.out, List.drop_length]; rfl
      go_wp2
      go_ret
      exact ⟨ret_i64 HE.out.symm, HB.out⟩
theorem place_any (a : Option Addr) (c : Nat) (K : List Tx) (s : ByteArray) (w : World) (ha : Rd w w.heap.size a (strV K)) (hl : K.length ≤ maxLen) :
    Calls Try.prog 17 #[.slice a K.length c, .string s] w fun e w' => e = .returned (.int .i64 (placeL K (txt s))) ∧ Below w.heap.size w w' := by
  go_enter Try.func17, Try.ntmps17
  go_wp2_with (go_at_call 28; refine (index_any a c K s w ha hl).mono ?_; rintro e w' ⟨rfl, hb⟩)
  go_ret
  exact ⟨rfl, hb⟩

set_option maxHeartbeats 1000000 in
theorem refSame_any (a b : Option Addr) (c d : Nat) (K M : List Tx) (w : World) (ha : Rd w w.heap.size a (strV K)) (hb : Rd w w.heap.size b (strV M)) (hl : K.length ≤ maxLen) (hm : M.length ≤ maxLen) :
    Calls Try.prog 15 #[.slice a K.length c, .slice b M.length d] w fun e w' => e = .returned (.bool (decide (K = M))) ∧ Below w.heap.size w w' := by
  unfold maxLen at hl
  by_cases hne : K.length = M.length
  case neg =>
    have h1 : ((K.length : Int) != (M.length : Int)) = true := by simpa using (by omega : ¬ (K.length : Int) = (M.length : Int))
    have h2 : ((K.length : Int) == (M.length : Int)) = false := by simpa using (by omega : ¬ (K.length : Int) = (M.length : Int))
    have HE : Hid (decide (K = M) = false) := by show _ = _; simp; intro e; exact hne (by rw [e])
    clear hne
    go_enter Try.func15, Try.ntmps15
    go_wp2
    go_ret
    exact ⟨ret_bool HE.out.symm, Below.refl _ _⟩
  have h1 : ((K.length : Int) != (M.length : Int)) = false := by simp [hne]
  have h2 : ((K.length : Int) == (M.length : Int)) = true := by simp [hne]
  have HN := Lib.hid hne; clear hne
  have HA := Lib.hid ha; have HB := Lib.hid hb; clear ha hb
  go_enter Try.func15, Try.ntmps15
  go_wp2
  go_loopw [5] (fun i wr => ∃ k : Nat, k ≤ K.length ∧ i = .int .i64 k ∧ K.take k = M.take k ∧ Below w.heap.size w wr) (fun i _ => K.length - (intOf i).toNat)
  case atStart => exact ⟨0, Nat.zero_le _, rfl, rfl, Below.refl _ _⟩
  case round =>
    obtain ⟨k, hk, rfl, he, hbw⟩ := hrel
    have HE := Lib.hid he; clear he
    have HW := Lib.hid hbw; clear hbw
    by_cases hlt : k < K.length
    · have hltM : k < M.length := by have := HN.out; omega
      obtain ⟨b1, o1, X, ha1, _, c0, hX⟩ := (HA.out.below HW.out).str hlt
      obtain ⟨b2, o2, Y, hb1, _, c1, hY⟩ := (HB.out.below HW.out).str hltM
      subst ha1 hb1
      have i1 : (0 : Int) ≤ (k : Int) := by omega
      have i2 : (k : Int) < (K.length : Int) := by omega
      have i3 : (k : Int) < (M.length : Int) := by omega
      have hsL := List.take_succ_eq_append_getElem hlt
      have hsM := List.take_succ_eq_append_getElem hltM
      by_cases hs : K[k] = M[k]
      · have HS : Hid (K.take (k + 1) = M.take (k + 1)) := by show _ = _; rw [hsL, hsM, HE.out, hs]
        rw [hX, hY] at hs
        have hq := tx_eq hs; have hq2 := tx_nn hs
        clear hsL hsM hs hX hY
        go_wp2
        go_quiet (fail)
        go_wp2
        go_roundw
        case rel => exact ⟨k + 1, by omega, by go_num, HS.out, Below_drewN HW.out _⟩
        case measure => simp [intOf]; omega
      · have HD : Hid (decide (K = M) = false) := by
          show _ = _; simp; intro e; apply hs; simp [e]
        rw [hX, hY] at hs
        have hq := tx_ne hs; have hq2 := tx_nq hs
        clear hsL hsM hs hX hY
        go_wp2
        go_quiet (fail)
        go_wp2
        go_ret
        exact ⟨ret_bool HD.out.symm, Below_drewN HW.out _⟩
    · have HD : Hid (decide (K = M) = true) := by
        show _ = _
        have h := HE.out
        rw [List.take_of_length_le (by omega), List.take_of_length_le (by have := HN.out; omega)] at h
        simpa using h
      go_wp2
      go_ret
      exact ⟨ret_bool HD.out.symm, HW.out⟩
end Go.Proofs.Ythpdaimeaomnkaa
