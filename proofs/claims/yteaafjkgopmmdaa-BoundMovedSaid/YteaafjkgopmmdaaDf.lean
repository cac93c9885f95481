import Derived.Test.YteaafjkgopmmdaaDe
import Derived.Deep.DeepMust
import Derived.Deep.DeepCutAuto
namespace Go.Proofs.Yteaafjkgopmmdaa
open Go Go.RowKit Go.Sort
set_option linter.unusedVariables false

set_option maxHeartbeats 1000000 in
theorem refPlace_any (a : Option Addr) (c : Nat) (K : List Tx) (s : ByteArray) (w : World) (ha : Rd w w.heap.size a (strV K)) (hl : K.length ≤ maxLen) :
    Calls Try.prog 30 #[.slice a K.length c, .string s] w fun e w' => e = .returned (.int .i64 (placeL K (txt s))) ∧ Below w.heap.size w w' := by
  have HA := Lib.hid ha; clear ha
  unfold maxLen at hl
  go_enter Try.func30, Try.ntmps30
  go_wp2
  go_loopw [5] (fun i wr => ∃ k : Nat, k ≤ K.length ∧ i = .int .i64 k ∧ placeL K (txt s) = placeF (K.drop k) (txt s) k ∧ Below w.heap.size w wr) (fun i _ => K.length - (intOf i).toNat)
  case atStart => exact ⟨0, Nat.zero_le _, rfl, rfl, Below.refl _ _⟩
  case round =>
    obtain ⟨k, hk, rfl, hp, hb⟩ := hrel
    have HP := Lib.hid hp; have HB := Lib.hid hb; clear hp hb
    by_cases hlt : k < K.length
    · obtain ⟨b1, o1, X, ha1, _, c0, hX⟩ := (HA.out.below HB.out).str hlt
      subst ha1
      have HS := Lib.hid (placeF_step (x := txt s) hlt)
      have i1 : (0 : Int) ≤ (k : Int) := by omega
      have i2 : (k : Int) < (K.length : Int) := by omega
      rw [hX] at HS
      clear hX
      by_cases hx : txt X = txt s
      · have hq := tx_eq hx
        have HE : Hid (placeL K (txt s) = k) := by show _ = _; rw [HP.out, HS.out, if_pos hx]
        clear hx HS
        go_wp2
        go_ret
        exact ⟨ret_i64 HE.out.symm, HB.out⟩
      · have hq := tx_ne hx
        have HE : Hid (placeL K (txt s) = placeF (K.drop (k + 1)) (txt s) (k + 1)) := by show _ = _; rw [HP.out, HS.out, if_neg hx]
        clear hx HS
        go_wp2
        go_roundw
        case rel => exact ⟨k + 1, by omega, by go_num, HE.out, HB.out⟩
        case measure => simp [intOf]; omega
    · obtain rfl : k = K.length := by omega
      have HE : Hid (placeL K (txt s) = -1) := by show _ = _; rw [HP.out, List.drop_length]; rfl
      go_wp2
      go_ret
      exact ⟨ret_i64 HE.out.symm, HB.out⟩

end Go.Proofs.Yteaafjkgopmmdaa

