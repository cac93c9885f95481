import Derived.Test.YtgeoggilnkcacaaJc
namespace Go.Proofs.Ytgeoggilnkcacaa
open Go Go.RowKit Go.Sort
set_option linter.unusedVariables false

/-! The document's place of a number (stage 16). -/
def PlaceIs (L : List Int) (x r : Int) : Prop := (r = -1 ∧ x ∉ L) ∨ ∃ i : Nat, ∃ h : i < L.length, r = (i : Int) ∧ L[i] = x ∧ ∀ j (hj : j < i), L[j] ≠ x
set_option maxHeartbeats 4000000 in
theorem place16_any (a : Option Addr) (c : Nat) (L : List Int) (x : Int) (w : World) (ha : Rd w w.heap.size a (intV L)) (hl : L.length ≤ 100000) :
    Calls Try.prog 19 #[.slice a L.length c, .int .i64 x] w fun e w' => ∃ r, e = .returned (.int .i64 r) ∧ PlaceIs L x r ∧ Below w.heap.size w w' := by
  have HA := Lib.hid ha; clear ha
  go_enter Try.func19, Try.ntmps19
  go_wp2_with fail
  go_loopw [5] (fun i wr => ∃ n : Nat, n ≤ L.length ∧ i = .int .i64 n ∧ (∀ j (hj : j < L.length), j < n → L[j] ≠ x) ∧ Below w.heap.size w wr) (fun i _ => L.length - (intOf i).toNat)
  case atStart => exact ⟨0, Nat.zero_le _, rfl, fun j _ hj => by omega, Below.refl _ _⟩
  case round =>
    obtain ⟨n, hn, rfl, hno, hbw⟩ := hrel
    have HW := Lib.hid hbw; have HNO := Lib.hid hno; clear hbw hno
    generalize wr = W1 at *
    by_cases hlt : n < L.length
    · obtain ⟨b1, o1, ha1, _, d1⟩ := (HA.out.below HW.out).num hlt
      subst ha1
      have HST : Hid (L[n] ≠ x → ∀ j (hj : j < L.length), j < n + 1 → L[j] ≠ x) := by
        intro h j hj hjn
        by_cases e : j = n
        · subst e; exact h
        · exact HNO.out j hj (by omega)
      have HYES : Hid (L[n] = x → PlaceIs L x (n : Int)) := fun h => .inr ⟨n, hlt, rfl, h, fun j hj => HNO.out j (by omega) hj⟩
      generalize L[n] = y at *
      have i3 : (n : Int) < (L.length : Int) := by omega
      have i4 : (0 : Int) ≤ (n : Int) := by omega
      by_cases hy : y = x
      · have HP := Lib.hid (HYES.out hy)
        have e1 : (y == x) = true := by rw [beq_iff_eq]; exact hy
        subst hy
        go_wp2_with fail
        go_ret
        exact ⟨_, rfl, HP.out, HW.out⟩
      · have HP := Lib.hid (HST.out hy)
        have e1 : (y == x) = false := by rw [beq_eq_false_iff_ne]; exact hy
        go_wp2_with fail
        go_roundw
        case rel => exact ⟨n + 1, by omega, by go_num, HP.out, HW.out⟩
        case measure => simp [intOf]; omega
    · obtain rfl : n = L.length := by omega
      have HP : Hid (PlaceIs L x (-1)) := .inl ⟨rfl, fun hx => by
        obtain ⟨j, hj, e⟩ := List.getElem_of_mem hx
        exact HNO.out j hj hj e⟩
      go_wp2_with fail
      go_ret
      exact ⟨_, rfl, HP.out, HW.out⟩
end Go.Proofs.Ytgeoggilnkcacaa

