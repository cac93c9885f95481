import Derived.Test.YtkjngmlebflffaaAc
namespace Go.Proofs.Ytkjngmlebflffaa
open Go Go.RowKit Go.Sort
set_option linter.unusedVariables false

/-! How deep the deepest one stands (stage 11). -/
def depthT (R : List It) (n : Nat) : Int := (R.take n).foldl (fun m y => if m < (y.depth : Int) then (y.depth : Int) else m) (-1)
theorem depthT_step {R : List It} {n : Nat} (h : n < R.length) : depthT R (n + 1) = if depthT R n < (R[n].depth : Int) then (R[n].depth : Int) else depthT R n := by
  unfold depthT
  rw [List.take_succ_eq_append_getElem h, List.foldl_append]; rfl
def depthL (P : List Int) : Int := depthT (rowL P) (rowL P).length
theorem depthT_ge (R : List It) : ∀ n, -1 ≤ depthT R n
  | 0 => Int.le_refl _
  | n + 1 => by
    have ih := depthT_ge R n
    by_cases h : n < R.length
    · rw [depthT_step h]; split <;> omega
    · unfold depthT at ih ⊢
      rw [List.take_of_length_le (by omega)]
      rw [List.take_of_length_le (by omega)] at ih
      exact ih
/-- There is none just if there is no row. -/
theorem depthT_none (R : List It) (n : Nat) : depthT R n = -1 ↔ R.take n = [] := by
  constructor
  · intro h
    cases n with
    | zero => rfl
    | succ n =>
      by_cases hr : n < R.length
      · rw [depthT_step hr] at h
        have := depthT_ge R n
        split at h <;> omega
      · rcases Nat.eq_zero_or_pos R.length with h0 | h0
        · rw [List.eq_nil_of_length_eq_zero h0]; rfl
        · exfalso
          have e : depthT R (n + 1) = depthT R (R.length - 1 + 1) := by
            unfold depthT
            rw [List.take_of_length_le (by omega), List.take_of_length_le (by omega)]
          rw [e, depthT_step (by omega)] at h
          have := depthT_ge R (R.length - 1)
          split at h <;> omega
  · intro h; unfold depthT; rw [h]; rfl
theorem row_le (P : List Int) : (rowL P).length ≤ P.length := by
  cases hr : rightL P with
  | true => rw [row_yes hr, row_length hr]; exact Nat.le_refl _
  | false => rw [row_no hr]; exact Nat.zero_le _
theorem row_depth {P : List Int} : ∀ y ∈ rowL P, y.depth ≤ P.length := by
  intro y hy
  cases hr : rightL P with
  | true =>
    rw [row_yes hr] at hy
    exact (sub_mem hr _ _ (at_root P) _ hy).lv.le hr
  | false => rw [row_no hr] at hy; cases hy
/-- What a depth pays. -/
def DepthPay (F : Nat) : Prop := ∀ (a : Option Addr) (c : Nat) (P : List Int) (w : World), Rd w w.heap.size a (intV P) → P.length ≤ 100000 → (∀ x ∈ P, -9223372036854775808 ≤ x ∧ x < 9223372036854775808) →
  Calls Try.prog F #[.slice a P.length c] w fun e w' => e = .returned (.int .i64 (depthL P)) ∧ Below w.heap.size w w'
set_option maxHeartbeats 2000000 in
theorem refDepth_any : DepthPay 12 := by
  intro a c P w ha hl hok
  have HA := Lib.hid ha; have HOK := Lib.hid hok; clear ha hok
  have hrl := row_le P
  have HD := Lib.hid (fun i h => depthT_step (R := rowL P) (n := i) h)
  go_enter Try.func12, Try.ntmps12
  go_wp2_with (go_at_call 10
               refine (refRow_any a c P w HA.out hl HOK.out).mono ?_
               rintro e w1 ⟨v, rfl, hown, hb⟩
               obtain ⟨va, vc, rfl, _, _, _⟩ := own_slice hown
               have HO := Lib.hid hown; have HB := Lib.hid hb; clear hown hb)
  have HF : Hid (depthT (rowL P) (rowL P).length = depthL P) := rfl
  generalize rowL P = R at *
  go_loopw [4, 5] (fun m i wr => ∃ (n : Nat) (x : Int), n ≤ R.length ∧ i = .int .i64 n ∧ m = .int .i64 x ∧ Hid (x = depthT R n) ∧ wr = w1) (fun _ i _ => R.length - (intOf i).toNat)
  case atStart => exact ⟨0, -1, Nat.zero_le _, rfl, rfl, Lib.hid rfl, rfl⟩
  case round =>
    obtain ⟨n, x, hn, rfl, rfl, HX, hw⟩ := hrel
    subst hw
    by_cases hlt : n < R.length
    · obtain ⟨b1, o1, ha1, _, c0, c1, c2⟩ := (Rd.own HO.out).item hlt
      subst ha1
      have i3 : (n : Int) < (R.length : Int) := by omega
      have i4 : (0 : Int) ≤ (n : Int) := by omega
      have HS := Lib.hid (HD.out n hlt)
      rw [← HX.out] at HS
      generalize R[n] = y at *
      by_cases hd : x < (y.depth : Int)
      · have HE : Hid ((y.depth : Int) = depthT R (n + 1)) := by show _ = _; rw [HS.out, if_pos hd]
        clear c0 c2
        go_wp2_with fail
        go_roundw
        case rel => exact ⟨n + 1, _, by omega, by go_num, rfl, HE.out, trivial⟩
        case measure => simp [intOf]; omega
      · have HE : Hid (x = depthT R (n + 1)) := by show _ = _; rw [HS.out, if_neg hd]
        clear c0 c2
        go_wp2_with fail
        go_roundw
        case rel => exact ⟨n + 1, x, by omega, by go_num, rfl, HE.out, trivial⟩
        case measure => simp [intOf]; omega
    · obtain rfl : n = R.length := by omega
      rw [HF.out] at HX
      go_wp2_with fail
      go_ret
      exact ⟨ret_i64 HX.out, HB.out⟩
end Go.Proofs.Ytkjngmlebflffaa
