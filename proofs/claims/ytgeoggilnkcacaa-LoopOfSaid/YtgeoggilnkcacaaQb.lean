import Derived.Test.YtgeoggilnkcacaaIb
import Derived.Test.YtgeoggilnkcacaaQa
namespace Go.Proofs.Ytgeoggilnkcacaa
open Go Go.RowKit Go.Sort
set_option linter.unusedVariables false

/-! Layers of least sums: the document's May, least (stage 15). -/
def edOk (n : Int) (e : Ed) : Bool := decide (0 ≤ e.fr) && decide (e.fr < n) && decide (0 ≤ e.to_) && decide (e.to_ < n) && decide (e.wt ≤ 4503599627370496) && decide (-4503599627370496 ≤ e.wt)
theorem edOk_iff {n : Int} {e : Ed} : edOk n e = true ↔ 0 ≤ e.fr ∧ e.fr < n ∧ 0 ≤ e.to_ ∧ e.to_ < n ∧ e.wt ≤ 4503599627370496 ∧ -4503599627370496 ≤ e.wt := by
  simp [edOk, and_assoc]
theorem edOk_no {n : Int} {e : Ed} (h : ¬ (0 ≤ e.fr ∧ e.fr < n ∧ 0 ≤ e.to_ ∧ e.to_ < n ∧ e.wt ≤ 4503599627370496 ∧ -4503599627370496 ≤ e.wt)) : edOk n e = false := by
  cases hb : edOk n e with
  | false => rfl
  | true => exact absurd (edOk_iff.1 hb) h
/-- Whether edges may be for so many hosts. -/
def mayE (n : Int) (E : List Ed) : Bool := decide (0 ≤ n) && decide (n ≤ 32) && E.all (edOk n)
theorem mayE_iff {n : Int} {E : List Ed} : mayE n E = true ↔ 0 ≤ n ∧ n ≤ 32 ∧ ∀ e ∈ E, edOk n e = true := by
  simp [mayE, and_assoc]
theorem mayE_low {n : Int} {E : List Ed} (h : ¬ (0 ≤ n ∧ n ≤ 32)) : mayE n E = false := by
  cases hb : mayE n E with
  | false => rfl
  | true => have := mayE_iff.1 hb; exact absurd ⟨this.1, this.2.1⟩ h
theorem mayE_no {n : Int} {E : List Ed} {k : Nat} (hk : k < E.length) (h : edOk n E[k] = false) : mayE n E = false := by
  cases hb : mayE n E with
  | false => rfl
  | true =>
    have := (mayE_iff.1 hb).2.2 _ (List.getElem_mem hk)
    rw [h] at this; cases this
def MayPay (F : Nat) : Prop := ∀ (n : Int) (a : Option Addr) (c : Nat) (E : List Ed) (w : World), Rd w w.heap.size a (edsV E) → E.length ≤ 100000 → (∀ e ∈ E, e.Ok) → I64 n →
  Calls Try.prog F #[.int .i64 n, .slice a E.length c] w fun x w' => x = .returned (.bool (mayE n E)) ∧ Below w.heap.size w w'
set_option maxHeartbeats 8000000 in
theorem refMay_any15 : MayPay 11 := by
  intro n a c E w ha hl hok hn
  have HA := Lib.hid ha; clear ha hok
  have HLOW := Lib.hid (fun h => mayE_low (n := n) (E := E) h)
  by_cases h0 : n < 0
  · have HE := Lib.hid (HLOW.out (by omega))
    go_enter Try.func11, Try.ntmps11
    go_wp2
    go_ret
    exact ⟨ret_bool HE.out.symm, Below.refl _ _⟩
  by_cases h32 : 32 < n
  · have HE := Lib.hid (HLOW.out (by omega))
    go_enter Try.func11, Try.ntmps11
    go_wp2
    go_ret
    exact ⟨ret_bool HE.out.symm, Below.refl _ _⟩
  have HNO := Lib.hid (fun k hk h => mayE_no (n := n) (E := E) (k := k) hk (edOk_no h))
  have HYES := Lib.hid (fun (h : ∀ e ∈ E, edOk n e = true) => (mayE_iff (n := n) (E := E)).2 ⟨by omega, by omega, h⟩)
  clear hn HLOW
  go_enter Try.func11, Try.ntmps11
  go_wp2_with fail
  go_loopw [5] (fun i wr => ∃ k : Nat, k ≤ E.length ∧ i = .int .i64 k ∧ (∀ j (h : j < E.length), j < k → edOk n E[j] = true) ∧ Below w.heap.size w wr) (fun i _ => E.length - (intOf i).toNat)
  case atStart => exact ⟨0, Nat.zero_le _, rfl, fun j h hj => absurd hj (Nat.not_lt_zero _), Below.refl _ _⟩
  case round =>
    obtain ⟨k, hk, rfl, ht, hbw⟩ := hrel
    have HW := Lib.hid hbw; have HT := Lib.hid ht; clear hbw ht
    generalize wr = W1 at *
    by_cases hlt : k < E.length
    · obtain ⟨b1, o1, hb1, _, hE⟩ := (HA.out.below HW.out).edge hlt
      subst hb1
      have HN1 := Lib.hid (HNO.out k hlt)
      have HT1 : Hid ((0 ≤ E[k].fr ∧ E[k].fr < n ∧ 0 ≤ E[k].to_ ∧ E[k].to_ < n ∧ E[k].wt ≤ 4503599627370496 ∧ -4503599627370496 ≤ E[k].wt) → ∀ j (h : j < E.length), j < k + 1 → edOk n E[j] = true) := fun h j hj hlt => by
        by_cases e : j = k
        · subst e; exact edOk_iff.2 h
        · exact HT.out j hj (by omega)
      generalize E[k] = e at *
      have i3 : (k : Int) < (E.length : Int) := by omega
      have i4 : (0 : Int) ≤ (k : Int) := by omega
      obtain ⟨c0, c1, c2, c3, c4, c5⟩ := hE
      obtain ⟨x, y, z, p, q, t⟩ := e
      simp only at c0 c1 c2 c3 c4 c5 HN1 HT1
      have hBs := HW.out.size
      by_cases x0 : x < 0
      · have HE := Lib.hid (HN1.out (by omega))
        go_wp2_with fail
        go_ret
        exact ⟨ret_bool HE.out.symm, HW.out.alloc hBs _⟩
      by_cases x1 : n ≤ x
      · have HE := Lib.hid (HN1.out (by omega))
        go_wp2_with fail
        go_ret
        exact ⟨ret_bool HE.out.symm, HW.out.alloc hBs _⟩
      by_cases y0 : y < 0
      · have HE := Lib.hid (HN1.out (by omega))
        go_wp2_with fail
        go_ret
        exact ⟨ret_bool HE.out.symm, HW.out.alloc hBs _⟩
      by_cases y1 : n ≤ y
      · have HE := Lib.hid (HN1.out (by omega))
        go_wp2_with fail
        go_ret
        exact ⟨ret_bool HE.out.symm, HW.out.alloc hBs _⟩
      by_cases z0 : 4503599627370496 < z
      · have HE := Lib.hid (HN1.out (by omega))
        go_wp2_with fail
        go_ret
        exact ⟨ret_bool HE.out.symm, HW.out.alloc hBs _⟩
      by_cases z1 : z < -4503599627370496
      · have HE := Lib.hid (HN1.out (by omega))
        go_wp2_with fail
        go_ret
        exact ⟨ret_bool HE.out.symm, HW.out.alloc hBs _⟩
      have HE := Lib.hid (HT1.out (by omega))
      go_wp2_with fail
      go_roundw
      case rel => exact ⟨k + 1, by omega, by go_num, HE.out, HW.out.alloc hBs _⟩
      case measure => simp [intOf]; omega
    · obtain rfl : k = E.length := by omega
      have HE := Lib.hid (HYES.out fun e he => by obtain ⟨j, hj, rfl⟩ := List.mem_iff_getElem.1 he; exact HT.out j hj hj)
      go_wp2_with fail
      go_ret
      exact ⟨ret_bool HE.out.symm, HW.out⟩
end Go.Proofs.Ytgeoggilnkcacaa

