import Derived.Test.YtkjngmlebflffaaUh
import Derived.Test.YtkjngmlebflffaaUj
namespace Go.Proofs.Ytkjngmlebflffaa
open Go Go.RowKit Go.Sort
set_option linter.unusedVariables false

/-! The landed code: the least of a cycle. -/
set_option maxHeartbeats 1000000 in
theorem least_any (a : Option Addr) (c : Nat) (P : List Int) (y : Int) (w : World) (hP : ValidP P) (ha : Rd w w.heap.size a (intV P)) (hl : P.length ≤ 100000) (hy : 0 ≤ y) (hyl : y < P.length) (hon : onL P y = true) :
    Calls Try.prog 33 #[.slice a P.length c, .int .i64 y] w fun e w' => (∃ k : Nat, e = .returned (.int .i64 (k : Int)) ∧ k < P.length ∧ leastL P k = true ∧ ∃ t, upL P t y = (k : Int)) ∧ Below w.heap.size w w' := by
  obtain ⟨r, r1, r2, r3, r4⟩ := first_back hon
  have HA := Lib.hid ha; have HP := Lib.hid hP; have HR3 := Lib.hid r3; have HR4 := Lib.hid r4; clear ha hP r3 r4 hon
  have hyn : y.toNat < P.length := by omega
  obtain ⟨b1, o1, ha1, _, c0⟩ := HA.out.num hyn
  have HA1 := Lib.hid ha1
  have H1 : Hid (P[y.toNat] = upL P 1 y) := by show _ = _; rw [upL_one hy]; simp [List.getD, hyn]
  generalize P[y.toNat] = z0 at *
  subst ha1
  go_enter Try.func33, Try.ntmps33
  go_wp2
  go_loopg [5, 6] r (fun kx f p wr => ∃ (m : Nat) (x z : Int), f = .int .i64 x ∧ p = .int .i64 z ∧ wr = w ∧ 1 ≤ m ∧ m ≤ r ∧ r - m ≤ kx ∧ z = upL P m y ∧ ∃ k, k < m ∧ x = upL P k y ∧ ∀ j, j < m → upL P k y ≤ upL P j y)
  case atStart =>
    refine ⟨1, y, z0, rfl, rfl, rfl, Nat.le_refl _, r1, by omega, H1.out, 0, by omega, rfl, fun j hj => ?_⟩
    rw [show j = 0 by omega]; exact Int.le_refl _
  case round =>
    obtain ⟨m, x, z, rfl, rfl, hw, hm1, hmr, hmk, hz, k, hk, hx, hle⟩ := hrel
    subst hw
    by_cases hq : z = y
    · have hm : m = r := by
        rcases Nat.lt_or_ge m r with h | h
        · exact absurd (hz.symm.trans hq) (HR4.out m hm1 h)
        · omega
      subst hm
      obtain ⟨c', hc1, hc2, hc3⟩ := least_end HP.out hy hyl r1 r2 HR3.out hk hle
      rw [hc2] at hx
      have HC2 := Lib.hid hc2; have HC3 := Lib.hid hc3
      have q1 : (z != y) = false := by simpa using hq
      clear hz hle hq hc2 hc3
      subst hx
      go_wp2
      go_ret
      exact ⟨⟨c', rfl, hc1, HC3.out, k, HC2.out⟩, Below.refl _ _⟩
    · have hm : m < r := by
        rcases Nat.lt_or_ge m r with h | h
        · exact h
        · exfalso; apply hq; rw [hz, show m = r by omega]; exact HR3.out
      have hz0 : 0 ≤ z := by rw [hz]; exact back_pos hy HR3.out hmr
      have hzl : z < P.length := by rw [hz]; exact (upL_range HP.out m y (by omega) hyl).2
      have hzn : z.toNat < P.length := by omega
      obtain ⟨b2, o2, ha2, _, c1⟩ := HA.out.num hzn
      obtain ⟨rfl, rfl⟩ : b1 = b2 ∧ o1 = o2 := by injection ha2 with h; injection h; simp_all
      have HN : Hid (P[z.toNat] = upL P (m + 1) y) := by
        show _ = _
        rw [upL_next, ← hz, upL_one hz0]; simp [List.getD, hzn]
      have HMIN1 : Hid (x ≤ z → ∃ k, k < m + 1 ∧ x = upL P k y ∧ ∀ j, j < m + 1 → upL P k y ≤ upL P j y) := fun h => ⟨k, by omega, hx, fun j hj => by
        by_cases e : j = m
        · subst e; omega
        · exact hle j (by omega)⟩
      have HMIN2 : Hid (¬ x ≤ z → ∃ k, k < m + 1 ∧ z = upL P k y ∧ ∀ j, j < m + 1 → upL P k y ≤ upL P j y) := fun h => ⟨m, by omega, hz, fun j hj => by
        by_cases e : j = m
        · subst e; exact Int.le_refl _
        · have := hle j (by omega); omega⟩
      generalize P[z.toNat] = z2 at *
      have q1 : (z != y) = true := by simpa using hq
      clear hz hle hx hq ha2
      by_cases h : x ≤ z
      · have HM := Lib.hid (HMIN1.out h)
        go_wp2
        go_roundg (r - (m + 1))
        case measure => omega
        case rel => exact ⟨m + 1, _, z2, rfl, rfl, rfl, by omega, by omega, Nat.le_refl _, HN.out, HM.out⟩
      · have HM := Lib.hid (HMIN2.out h)
        go_wp2
        go_roundg (r - (m + 1))
        case measure => omega
        case rel => exact ⟨m + 1, _, z2, rfl, rfl, rfl, by omega, by omega, Nat.le_refl _, HN.out, HM.out⟩
end Go.Proofs.Ytkjngmlebflffaa

