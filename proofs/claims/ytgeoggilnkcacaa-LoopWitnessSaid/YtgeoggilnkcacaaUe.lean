import Derived.Test.YtgeoggilnkcacaaUd
import Derived.Test.YtgeoggilnkcacaaGe
import Derived.Deep.DeepMust
import Derived.Deep.DeepCutAuto
namespace Go.Proofs.Ytgeoggilnkcacaa
open Go Go.RowKit Go.Sort
set_option linter.unusedVariables false

/-! Rows of numbers. -/
def intV (l : List Int) : List Value := l.map (Value.int .i64)
theorem intV_length (l : List Int) : (intV l).length = l.length := by simp [intV]
theorem intV_append (l m : List Int) : intV (l ++ m) = intV l ++ intV m := by simp [intV]
theorem intV_one (l : List Int) : ∀ u ∈ intV l, u.oneCell' = true := by
  intro u hu; obtain ⟨x, _, rfl⟩ := List.mem_map.1 hu; rfl
theorem intV_get {l : List Int} {i : Nat} (h : i < l.length) : (intV l)[i]? = some (.int .i64 l[i]) := by simp [intV, h]
theorem Rd.num {w : World} {B : Nat} {a : Option Addr} {l : List Int} (h : Rd w B a (intV l)) {i : Nat} (hi : i < l.length) : ∃ b off, a = some ⟨b, off, none⟩ ∧ b < B ∧ w.cell? ⟨b, off + i, none⟩ = some (.int .i64 l[i]) := by
  obtain ⟨b, off, ha, hb, hc⟩ := h (by rw [intV_length]; omega)
  exact ⟨b, off, ha, hb, hc i _ (intV_get hi)⟩
theorem upL_stop {P : List Int} {a : Int} {n k : Nat} (hk : k ≤ n) (h : upL P k a < 0) : upL P n a = upL P k a := by
  rw [show n = k + (n - k) by omega, upL_add, upL_neg h]
theorem onL_none {P : List Int} {a : Int} (h : ∀ m, 1 ≤ m → m ≤ P.length → upL P m a ≠ a) : onL P a = false := by
  cases ho : onL P a with
  | false => rfl
  | true =>
    obtain ⟨n, h1, h2, h3⟩ := onL_iff.1 ho
    exact absurd h3 (h n h1 h2)
end Go.Proofs.Ytgeoggilnkcacaa

