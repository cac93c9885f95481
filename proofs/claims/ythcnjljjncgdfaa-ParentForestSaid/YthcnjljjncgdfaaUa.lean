import Derived.Test.YthcnjljjncgdfaaRows
namespace Go.Proofs.Ythcnjljjncgdfaa
set_option linter.unusedVariables false

/-! Who is below whom: plain facts (stage 10). -/
def upL (P : List Int) : Nat → Int → Int
  | 0, a => a
  | n + 1, a => if 0 ≤ a then upL P n (P.getD a.toNat (-1)) else a
def ValidP (P : List Int) : Prop := ∀ x ∈ P, -1 ≤ x ∧ x < P.length
theorem upL_neg {P : List Int} {a : Int} (h : a < 0) : ∀ n, upL P n a = a
  | 0 => rfl
  | n + 1 => by unfold upL; rw [if_neg (by omega)]
theorem upL_succ {P : List Int} {a : Int} (h : 0 ≤ a) (n : Nat) : upL P (n + 1) a = upL P n (P.getD a.toNat (-1)) := by
  rw [upL, if_pos h]
theorem upL_add (P : List Int) : ∀ (m n : Nat) (a : Int), upL P (m + n) a = upL P n (upL P m a)
  | 0, n, a => by rw [Nat.zero_add]; rfl
  | m + 1, n, a => by
    by_cases h : 0 ≤ a
    · rw [show m + 1 + n = (m + n) + 1 by omega, upL_succ h, upL_succ h, upL_add P m n]
    · have h' : a < 0 := by omega
      rw [upL_neg h', upL_neg h', upL_neg h']
theorem upL_one {P : List Int} {a : Int} (h : 0 ≤ a) : upL P 1 a = P.getD a.toNat (-1) := by rw [upL_succ h]; rfl
theorem upL_next (P : List Int) (n : Nat) (a : Int) : upL P (n + 1) a = upL P 1 (upL P n a) := upL_add P n 1 a
theorem upL_range {P : List Int} (hP : ValidP P) : ∀ (n : Nat) (a : Int), -1 ≤ a → a < P.length → -1 ≤ upL P n a ∧ upL P n a < P.length
  | 0, a, h1, h2 => ⟨h1, h2⟩
  | n + 1, a, h1, h2 => by
    by_cases h : 0 ≤ a
    · rw [upL_succ h]
      have hm : a.toNat < P.length := by omega
      have := hP _ (List.getElem_mem hm)
      have e : P.getD a.toNat (-1) = P[a.toNat] := by simp [List.getD, hm]
      rw [e]
      exact upL_range hP n _ this.1 this.2
    · have h' : a < 0 := by omega
      rw [upL_neg h']; exact ⟨h1, h2⟩
/-- Where a later place is not below 0, no earlier one is. -/
theorem upL_back {P : List Int} {a : Int} {m n : Nat} (hmn : m ≤ n) (h : 0 ≤ upL P n a) : 0 ≤ upL P m a := by
  rcases Int.lt_or_le (upL P m a) 0 with h1 | h1
  · have : upL P n a = upL P m a := by
      rw [show n = m + (n - m) by omega, upL_add, upL_neg h1]
    omega
  · exact h1
/-- Is a place on a cycle? -/
def onL (P : List Int) (a : Int) : Bool := (List.range P.length).any fun m => upL P (m + 1) a == a
theorem onL_iff {P : List Int} {a : Int} : onL P a = true ↔ ∃ n, 1 ≤ n ∧ n ≤ P.length ∧ upL P n a = a := by
  unfold onL
  rw [List.any_eq_true]
  constructor
  · rintro ⟨m, hm, e⟩
    exact ⟨m + 1, by omega, by have := List.mem_range.1 hm; omega, by simpa using e⟩
  · rintro ⟨n, h1, h2, e⟩
    exact ⟨n - 1, List.mem_range.2 (by omega), by rw [show n - 1 + 1 = n by omega]; simpa using e⟩
/-- The least of its cycle. -/
def leastL (P : List Int) (i : Nat) : Bool := onL P i && (List.range (P.length + 1)).all fun m => decide ((i : Int) ≤ upL P m i)
theorem leastL_iff {P : List Int} {i : Nat} : leastL P i = true ↔ onL P i = true ∧ ∀ m, m ≤ P.length → (i : Int) ≤ upL P m i := by
  unfold leastL
  rw [Bool.and_eq_true, List.all_eq_true]
  refine and_congr Iff.rfl ⟨fun h m hm => by simpa using h m (List.mem_range.2 (by omega)), fun h m hm => by simpa using h m (by have := List.mem_range.1 hm; omega)⟩
/-- Of each cycle the least one loses its parent. -/
def cutP (P : List Int) : List Int := (List.range P.length).map fun i => if leastL P i then -1 else P.getD i (-1)
theorem cutP_length (P : List Int) : (cutP P).length = P.length := by simp [cutP]
theorem cutP_get {P : List Int} {i : Nat} (h : i < P.length) : (cutP P).getD i (-1) = if leastL P i then -1 else P.getD i (-1) := by
  unfold cutP; simp [List.getD, h]
theorem cutP_valid {P : List Int} (hP : ValidP P) : ValidP (cutP P) := by
  intro x hx
  rw [cutP_length]
  obtain ⟨i, hi, rfl⟩ := List.mem_map.1 hx
  have hi := List.mem_range.1 hi
  split
  · exact ⟨Int.le_refl _, by omega⟩
  · have := hP _ (List.getElem_mem hi)
    have e : P.getD i (-1) = P[i] := by simp [List.getD, hi]
    rw [e]; exact this
/-- Where the cut one goes up, the other goes the same way. -/
theorem cutP_up {P : List Int} (hP : ValidP P) : ∀ (m : Nat) (a : Int), 0 ≤ a → a < P.length → 0 ≤ upL (cutP P) m a → upL P m a = upL (cutP P) m a
  | 0, a, _, _, _ => rfl
  | m + 1, a, h0, h1, h => by
    rw [upL_succ h0] at h ⊢
    rw [upL_succ h0]
    have hi : a.toNat < P.length := by omega
    have hg := cutP_get (P := P) hi
    rw [hg] at h ⊢
    by_cases hl : leastL P a.toNat = true
    · have h' : (-1 : Int) < 0 := by omega
      rw [if_pos hl, upL_neg h'] at h; omega
    · rw [if_neg hl] at h ⊢
      have e : P.getD a.toNat (-1) = P[a.toNat] := by simp [List.getD, hi]
      have hv := hP _ (List.getElem_mem hi)
      rw [e] at h ⊢
      rcases Int.lt_or_le P[a.toNat] 0 with h2 | h2
      · rw [upL_neg h2, upL_neg h2]
      · exact cutP_up hP m _ h2 hv.2 h
theorem cutP_no_cycle {P : List Int} (hP : ValidP P) {c : Nat} (hc : c < P.length) {k : Nat} (hk : 1 ≤ k) (hkn : k ≤ P.length) (hcy : upL (cutP P) k c = c) (hle : ∀ m, (c : Int) ≤ upL (cutP P) m c) : False := by
  have key : ∀ m, upL P m c = upL (cutP P) m c := fun m => cutP_up hP m c (by omega) (by omega) (by have := hle m; omega)
  have hon : onL P c = true := onL_iff.2 ⟨k, hk, hkn, (key k).trans hcy⟩
  have hl : leastL P c = true := leastL_iff.2 ⟨hon, fun m _ => by rw [key]; exact hle m⟩
  have h1 := hle 1
  rw [upL_one (by omega), Int.toNat_natCast, cutP_get hc, if_pos hl] at h1
  omega
end Go.Proofs.Ythcnjljjncgdfaa
