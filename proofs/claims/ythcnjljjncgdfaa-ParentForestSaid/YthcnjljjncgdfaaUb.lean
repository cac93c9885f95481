import Derived.Test.YthcnjljjncgdfaaUa
namespace Go.Proofs.Ythcnjljjncgdfaa
set_option linter.unusedVariables false

/-! No cycle is left: plain facts. -/
theorem pigeon : ∀ (n : Nat) (f : Nat → Nat), (∀ i, i ≤ n → f i < n) → ∃ i j, i < j ∧ j ≤ n ∧ f i = f j
  | 0, f, h => absurd (h 0 (Nat.le_refl _)) (Nat.not_lt_zero _)
  | n + 1, f, h => by
    by_cases hx : ∃ i, i ≤ n ∧ f i = f (n + 1)
    · obtain ⟨i, hi, e⟩ := hx
      exact ⟨i, n + 1, by omega, Nat.le_refl _, e⟩
    · have hne : ∀ i, i ≤ n → f i ≠ f (n + 1) := fun i hi e => hx ⟨i, hi, e⟩
      obtain ⟨i, j, hij, hj, e⟩ := pigeon n (fun i => if f (n + 1) < f i then f i - 1 else f i) (fun i hi => by
        have h1 := h i (by omega); have h2 := h (n + 1) (Nat.le_refl _); have h3 := hne i hi
        show (if f (n + 1) < f i then f i - 1 else f i) < n
        split <;> omega)
      refine ⟨i, j, hij, by omega, ?_⟩
      have h1 := hne i (by omega); have h2 := hne j hj
      have e : (if f (n + 1) < f i then f i - 1 else f i) = (if f (n + 1) < f j then f j - 1 else f j) := e
      split at e <;> split at e <;> omega
theorem least_of (f : Nat → Int) : ∀ k, 1 ≤ k → ∃ m, m < k ∧ ∀ j, j < k → f m ≤ f j
  | 1, _ => ⟨0, by omega, fun j hj => by obtain rfl : j = 0 := by omega
                                         exact Int.le_refl _⟩
  | k + 2, _ => by
    obtain ⟨m, hm, h⟩ := least_of f (k + 1) (by omega)
    by_cases hc : f m ≤ f (k + 1)
    · exact ⟨m, by omega, fun j hj => by
        by_cases e : j = k + 1
        · subst e; exact hc
        · exact h j (by omega)⟩
    · exact ⟨k + 1, by omega, fun j hj => by
        by_cases e : j = k + 1
        · subst e; exact Int.le_refl _
        · have := h j (by omega); omega⟩
theorem upL_period {P : List Int} {d : Int} {k : Nat} (h : upL P k d = d) (r : Nat) : ∀ q, upL P (q * k + r) d = upL P r d
  | 0 => by rw [Nat.zero_mul, Nat.zero_add]
  | q + 1 => by
    rw [Nat.succ_mul, show q * k + k + r = k + (q * k + r) by omega, upL_add, h]
    exact upL_period h r q
theorem cut_right {P : List Int} (hP : ValidP P) {i : Nat} (hi : i < P.length) : upL (cutP P) (P.length + 1) i < 0 := by
  rcases Int.lt_or_le (upL (cutP P) (P.length + 1) i) 0 with h | h
  · exact h
  exfalso
  have hQ := cutP_valid hP
  have hv : ∀ m, m ≤ P.length → 0 ≤ upL (cutP P) m i ∧ upL (cutP P) m i < P.length := fun m hm => by
    refine ⟨upL_back (by omega) h, ?_⟩
    have := (upL_range hQ m i (by omega) (by rw [cutP_length]; omega)).2
    rwa [cutP_length] at this
  obtain ⟨a, b, hab, hb, e⟩ := pigeon P.length (fun m => (upL (cutP P) m i).toNat) (fun m hm => by
    have := hv m hm
    show (upL (cutP P) m i).toNat < P.length
    omega)
  have ha' := hv a (by omega); have hb' := hv b hb
  have e : upL (cutP P) a i = upL (cutP P) b i := by
    have e : (upL (cutP P) a i).toNat = (upL (cutP P) b i).toNat := e
    omega
  obtain ⟨d, hd⟩ : ∃ d, d = upL (cutP P) a i := ⟨_, rfl⟩
  obtain ⟨k, hk⟩ : ∃ k, k = b - a := ⟨_, rfl⟩
  have hdk : upL (cutP P) k d = d := by
    rw [hd, ← upL_add, hk, show a + (b - a) = b by omega]; exact e.symm
  obtain ⟨m, hm, hmin⟩ := least_of (fun m => upL (cutP P) m d) k (by omega)
  have hmin : ∀ j, j < k → upL (cutP P) m d ≤ upL (cutP P) j d := hmin
  obtain ⟨c, hc⟩ : ∃ c, c = upL (cutP P) m d := ⟨_, rfl⟩
  have hc0 : 0 ≤ c ∧ c < P.length := by
    rw [hc, hd, ← upL_add]; exact hv (a + m) (by omega)
  have hck : upL (cutP P) k c = c := by
    rw [hc, ← upL_add, Nat.add_comm, upL_add, hdk]
  have hcm : ∀ j, c ≤ upL (cutP P) j c := fun j => by
    have e1 : upL (cutP P) j c = upL (cutP P) ((m + j) % k) d := by
      rw [hc, ← upL_add]
      have e2 : m + j = (m + j) / k * k + (m + j) % k := by rw [Nat.mul_comm]; exact (Nat.div_add_mod _ _).symm
      rw [e2, upL_period hdk]
      congr 1
      rw [← e2]
    rw [e1, hc]
    exact hmin _ (Nat.mod_lt _ (by omega))
  have ec : ((c.toNat : Nat) : Int) = c := by omega
  exact cutP_no_cycle hP (c := c.toNat) (by omega) (k := k) (by omega) (by omega) (by rw [ec]; exact hck) (fun j => by rw [ec]; exact hcm j)
/-- Is it a forest's? -/
def rightL (P : List Int) : Bool := P.all (fun x => decide (-1 ≤ x) && decide (x < P.length)) && (List.range P.length).all fun i => decide (upL P (P.length + 1) i < 0)
theorem rightL_cut {P : List Int} (hP : ValidP P) : rightL (cutP P) = true := by
  unfold rightL
  rw [Bool.and_eq_true, List.all_eq_true, List.all_eq_true]
  refine ⟨fun x hx => ?_, fun i hi => ?_⟩
  · have := cutP_valid hP x hx
    simp only [Bool.and_eq_true, decide_eq_true_eq]; exact this
  · rw [cutP_length] at hi ⊢
    exact decide_eq_true (cut_right hP (List.mem_range.1 hi))
end Go.Proofs.Ythcnjljjncgdfaa
