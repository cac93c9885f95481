import Derived.Test.YtgeoggilnkcacaaRows
namespace Go.Proofs.Ytgeoggilnkcacaa
set_option linter.unusedVariables false

/-! Who is below whom: plain facts (stage 10). -/
def upL (P : List Int) : Nat → Int → Int
  | 0, a => a
  | n + 1, a => if 0 ≤ a then upL P n (P.getD a.toNat (-1)) else a
def ValidP (P : List Int) : Prop := ∀ x ∈ P, -1 ≤ x ∧ x < P.length
theorem upL_neg {P : List Int} {a : Int} (h : a < 0) : ∀ n, upL P n a = a
  | 0 => rfl
  | n + 1 => by unfold upL; rw [if_neg (by omega)]
theorem upL_succ {P : List Int} {a : Int} (h : 0 ≤ a) (n : Nat) : upL P (n + 1) a = upL P n (P.getD a.toNat (-1)) := by
  rw [upL, if_pos h]
theorem upL_add (P : List Int) : ∀ (m n : Nat) (a : Int), upL P (m + n) a = upL P n (upL P m a)
  | 0, n, a => by rw [Nat.zero_add]; rfl
  | m + 1, n, a => by
    by_cases h : 0 ≤ a
    · rw [show m + 1 + n = (m + n) + 1 by omega, upL_succ h, upL_succ h, upL_add P m n]
    · have h' : a < 0 := by omega
      rw [upL_neg h', upL_neg h', upL_neg h']
theorem upL_one {P : List Int} {a : Int} (h : 0 ≤ a) : upL P 1 a = P.getD a.toNat (-1) := by rw [upL_succ h]; rfl
theorem upL_next (P : List Int) (n : Nat) (a : Int) : upL P (n + 1) a = upL P 1 (upL P n a) := upL_add P n 1 a
theorem upL_range {P : List Int} (hP : ValidP P) : ∀ (n : Nat) (a : Int), -1 ≤ a → a < P.length → -1 ≤ upL P n a ∧ upL P n a < P.length
  | 0, a, h1, h2 => ⟨h1, h2⟩
  | n + 1, a, h1, h2 => by
    by_cases h : 0 ≤ a
    · rw [upL_succ h]
      have hm : a.toNat < P.length := by omega
      have := hP _ (List.getElem_mem hm)
      have e : P.getD a.toNat (-1) = P[a.toNat] := by simp [List.getD, hm]
      rw [e]
      exact upL_range hP n _ this.1 this.2
    · have h' : a < 0 := by omega
      rw [upL_neg h']; exact ⟨h1, h2⟩
/-- Where a later place is not below 0, no earlier one is. -/
theorem upL_back {P : List Int} {a : Int} {m n : Nat} (hmn : m ≤ n) (h : 0 ≤ upL P n a) : 0 ≤ upL P m a := by
  rcases Int.lt_or_le (upL P m a) 0 with h1 | h1
  · have : upL P n a = upL P m a := by
      rw [show n = m + (n - m) by omega, upL_add, upL_neg h1]
    omega
  · exact h1
/-- Is a place on a cycle? -/
def onL (P : List Int) (a : Int) : Bool := (List.range P.length).any fun m => upL P (m + 1) a == a
theorem onL_iff {P : List Int} {a : Int} : onL P a = true ↔ ∃ n, 1 ≤ n ∧ n ≤ P.length ∧ upL P n a = a := by
  unfold onL
  rw [List.any_eq_true]
  constructor
  · rintro ⟨m, hm, e⟩
    exact ⟨m + 1, by omega, by have := List.mem_range.1 hm; omega, by simpa using e⟩
  · rintro ⟨n, h1, h2, e⟩
    exact ⟨n - 1, List.mem_range.2 (by omega), by rw [show n - 1 + 1 = n by omega]; simpa using e⟩
/-- The least of its cycle. -/
def leastL (P : List Int) (i : Nat) : Bool := onL P i && (List.range (P.length + 1)).all fun m => decide ((i : Int) ≤ upL P m i)
theorem leastL_iff {P : List Int} {i : Nat} : leastL P i = true ↔ onL P i = true ∧ ∀ m, m ≤ P.length → (i : Int) ≤ upL P m i := by
  unfold leastL
  rw [Bool.and_eq_true, List.all_eq_true]
  refine and_congr Iff.rfl ⟨fun h m hm => by simpa using h m (List.mem_range.2 (by omega)), fun h m hm => by simpa using h m (by have := List.mem_range.1 hm; omega)⟩
/-- Of each cycle the least one loses its parent. -/
def cutP (P : List Int) : List Int := (List.range P.length).map fun i => if leastL P i then -1 else P.getD i (-1)
theorem cutP_length (P : List Int) : (cutP P).length = P.length := by simp [cutP]
theorem cutP_get {P : List Int} {i : Nat} (h : i < P.length) : (cutP P).getD i (-1) = if leastL P i then -1 else P.getD i (-1) := by
  unfold cutP; simp [List.getD, h]
theorem cutP_valid {P : List Int} (hP : ValidP P) : ValidP (cutP P) := by
  intro x hx
  rw [cutP_length]
  obtain ⟨i, hi, rfl⟩ := List.mem_map.1 hx
  have hi := List.mem_range.1 hi
  split
  · exact ⟨Int.le_refl _, by omega⟩
  · have := hP _ (List.getElem_mem hi)
    have e : P.getD i (-1) = P[i] := by simp [List.getD, hi]
    rw [e]; exact this
/-- Where the cut one goes up, the other goes the same way. -/
theorem cutP_up {P : List Int} (hP : ValidP P) : ∀ (m : Nat) (a : Int), 0 ≤ a → a < P.length → 0 ≤ upL (cutP P) m a → upL P m a = upL (cutP P) m a
  | 0, a, _, _, _ => rfl
  | m + 1, a, h0, h1, h => by
    rw [upL_succ h0] at h ⊢
    rw [upL_succ h0]
    have hi : a.toNat < P.length := by omega
    have hg := cutP_get (P := P) hi
    rw [hg] at h ⊢
    by_cases hl : leastL P a.toNat = true
    · have h' : (-1 : Int) < 0 := by omega
      rw [if_pos hl, upL_neg h'] at h; omega
    · rw [if_neg hl] at h ⊢
      have e : P.getD a.toNat (-1) = P[a.toNat] := by simp [List.getD, hi]
      have hv := hP _ (List.getElem_mem hi)
      rw [e] at h ⊢
      rcases Int.lt_or_le P[a.toNat] 0 with h2 | h2
      · rw [upL_neg h2, upL_neg h2]
      · exact cutP_up hP m _ h2 hv.2 h
theorem cutP_no_cycle {P : List Int} (hP : ValidP P) {c : Nat} (hc : c < P.length) {k : Nat} (hk : 1 ≤ k) (hkn : k ≤ P.length) (hcy : upL (cutP P) k c = c) (hle : ∀ m, (c : Int) ≤ upL (cutP P) m c) : False := by
  have key : ∀ m, upL P m c = upL (cutP P) m c := fun m => cutP_up hP m c (by omega) (by omega) (by have := hle m; omega)
  have hon : onL P c = true := onL_iff.2 ⟨k, hk, hkn, (key k).trans hcy⟩
  have hl : leastL P c = true := leastL_iff.2 ⟨hon, fun m _ => by rw [key]; exact hle m⟩
  have h1 := hle 1
  rw [upL_one (by omega), Int.toNat_natCast, cutP_get hc, if_pos hl] at h1
  omega
end Go.Proofs.Ytgeoggilnkcacaa

namespace Go.Proofs.Ytgeoggilnkcacaa
set_option linter.unusedVariables false

/-! No cycle is left: plain facts. -/
theorem pigeon : ∀ (n : Nat) (f : Nat → Nat), (∀ i, i ≤ n → f i < n) → ∃ i j, i < j ∧ j ≤ n ∧ f i = f j
  | 0, f, h => absurd (h 0 (Nat.le_refl _)) (Nat.not_lt_zero _)
  | n + 1, f, h => by
    by_cases hx : ∃ i, i ≤ n ∧ f i = f (n + 1)
    · obtain ⟨i, hi, e⟩ := hx
      exact ⟨i, n + 1, by omega, Nat.le_refl _, e⟩
    · have hne : ∀ i, i ≤ n → f i ≠ f (n + 1) := fun i hi e => hx ⟨i, hi, e⟩
      obtain ⟨i, j, hij, hj, e⟩ := pigeon n (fun i => if f (n + 1) < f i then f i - 1 else f i) (fun i hi => by
        have h1 := h i (by omega); have h2 := h (n + 1) (Nat.le_refl _); have h3 := hne i hi
        show (if f (n + 1) < f i then f i - 1 else f i) < n
        split <;> omega)
      refine ⟨i, j, hij, by omega, ?_⟩
      have h1 := hne i (by omega); have h2 := hne j hj
      have e : (if f (n + 1) < f i then f i - 1 else f i) = (if f (n + 1) < f j then f j - 1 else f j) := e
      split at e <;> split at e <;> omega
theorem least_of (f : Nat → Int) : ∀ k, 1 ≤ k → ∃ m, m < k ∧ ∀ j, j < k → f m ≤ f j
  | 1, _ => ⟨0, by omega, fun j hj => by obtain rfl : j = 0 := by omega
                                         exact Int.le_refl _⟩
  | k + 2, _ => by
    obtain ⟨m, hm, h⟩ := least_of f (k + 1) (by omega)
    by_cases hc : f m ≤ f (k + 1)
    · exact ⟨m, by omega, fun j hj => by
        by_cases e : j = k + 1
        · subst e; exact hc
        · exact h j (by omega)⟩
    · exact ⟨k + 1, by omega, fun j hj => by
        by_cases e : j = k + 1
        · subst e; exact Int.le_refl _
        · have := h j (by omega); omega⟩
theorem upL_period {P : List Int} {d : Int} {k : Nat} (h : upL P k d = d) (r : Nat) : ∀ q, upL P (q * k + r) d = upL P r d
  | 0 => by rw [Nat.zero_mul, Nat.zero_add]
  | q + 1 => by
    rw [Nat.succ_mul, show q * k + k + r = k + (q * k + r) by omega, upL_add, h]
    exact upL_period h r q
theorem cut_right {P : List Int} (hP : ValidP P) {i : Nat} (hi : i < P.length) : upL (cutP P) (P.length + 1) i < 0 := by
  rcases Int.lt_or_le (upL (cutP P) (P.length + 1) i) 0 with h | h
  · exact h
  exfalso
  have hQ := cutP_valid hP
  have hv : ∀ m, m ≤ P.length → 0 ≤ upL (cutP P) m i ∧ upL (cutP P) m i < P.length := fun m hm => by
    refine ⟨upL_back (by omega) h, ?_⟩
    have := (upL_range hQ m i (by omega) (by rw [cutP_length]; omega)).2
    rwa [cutP_length] at this
  obtain ⟨a, b, hab, hb, e⟩ := pigeon P.length (fun m => (upL (cutP P) m i).toNat) (fun m hm => by
    have := hv m hm
    show (upL (cutP P) m i).toNat < P.length
    omega)
  have ha' := hv a (by omega); have hb' := hv b hb
  have e : upL (cutP P) a i = upL (cutP P) b i := by
    have e : (upL (cutP P) a i).toNat = (upL (cutP P) b i).toNat := e
    omega
  obtain ⟨d, hd⟩ : ∃ d, d = upL (cutP P) a i := ⟨_, rfl⟩
  obtain ⟨k, hk⟩ : ∃ k, k = b - a := ⟨_, rfl⟩
  have hdk : upL (cutP P) k d = d := by
    rw [hd, ← upL_add, hk, show a + (b - a) = b by omega]; exact e.symm
  obtain ⟨m, hm, hmin⟩ := least_of (fun m => upL (cutP P) m d) k (by omega)
  have hmin : ∀ j, j < k → upL (cutP P) m d ≤ upL (cutP P) j d := hmin
  obtain ⟨c, hc⟩ : ∃ c, c = upL (cutP P) m d := ⟨_, rfl⟩
  have hc0 : 0 ≤ c ∧ c < P.length := by
    rw [hc, hd, ← upL_add]; exact hv (a + m) (by omega)
  have hck : upL (cutP P) k c = c := by
    rw [hc, ← upL_add, Nat.add_comm, upL_add, hdk]
  have hcm : ∀ j, c ≤ upL (cutP P) j c := fun j => by
    have e1 : upL (cutP P) j c = upL (cutP P) ((m + j) % k) d := by
      rw [hc, ← upL_add]
      have e2 : m + j = (m + j) / k * k + (m + j) % k := by rw [Nat.mul_comm]; exact (Nat.div_add_mod _ _).symm
      rw [e2, upL_period hdk]
      congr 1
      rw [← e2]
    rw [e1, hc]
    exact hmin _ (Nat.mod_lt _ (by omega))
  have ec : ((c.toNat : Nat) : Int) = c := by omega
  exact cutP_no_cycle hP (c := c.toNat) (by omega) (k := k) (by omega) (by omega) (by rw [ec]; exact hck) (fun j => by rw [ec]; exact hcm j)
/-- Is it a forest's? -/
def rightL (P : List Int) : Bool := P.all (fun x => decide (-1 ≤ x) && decide (x < P.length)) && (List.range P.length).all fun i => decide (upL P (P.length + 1) i < 0)
theorem rightL_cut {P : List Int} (hP : ValidP P) : rightL (cutP P) = true := by
  unfold rightL
  rw [Bool.and_eq_true, List.all_eq_true, List.all_eq_true]
  refine ⟨fun x hx => ?_, fun i hi => ?_⟩
  · have := cutP_valid hP x hx
    simp only [Bool.and_eq_true, decide_eq_true_eq]; exact this
  · rw [cutP_length] at hi ⊢
    exact decide_eq_true (cut_right hP (List.mem_range.1 hi))
end Go.Proofs.Ytgeoggilnkcacaa

namespace Go.Proofs.Ytgeoggilnkcacaa
set_option linter.unusedVariables false

/-! The walk round a cycle: plain facts. -/
/-- The first time that a walk is back. -/
theorem first_back {P : List Int} {a : Int} (h : onL P a = true) : ∃ r, 1 ≤ r ∧ r ≤ P.length ∧ upL P r a = a ∧ ∀ j, 1 ≤ j → j < r → upL P j a ≠ a := by
  obtain ⟨n, h1, h2, h3⟩ := onL_iff.1 h
  clear h
  induction n using Nat.strongRecOn with
  | _ n ih =>
    by_cases hx : ∃ j, 1 ≤ j ∧ j < n ∧ upL P j a = a
    · obtain ⟨j, j1, j2, j3⟩ := hx
      exact ih j j2 j1 (by omega) j3
    · exact ⟨n, h1, h2, h3, fun j j1 j2 e => hx ⟨j, j1, j2, e⟩⟩
theorem back_pos {P : List Int} {a : Int} (h0 : 0 ≤ a) {r : Nat} (hr : upL P r a = a) {m : Nat} (hm : m ≤ r) : 0 ≤ upL P m a := upL_back hm (by omega)
/-- All within one round: all. -/
theorem leastL_round {P : List Int} {i : Nat} {r : Nat} (h1 : 1 ≤ r) (h2 : r ≤ P.length) (hr : upL P r i = i) (h : ∀ j, j < r → (i : Int) ≤ upL P j i) : leastL P i = true := by
  refine leastL_iff.2 ⟨onL_iff.2 ⟨r, h1, h2, hr⟩, fun m _ => ?_⟩
  have e : m = m / r * r + m % r := by rw [Nat.mul_comm]; exact (Nat.div_add_mod _ _).symm
  rw [e, upL_period hr]
  exact h _ (Nat.mod_lt _ (by omega))
theorem leastL_no {P : List Int} {i : Nat} {m : Nat} (hm : m ≤ P.length) (h : upL P m i < i) : leastL P i = false := by
  cases hl : leastL P i with
  | false => rfl
  | true => have := (leastL_iff.1 hl).2 m hm; omega
theorem leastL_off {P : List Int} {i : Nat} (h : onL P i = false) : leastL P i = false := by
  unfold leastL; rw [h]; rfl
/-- Up from a place of a forest it comes to an end. -/
theorem right_ends {P : List Int} (h : rightL P = true) {i : Nat} (hi : i < P.length) : upL P (P.length + 1) i < 0 := by
  unfold rightL at h
  rw [Bool.and_eq_true, List.all_eq_true, List.all_eq_true] at h
  simpa using h.2 i (List.mem_range.2 hi)
theorem right_valid {P : List Int} (h : rightL P = true) : ValidP P := by
  unfold rightL at h
  rw [Bool.and_eq_true, List.all_eq_true, List.all_eq_true] at h
  intro x hx
  simpa using h.1 x hx
/-! The places of parents. -/
/-- The first place of a number, from a place on. -/
def firstAt : List Int → Int → Nat → Int
  | [], _, _ => -1
  | y :: r, x, k => if y = x then (k : Int) else firstAt r x (k + 1)
theorem firstAt_range : ∀ (l : List Int) (x : Int) (k : Nat), firstAt l x k = -1 ∨ ((k : Int) ≤ firstAt l x k ∧ firstAt l x k < k + l.length)
  | [], _, _ => .inl rfl
  | y :: r, x, k => by
    have := firstAt_range r x (k + 1)
    simp only [firstAt, List.length_cons]
    split <;> omega
theorem firstAt_is : ∀ (l : List Int) (x : Int) (k : Nat), firstAt l x k = -1 → x ∉ l
  | [], _, _, _ => by simp
  | y :: r, x, k, h => by
    simp only [firstAt] at h
    split at h
    · omega
    · rename_i hne
      have := firstAt_is r x (k + 1) h
      simp only [List.mem_cons, not_or]
      exact ⟨fun e => hne e.symm, this⟩
theorem firstAt_get : ∀ (l : List Int) (x : Int) (k : Nat), 0 ≤ firstAt l x k → ∃ j, ∃ h : j < l.length, firstAt l x k = (k + j : Nat) ∧ l[j] = x
  | [], _, _, h => by simp [firstAt] at h
  | y :: r, x, k, h => by
    simp only [firstAt] at h ⊢
    split at h
    · rename_i e
      exact ⟨0, by simp, by simp [e], by simpa using e⟩
    · rename_i hne
      obtain ⟨j, hj, h1, h2⟩ := firstAt_get r x (k + 1) h
      refine ⟨j + 1, by simp; omega, ?_, by simpa using h2⟩
      rw [if_neg hne, h1]
      congr 1; omega
/-- Of each number the parent's place. -/
def parP (ids pars : List Int) : List Int := pars.map fun x => if x = 0 then -1 else firstAt ids x 0
theorem parP_valid {ids pars : List Int} (h : ids.length = pars.length) : ValidP (parP ids pars) := by
  intro y hy
  obtain ⟨x, hx, rfl⟩ := List.mem_map.1 hy
  unfold parP
  rw [List.length_map]
  split
  · exact ⟨Int.le_refl _, by omega⟩
  · have := firstAt_range ids x 0
    omega
end Go.Proofs.Ytgeoggilnkcacaa

namespace Go.Proofs.Ytgeoggilnkcacaa
set_option linter.unusedVariables false

/-! What the law asks of the places: plain facts. -/
theorem parP_length (ids pars : List Int) : (parP ids pars).length = pars.length := by simp [parP]
theorem parP_get (ids : List Int) {pars : List Int} {k : Nat} (h : k < pars.length) : (parP ids pars).getD k (-1) = if pars[k] = 0 then -1 else firstAt ids pars[k] 0 := by
  simp [parP, List.getD, h]
/-- On a cycle the next one is the first place of the parent's number. -/
theorem on_next {ids pars : List Int} (hl : ids.length = pars.length) {i : Nat} (hi : i < pars.length) {r : Nat} (hr : upL (parP ids pars) r i = i) {m : Nat} (hm : m < r) :
    ∃ k, ∃ h : k < pars.length, upL (parP ids pars) m i = (k : Int) ∧ pars[k] ≠ 0 ∧ upL (parP ids pars) (m + 1) i = firstAt ids pars[k] 0 := by
  have hv := parP_valid hl
  have h0 := back_pos (a := (i : Int)) (by omega) hr (m := m) (by omega)
  have h1 := back_pos (a := (i : Int)) (by omega) hr (m := m + 1) (by omega)
  have h2 := (upL_range hv m i (by omega) (by rw [parP_length]; omega)).2
  rw [parP_length] at h2
  refine ⟨(upL (parP ids pars) m i).toNat, by omega, by omega, ?_, ?_⟩
  · intro e
    rw [upL_next, upL_one h0, parP_get ids (by omega), if_pos e] at h1
    omega
  · rw [upL_next, upL_one h0, parP_get ids (by omega)]
    rw [upL_next, upL_one h0, parP_get ids (by omega)] at h1
    split
    · rename_i e; rw [if_pos e] at h1; omega
    · rfl
theorem cut_tells {ids pars : List Int} (hl : ids.length = pars.length) {i : Nat} (hi : i < pars.length) :
    let Q := cutP (parP ids pars)
    (-1 ≤ Q.getD i (-1) ∧ Q.getD i (-1) < pars.length) ∧ (∀ k : Nat, Q.getD i (-1) = (k : Int) → ∃ h : k < ids.length, ids[k] = pars[i]) ∧
      (Q.getD i (-1) = -1 → pars[i] ≠ 0 → pars[i] ∈ ids → onL (parP ids pars) i = true) := by
  intro Q
  have hv := parP_valid hl
  have hi' : i < (parP ids pars).length := by rw [parP_length]; exact hi
  have hq : Q.getD i (-1) = if leastL (parP ids pars) i then -1 else (parP ids pars).getD i (-1) := cutP_get hi'
  have hr : -1 ≤ (parP ids pars).getD i (-1) ∧ (parP ids pars).getD i (-1) < pars.length := by
    have e : (parP ids pars).getD i (-1) = (parP ids pars)[i] := by simp [List.getD, hi']
    have := hv _ (List.getElem_mem hi')
    rw [parP_length] at this
    rw [e]; exact this
  refine ⟨?_, fun k hk => ?_, fun h1 h2 h3 => ?_⟩
  · rw [hq]; split
    · exact ⟨Int.le_refl _, by omega⟩
    · exact hr
  · rw [hq] at hk
    split at hk
    · omega
    · rw [parP_get ids hi] at hk
      split at hk
      · omega
      · obtain ⟨j, hj, e1, e2⟩ := firstAt_get ids pars[i] 0 (by omega)
        have : k = j := by omega
        subst this
        exact ⟨hj, e2⟩
  · rw [hq] at h1
    cases hle : leastL (parP ids pars) i with
    | true => exact (leastL_iff.1 hle).1
    | false =>
      rw [hle] at h1
      simp only [Bool.false_eq_true, if_false] at h1
      rw [parP_get ids hi, if_neg h2] at h1
      exact absurd h3 (firstAt_is _ _ _ h1)
end Go.Proofs.Ytgeoggilnkcacaa

