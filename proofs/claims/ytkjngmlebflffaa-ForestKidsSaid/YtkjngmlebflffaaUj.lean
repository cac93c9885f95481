import Derived.Test.YtkjngmlebflffaaUd
namespace Go.Proofs.Ytkjngmlebflffaa
set_option linter.unusedVariables false

/-! The walks up from each place, none gone twice: plain facts. -/
theorem cutP_same {P : List Int} (h : ∀ i, i < P.length → leastL P i = false) : cutP P = P := by
  apply List.ext_getElem (cutP_length P)
  intro i h1 h2
  have := cutP_get (P := P) h2
  rw [h i h2] at this
  simpa [List.getD, h1, h2] using this
theorem on_up {P : List Int} {i : Int} (hi : 0 ≤ i) (h : onL P i = true) (t : Nat) : 0 ≤ upL P t i := by
  obtain ⟨n, h1, h2, h3⟩ := onL_iff.1 h
  have h4 := upL_period h3 0 t
  rw [Nat.add_zero] at h4
  refine upL_back (n := t * n) (Nat.le_mul_of_pos_right t h1) ?_
  rw [h4]; exact hi
theorem on_ret {P : List Int} {i : Int} (h : onL P i = true) (t : Nat) : ∃ t', upL P t' (upL P t i) = i := by
  obtain ⟨n, h1, h2, h3⟩ := onL_iff.1 h
  have h4 := upL_period h3 0 t
  rw [Nat.add_zero] at h4
  have h5 : t ≤ t * n := Nat.le_mul_of_pos_right t h1
  exact ⟨t * n - t, by rw [← upL_add, show t + (t * n - t) = t * n by omega, h4]; rfl⟩
theorem leastL_all {P : List Int} {i : Nat} (h : leastL P i = true) (t : Nat) : (i : Int) ≤ upL P t i := by
  obtain ⟨ho, hl⟩ := leastL_iff.1 h
  obtain ⟨n, h1, h2, h3⟩ := onL_iff.1 ho
  have e : t = t / n * n + t % n := by rw [Nat.mul_comm]; exact (Nat.div_add_mod _ _).symm
  rw [e, upL_period h3]
  exact hl _ (by have := Nat.mod_lt t (show n > 0 by omega); omega)
theorem right_iff {P : List Int} (hP : ValidP P) : rightL P = true ↔ ∀ i, i < P.length → leastL P i = false := by
  constructor
  · intro h i hi
    cases hl : leastL P i with
    | false => rfl
    | true =>
      have h1 := on_up (by omega) (leastL_iff.1 hl).1 (P.length + 1)
      have h2 := right_ends h hi
      omega
  · intro h
    have := rightL_cut hP
    rwa [cutP_same h] at this
/-- What is known between two walks. -/
structure Wk (P W K : List Int) (s : Nat) : Prop where
  len : W.length = P.length
  rng : ∀ j, j < P.length → 0 ≤ W.getD j 0 ∧ W.getD j 0 ≤ s
  done : ∀ j, j < P.length → j < s → W.getD j 0 ≠ 0
  closed : ∀ j, j < P.length → W.getD j 0 ≠ 0 → ∀ k, 0 ≤ upL P k j → W.getD (upL P k j).toNat 0 ≠ 0
  kin : ∀ i, i < P.length → leastL P i = true → W.getD i 0 ≠ 0 → (i : Int) ∈ K
  kout : ∀ x ∈ K, ∃ i : Nat, i < P.length ∧ x = (i : Int) ∧ leastL P i = true
/-- What is known within a walk, m steps up from s. -/
structure Wi (P W0 K W : List Int) (s m : Nat) : Prop where
  wk : Wk P W0 K s
  sl : s < P.length
  len : W.length = P.length
  old : ∀ j, j < P.length → (∀ k, k < m → upL P k s ≠ (j : Int)) → W.getD j 0 = W0.getD j 0
  new : ∀ k, k < m → W.getD (upL P k s).toNat 0 = (s : Int) + 1
  fresh : ∀ k, k < m → 0 ≤ upL P k s ∧ W0.getD (upL P k s).toNat 0 = 0
  dist : ∀ i j, i < j → j < m → upL P i s ≠ upL P j s
theorem Wk.start {P W K : List Int} {s : Nat} (h : Wk P W K s) (hs : s < P.length) : Wi P W K W s 0 :=
  ⟨h, hs, h.len, fun _ _ _ => rfl, fun _ h => absurd h (Nat.not_lt_zero _), fun _ h => absurd h (Nat.not_lt_zero _), fun _ _ _ h => absurd h (Nat.not_lt_zero _)⟩
theorem getD_set_self' {W : List Int} {i : Nat} {x d : Int} (h : i < W.length) : (W.set i x).getD i d = x := by simp [List.getD, h]
theorem getD_set_ne' {W : List Int} {i j : Nat} {x d : Int} (h : i ≠ j) : (W.set i x).getD j d = W.getD j d := by simp [List.getD, h]
section
variable {P W0 K W : List Int} {s m : Nat}
theorem Wi.lt (h : Wi P W0 K W s m) (hP : ValidP P) (k : Nat) : upL P k s < P.length := (upL_range hP k s (by omega) (by have := h.sl; omega)).2
theorem Wi.size (h : Wi P W0 K W s m) (hP : ValidP P) : m ≤ P.length := by
  rcases Nat.lt_or_ge P.length m with h1 | h1
  · exfalso
    obtain ⟨a, b, hab, hb, e⟩ := pigeon P.length (fun k => (upL P k s).toNat) (fun k hk => by
      have h2 := h.fresh k (by omega); have h3 := h.lt hP k
      show (upL P k s).toNat < P.length
      omega)
    have e : (upL P a s).toNat = (upL P b s).toNat := e
    have h2 := h.fresh a (by omega); have h3 := h.fresh b (by omega)
    exact h.dist a b hab (by omega) (by omega)
  · exact h1
theorem Wi.step (h : Wi P W0 K W s m) (hP : ValidP P) (hy : 0 ≤ upL P m s) (hw : W.getD (upL P m s).toNat 0 = 0) : Wi P W0 K (W.set (upL P m s).toNat ((s : Int) + 1)) s (m + 1) := by
  have hlt := h.lt hP m
  have hne : ∀ k, k < m → upL P k s ≠ upL P m s := fun k hk e => by
    have := h.new k hk
    rw [e, hw] at this; omega
  refine ⟨h.wk, h.sl, by rw [List.length_set]; exact h.len, fun j hj hk => ?_, fun k hk => ?_, fun k hk => ?_, fun i j hij hj => ?_⟩
  · have h1 := hk m (by omega)
    rw [getD_set_ne' (by omega)]
    exact h.old j hj fun k h2 => hk k (by omega)
  · by_cases e : k = m
    · subst e; exact getD_set_self' (by rw [h.len]; omega)
    · have h1 := hne k (by omega); have h2 := (h.fresh k (by omega)).1
      rw [getD_set_ne' (by omega)]
      exact h.new k (by omega)
  · by_cases e : k = m
    · subst e
      refine ⟨hy, ?_⟩
      rw [← h.old (upL P k s).toNat (by omega) (fun j hj => by have := hne j hj; omega)]
      exact hw
    · exact h.fresh k (by omega)
  · by_cases e : j = m
    · subst e; exact hne i hij
    · exact h.dist i j hij (by omega)
/-- Any place, with the walk's or without. -/
theorem Wi.way (h : Wi P W0 K W s m) {j : Nat} (hj : j < P.length) : (∃ k, k < m ∧ upL P k s = (j : Int)) ∨ W.getD j 0 = W0.getD j 0 := by
  by_cases hx : ∃ k, k < m ∧ upL P k s = (j : Int)
  · exact .inl hx
  · exact .inr (h.old j hj fun k hk e => hx ⟨k, hk, e⟩)
theorem Wi.more (h : Wi P W0 K W s m) {j : Nat} (hj : j < P.length) (h0 : W0.getD j 0 ≠ 0) : W.getD j 0 ≠ 0 := by
  rcases h.way hj with ⟨k, hk, e⟩ | e
  · have := h.new k hk
    rw [e, Int.toNat_natCast] at this
    rw [this]; omega
  · rw [e]; exact h0
theorem Wi.up (h : Wi P W0 K W s m) (hP : ValidP P) (hy : 0 ≤ upL P m s → W.getD (upL P m s).toNat 0 ≠ 0) (t : Nat) (ht : 0 ≤ upL P t s) : W.getD (upL P t s).toNat 0 ≠ 0 := by
  induction t using Nat.strongRecOn with
  | _ t ih =>
    by_cases h1 : t < m
    · rw [h.new t h1]; omega
    · have hm : 0 ≤ upL P m s := upL_back (by omega) ht
      have hlt := h.lt hP m
      have e0 : upL P t s = upL P (t - m) (upL P m s) := by rw [← upL_add, show m + (t - m) = t by omega]
      have e1 : (((upL P m s).toNat : Nat) : Int) = upL P m s := by omega
      rcases h.way (j := (upL P m s).toNat) (by omega) with ⟨k, hk, e⟩ | e
      · rw [e1] at e
        have e2 : upL P t s = upL P (k + (t - m)) s := by rw [upL_add, e]; exact e0
        rw [e2] at ht ⊢
        exact ih _ (by omega) ht
      · have h2 := h.wk.closed (upL P m s).toNat (by omega) (by rw [← e]; exact hy hm) (t - m) (by rw [e1, ← e0]; exact ht)
        rw [e1, ← e0] at h2
        have h3 := h.lt hP t
        exact h.more (by omega) h2
theorem Wi.fin (h : Wi P W0 K W s m) (hP : ValidP P) (hy : 0 ≤ upL P m s → W.getD (upL P m s).toNat 0 ≠ 0) {K' : List Int} (hK : ∀ x ∈ K, x ∈ K') (hout : ∀ x ∈ K', ∃ i : Nat, i < P.length ∧ x = (i : Int) ∧ leastL P i = true)
    (hin : ∀ k, k < m → leastL P (upL P k s).toNat = true → upL P k s ∈ K') : Wk P W K' (s + 1) := by
  have hup := h.up hP hy
  refine ⟨h.len, fun j hj => ?_, fun j hj h1 => ?_, fun j hj h1 k hk => ?_, fun i hi hl h1 => ?_, hout⟩
  · rcases h.way hj with ⟨k, hk, e⟩ | e
    · have := h.new k hk
      rw [e, Int.toNat_natCast] at this
      rw [this]; omega
    · have := h.wk.rng j hj
      rw [e]; omega
  · by_cases e : j = s
    · subst e
      have := hup 0 (show (0 : Int) ≤ (j : Int) by omega)
      have e2 : upL P 0 (j : Int) = (j : Int) := rfl
      rwa [e2, Int.toNat_natCast] at this
    · exact h.more hj (h.wk.done j hj (by omega))
  · rcases h.way hj with ⟨k0, hk0, e⟩ | e
    · have h2 : upL P k j = upL P (k0 + k) s := by rw [upL_add, e]
      rw [h2] at hk ⊢
      exact hup _ hk
    · have h2 := h.wk.closed j hj (by rw [← e]; exact h1) k hk
      have h3 := (upL_range hP k j (by omega) (by omega)).2
      exact h.more (by omega) h2
  · rcases h.way hi with ⟨k, hk, e⟩ | e
    · have := hin k hk (by rw [e, Int.toNat_natCast]; exact hl)
      rwa [e] at this
    · exact hK _ (h.wk.kin i hi hl (by rw [← e]; exact h1))
/-- It came to an end. -/
theorem Wi.out (h : Wi P W0 K W s m) (hP : ValidP P) (hy : upL P m s < 0) : Wk P W K (s + 1) := by
  refine h.fin hP (fun h1 => by omega) (fun x hx => hx) h.wk.kout fun k hk hl => ?_
  exfalso
  have h0 := (h.fresh k hk).1
  have e : (((upL P k s).toNat : Nat) : Int) = upL P k s := by omega
  have h1 := on_up (by omega) (leastL_iff.1 hl).1 (m - k)
  rw [e, ← upL_add, show k + (m - k) = m by omega] at h1
  omega
/-- It came to where an earlier one was. -/
theorem Wi.seen (h : Wi P W0 K W s m) (hP : ValidP P) (hy : 0 ≤ upL P m s) (h1 : W.getD (upL P m s).toNat 0 ≠ 0) (h2 : W.getD (upL P m s).toNat 0 ≠ (s : Int) + 1) : Wk P W K (s + 1) := by
  refine h.fin hP (fun _ => h1) (fun x hx => hx) h.wk.kout fun k hk hl => ?_
  exfalso
  have hlt := h.lt hP m
  have e1 : (((upL P m s).toNat : Nat) : Int) = upL P m s := by omega
  have h0 := h.fresh k hk
  have e : (((upL P k s).toNat : Nat) : Int) = upL P k s := by omega
  rcases h.way (j := (upL P m s).toNat) (by omega) with ⟨j, hj, e2⟩ | e2
  · apply h2
    rw [e1] at e2
    rw [← e2]; exact h.new j hj
  · have hon := (leastL_iff.1 hl).1
    rw [e] at hon
    obtain ⟨t, ht⟩ := on_ret hon (m - k)
    have ek : upL P (m - k) (upL P k s) = upL P m s := by rw [← upL_add, show k + (m - k) = m by omega]
    rw [ek] at ht
    have h3 := h.wk.closed (upL P m s).toNat (by omega) (by rw [← e2]; exact h1) t (by rw [e1, ht]; exact h0.1)
    rw [e1, ht] at h3
    exact h3 h0.2
theorem Wi.back (h : Wi P W0 K W s m) (hP : ValidP P) (hy : 0 ≤ upL P m s) (h1 : W.getD (upL P m s).toNat 0 = (s : Int) + 1) : onL P (upL P m s) = true := by
  have hlt := h.lt hP m
  have e1 : (((upL P m s).toNat : Nat) : Int) = upL P m s := by omega
  rcases h.way (j := (upL P m s).toNat) (by omega) with ⟨j, hj, e2⟩ | e2
  · rw [e1] at e2
    have hs := h.size hP
    refine onL_iff.2 ⟨m - j, by omega, by omega, ?_⟩
    rw [← e2, ← upL_add, show j + (m - j) = m by omega]
    exact e2.symm
  · have := h.wk.rng (upL P m s).toNat (by omega)
    omega
/-- It came back to itself: the least of the cycle is told. -/
theorem Wi.loop (h : Wi P W0 K W s m) (hP : ValidP P) (hy : 0 ≤ upL P m s) (h1 : W.getD (upL P m s).toNat 0 = (s : Int) + 1) {c : Nat} (hc : c < P.length) (hl : leastL P c = true) {t : Nat} (ht : upL P t (upL P m s) = (c : Int)) : Wk P W (K ++ [(c : Int)]) (s + 1) := by
  refine h.fin hP (fun _ => by omega) (fun x hx => List.mem_append_left _ hx) (fun x hx => ?_) fun k hk hlk => ?_
  · rcases List.mem_append.1 hx with hx | hx
    · exact h.wk.kout x hx
    · exact ⟨c, hc, List.mem_singleton.1 hx, hl⟩
  · have h0 := h.fresh k hk
    have e : (((upL P k s).toNat : Nat) : Int) = upL P k s := by omega
    have e2 : upL P (m - k + t) (upL P k s) = (c : Int) := by
      rw [← upL_add, show k + (m - k + t) = m + t by omega, upL_add, ht]
    have h2 := leastL_all hlk (m - k + t)
    rw [e, e2] at h2
    have hon := (leastL_iff.1 hlk).1
    rw [e] at hon
    obtain ⟨t', ht'⟩ := on_ret hon (m - k + t)
    rw [e2] at ht'
    have h3 := leastL_all hl t'
    rw [ht'] at h3
    rw [show upL P k s = (c : Int) by omega]
    exact List.mem_append_right _ (List.mem_singleton.2 rfl)
end
theorem Wk.new (P : List Int) : Wk P (List.replicate P.length 0) [] 0 := by
  have e : ∀ j, (List.replicate P.length (0 : Int)).getD j 0 = 0 := fun j => by simp [List.getD, List.getElem?_replicate]; split <;> rfl
  refine ⟨by simp, fun j _ => by rw [e]; simp, fun j _ h => absurd h (Nat.not_lt_zero _), fun j _ h => absurd (e j) h, fun j _ _ h => absurd (e j) h, fun x h => by cases h⟩
/-- All least ones, and no other. -/
def Leasts (P K : List Int) : Prop := (∀ i, i < P.length → leastL P i = true → (i : Int) ∈ K) ∧ ∀ x ∈ K, ∃ i : Nat, i < P.length ∧ x = (i : Int) ∧ leastL P i = true
theorem Wk.all {P W K : List Int} (h : Wk P W K P.length) : Leasts P K := ⟨fun i hi hl => h.kin i hi hl (h.done i hi hi), h.kout⟩
theorem Leasts.right {P K : List Int} (h : Leasts P K) (hP : ValidP P) : rightL P = decide (K.length = 0) := by
  cases hr : rightL P with
  | true =>
    have h1 := (right_iff hP).1 hr
    symm; rw [decide_eq_true_eq]
    cases K with
    | nil => rfl
    | cons x r =>
      obtain ⟨i, hi, _, hl⟩ := h.2 x (List.mem_cons_self ..)
      rw [h1 i hi] at hl; cases hl
  | false =>
    symm; rw [decide_eq_false_iff_not]
    intro hk
    have : rightL P = true := (right_iff hP).2 fun i hi => by
      cases hl : leastL P i with
      | false => rfl
      | true =>
        have := h.1 i hi hl
        rw [List.length_eq_zero_iff.1 hk] at this; cases this
    rw [hr] at this; cases this
/-- The places that are told are cut. -/
theorem Leasts.cut {P K Q : List Int} (h : Leasts P K) (hq : Q.length = P.length) (hQ : ∀ j, j < P.length → Q.getD j (-1) = if (j : Int) ∈ K then -1 else P.getD j (-1)) : Q = cutP P := by
  apply List.ext_getElem (by rw [hq, cutP_length])
  intro i h1 h2
  have hi : i < P.length := by omega
  have e1 := hQ i hi
  have e2 := cutP_get hi
  have e3 : ((i : Int) ∈ K) ↔ leastL P i = true := ⟨fun hx => by
    obtain ⟨j, hj, e, hl⟩ := h.2 _ hx
    obtain rfl : i = j := by omega
    exact hl, h.1 i hi⟩
  have e4 : Q.getD i (-1) = Q[i] := by simp [List.getD, h1]
  have e5 : (cutP P).getD i (-1) = (cutP P)[i] := by simp [List.getD, h2]
  rw [← e4, ← e5, e1, e2]
  by_cases hx : (i : Int) ∈ K
  · rw [if_pos hx, if_pos (e3.1 hx)]
  · rw [if_neg hx, if_neg (fun hl => hx (e3.2 hl))]
/-- The least of a round. -/
theorem least_end {P : List Int} {y : Int} {r k : Nat} (hP : ValidP P) (hy : 0 ≤ y) (hyl : y < P.length) (h1 : 1 ≤ r) (h2 : r ≤ P.length) (hr : upL P r y = y) (hk : k < r) (hle : ∀ j, j < r → upL P k y ≤ upL P j y) :
    ∃ c : Nat, c < P.length ∧ upL P k y = (c : Int) ∧ leastL P c = true := by
  have h3 := upL_range hP k y (by omega) hyl
  have h4 : 0 ≤ upL P k y := back_pos hy hr (by omega)
  refine ⟨(upL P k y).toNat, by omega, by omega, ?_⟩
  have e : (((upL P k y).toNat : Nat) : Int) = upL P k y := by omega
  refine leastL_round h1 h2 (by rw [e, ← upL_add, Nat.add_comm, upL_add, hr]) fun j hj => ?_
  rw [e, ← upL_add]
  have e2 : k + j = (k + j) / r * r + (k + j) % r := by rw [Nat.mul_comm]; exact (Nat.div_add_mod _ _).symm
  rw [e2, upL_period hr]
  exact hle _ (Nat.mod_lt _ (by omega))
end Go.Proofs.Ytkjngmlebflffaa

