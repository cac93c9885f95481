import Derived.Test.YtgeoggilnkcacaaJb
namespace Go.Proofs.Ytgeoggilnkcacaa
open Go Go.RowKit Go.Sort
set_option linter.unusedVariables false

/-! What a chain is (stage 16): what LoopWitness and LoopNo ask. -/
structure CycIs (n : Nat) (E c : List Ed) : Prop where
  pos : 0 < c.length
  le : c.length ≤ n
  mem : ∀ e ∈ c, e ∈ E
  next : ∀ t (h : t < c.length), c[t].to_ = (c[(t + 1) % c.length]'(Nat.mod_lt _ (by omega))).fr
  once : ∀ s t (h : s < t) (h2 : t < c.length), c[s].fr ≠ c[t].fr
  neg : (c.map Ed.wt).sum < 0
section
variable {n : Nat} {E : List Ed} {v : Nat}
theorem cyc_get {i d t : Nat} (h : t < (cycL n E v i d).length) : (cycL n E v i d)[t] = backL n E v (i + d - 1 - t) := by simp [cycL]
theorem cyc_is (hE : ∀ e ∈ E, edOk (n : Int) e = true) (hv : Drops n E v) {i d : Nat} (hr : Rep n E v i d) : CycIs n E (cycL n E v i d) := by
  have hp := hr.pos
  have hle := hr.le
  have hl := cyc_length (n := n) (E := E) (v := v) i d
  have ed := fun s (hs : s < n) => back_edge hE hv.lt hv.drop hs
  have fr : ∀ t (h : t < (cycL n E v i d).length), (cycL n E v i d)[t].fr = (backV n E v (i + d - t) : Int) := fun t h => by
    rw [cyc_get h, (ed (i + d - 1 - t) (by omega)).2.2.2.1, show i + d - 1 - t + 1 = i + d - t by omega]
  refine ⟨by omega, by omega, fun e he => ?_, fun t h => ?_, fun s t hst h2 heq => ?_, cyc_neg hE hv.lt hv.drop hp hle hr.back⟩
  · obtain ⟨t, ht, rfl⟩ := List.getElem_of_mem he
    rw [cyc_get ht]
    exact (ed _ (by omega)).2.1
  · have h' : t < d := by omega
    rw [fr _ (Nat.mod_lt _ (by omega)), cyc_get h, (ed (i + d - 1 - t) (by omega)).2.2.1]
    by_cases e : t + 1 = d
    · have e1 : (t + 1) % (cycL n E v i d).length = 0 := by rw [hl, e, Nat.mod_self]
      rw [e1, Nat.sub_zero, hr.back, show i + d - 1 - t = i by omega]
    · have e1 : (t + 1) % (cycL n E v i d).length = t + 1 := by rw [hl]; exact Nat.mod_eq_of_lt (by omega)
      rw [e1, show i + d - 1 - t = i + d - (t + 1) by omega]
  · rw [fr s (by omega), fr t h2] at heq
    have heq : backV n E v (i + d - s) = backV n E v (i + d - t) := by omega
    rcases Nat.eq_zero_or_pos s with e | e
    · subst e
      rw [Nat.sub_zero, hr.back] at heq
      exact hr.new i (i + d - t) (by omega) (by omega) heq
    · exact hr.new (i + d - t) (i + d - s) (by omega) (by omega) heq.symm
end
theorem rot_get {l : List Ed} {t : Nat} (h : t < (rotL l).length) (h0 : 0 < l.length) : (rotL l)[t] = l[(t + lowAt l l.length) % l.length]'(Nat.mod_lt _ h0) := by
  have hl := lowAt_lt l.length (Nat.le_refl _) h0
  have hr := rotL_length l
  have key : (rotL l)[t]? = l[(t + lowAt l l.length) % l.length]? := by
    unfold rotL
    generalize lowAt l l.length = k at *
    by_cases hc : t < l.length - k
    · rw [List.getElem?_append_left (by simpa using hc), List.getElem?_drop, Nat.mod_eq_of_lt (by omega), Nat.add_comm]
    · rw [List.getElem?_append_right (by simpa using hc), List.length_drop, List.getElem?_take_of_lt (by omega)]
      have e : (t + k) % l.length = t - (l.length - k) := by
        rw [show t + k = (t - (l.length - k)) + l.length by omega, Nat.add_mod_right, Nat.mod_eq_of_lt (by omega)]
      rw [e]
  rw [List.getElem?_eq_getElem h, List.getElem?_eq_getElem (Nat.mod_lt _ h0)] at key
  exact Option.some.inj key
theorem sum_perm {l m : List Int} (h : l.Perm m) : l.sum = m.sum := by
  induction h with
  | nil => rfl
  | cons x _ ih => rw [List.sum_cons, List.sum_cons, ih]
  | swap x y l => simp only [List.sum_cons]; omega
  | trans _ _ h1 h2 => exact h1.trans h2
theorem rot_is {n : Nat} {E c : List Ed} (h : CycIs n E c) : CycIs n E (rotL c) ∧ ∀ t (ht : t < (rotL c).length) (h0 : 0 < (rotL c).length), (rotL c)[0].fr ≤ (rotL c)[t].fr := by
  have h0 := h.pos
  have hr := rotL_length c
  have hk := lowAt_lt c.length (Nat.le_refl _) h0
  refine ⟨⟨by omega, by have := h.le; omega, fun e he => h.mem e ((rotL_perm c).mem_iff.1 he), fun t ht => ?_, fun s t hst h2 heq => ?_, ?_⟩, fun t ht hz => ?_⟩
  · rw [rot_get ht h0, rot_get (Nat.mod_lt _ (by omega)) h0, h.next _ (Nat.mod_lt _ h0)]
    have e : ((t + lowAt c c.length) % c.length + 1) % c.length = ((t + 1) % (rotL c).length + lowAt c c.length) % c.length := by
      rw [hr, Nat.mod_add_mod, Nat.mod_add_mod]; congr 1; omega
    simp only [e]
  · rw [rot_get (by omega) h0, rot_get h2 h0] at heq
    have g1 := Nat.mod_lt (s + lowAt c c.length) h0
    have g2 := Nat.mod_lt (t + lowAt c c.length) h0
    rcases Nat.lt_trichotomy ((s + lowAt c c.length) % c.length) ((t + lowAt c c.length) % c.length) with k | k | k
    · exact h.once _ _ k g2 heq
    · have e1 : ∀ x, x < c.length → (x + lowAt c c.length) % c.length = if x + lowAt c c.length < c.length then x + lowAt c c.length else x + lowAt c c.length - c.length := fun x hx => by
        split
        · exact Nat.mod_eq_of_lt (by assumption)
        · rw [Nat.mod_eq_sub_mod (by omega), Nat.mod_eq_of_lt (by omega)]
      rw [e1 s (by omega), e1 t (by omega)] at k
      split at k <;> split at k <;> omega
    · exact h.once _ _ k g1 heq.symm
  · rw [sum_perm ((rotL_perm c).map Ed.wt)]; exact h.neg
  · rw [rot_get hz h0, rot_get ht h0]
    have e : (0 + lowAt c c.length) % c.length = lowAt c c.length := by rw [Nat.zero_add, Nat.mod_eq_of_lt hk]
    have g := lowAt_low (l := c) c.length ((t + lowAt c c.length) % c.length) (Nat.mod_lt _ h0)
    have g1 : c.getD (lowAt c c.length) default = c[lowAt c c.length] := by simp [List.getD, hk]
    have g2 : c.getD ((t + lowAt c c.length) % c.length) default = c[(t + lowAt c c.length) % c.length]'(Nat.mod_lt _ h0) := by simp [List.getD, Nat.mod_lt _ h0]
    rw [g1, g2] at g
    simp only [e]
    exact g
theorem chain_is {n : Int} {E K : List Ed} (h : ChainIs n E K) (hm : mayE n E = true) (hn : metL n.toNat E = false) : CycIs n.toNat E K ∧ ∀ t (ht : t < K.length) (h0 : 0 < K.length), K[0].fr ≤ K[t].fr := by
  rcases h with ⟨_, _, v, i, d, h1, h2, rfl⟩ | ⟨a, _⟩
  · obtain ⟨k1, k2, k3⟩ := mayE_iff.1 hm
    have hE : ∀ e ∈ E, edOk (n.toNat : Int) e = true := by rw [show (n.toNat : Int) = n by omega]; exact k3
    exact rot_is (cyc_is hE h1 h2)
  · exact absurd ⟨hm, hn⟩ a
/-- No numbers meet a chain. -/
theorem cyc_no {n : Nat} {E c : List Ed} (h : CycIs n E c) (Y : List Int) : allL c Y = false := by
  have h0 := h.pos
  cases hb : allL c Y with
  | false => rfl
  | true =>
    exfalso
    have hall := List.all_eq_true.1 hb
    have key : ∀ t (ht : t < c.length), (numAt Y c[t].to_).getD 0 ≤ (numAt Y c[t].fr).getD 0 + c[t].wt := fun t ht => by
      have := hall c[t] (List.getElem_mem ht)
      unfold holdsL at this
      split at this
      · rename_i a b e1 e2
        rw [e1, e2]
        simpa using this
      · cases this
    have hsum : ∀ k, k ≤ c.length → ((c.take k).map fun e => (numAt Y e.to_).getD 0).sum ≤ ((c.take k).map fun e => (numAt Y e.fr).getD 0).sum + ((c.take k).map Ed.wt).sum := by
      intro k
      induction k with
      | zero => intro _; simp
      | succ k ih =>
        intro hk
        have := key k (by omega)
        have := ih (by omega)
        rw [List.take_succ_eq_append_getElem (by omega)]
        simp only [List.map_append, List.map_cons, List.map_nil, List.sum_append, List.sum_cons, List.sum_nil]
        omega
    have hs := hsum c.length (Nat.le_refl _)
    rw [List.take_length] at hs
    have e : (c.map fun e => (numAt Y e.to_).getD 0).Perm (c.map fun e => (numAt Y e.fr).getD 0) := by
      have e1 : (c.map fun e => (numAt Y e.to_).getD 0) = (c.drop 1 ++ c.take 1).map fun e => (numAt Y e.fr).getD 0 := by
        refine List.ext_getElem? fun t => ?_
        rw [List.getElem?_map, List.getElem?_map]
        by_cases ht : t < c.length
        · rw [List.getElem?_eq_getElem ht]
          have hn := h.next t ht
          by_cases hl : t + 1 < c.length
          · rw [List.getElem?_append_left (by simp; omega), List.getElem?_drop, Nat.add_comm 1 t, List.getElem?_eq_getElem hl]
            have e2 : (t + 1) % c.length = t + 1 := Nat.mod_eq_of_lt hl
            simp only [e2] at hn
            simp only [Option.map_some, hn]
          · rw [List.getElem?_append_right (by simp; omega), List.length_drop, List.getElem?_take_of_lt (by omega), show t - (c.length - 1) = 0 by omega, List.getElem?_eq_getElem h0]
            have e2 : (t + 1) % c.length = 0 := by rw [show t + 1 = c.length by omega, Nat.mod_self]
            simp only [e2] at hn
            simp only [Option.map_some, hn]
        · rw [List.getElem?_eq_none (by omega), List.getElem?_eq_none (by simp; omega)]; rfl
      rw [e1]
      exact ((List.perm_append_comm).trans (by rw [List.take_append_drop])).map _
    rw [sum_perm e] at hs
    have := h.neg
    omega
end Go.Proofs.Ytgeoggilnkcacaa

