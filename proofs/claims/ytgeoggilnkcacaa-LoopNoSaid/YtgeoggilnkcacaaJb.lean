import Derived.Test.YtgeoggilnkcacaaJa
namespace Go.Proofs.Ytgeoggilnkcacaa
open Go Go.RowKit Go.Sort
set_option linter.unusedVariables false

/-! The document's chain (stage 16), plainly. -/
/-- The hosts of the first places of the way back. -/
def hostsB (n : Nat) (E : List Ed) (v s : Nat) : List Nat := (List.range s).map (backV n E v)
theorem hostsB_length (n : Nat) (E : List Ed) (v s : Nat) : (hostsB n E v s).length = s := by simp [hostsB]
theorem hostsB_step (n : Nat) (E : List Ed) (v s : Nat) : hostsB n E v (s + 1) = hostsB n E v s ++ [backV n E v s] := by
  unfold hostsB; rw [List.range_succ, List.map_append]; rfl
theorem hostsB_get {n : Nat} {E : List Ed} {v s i : Nat} (h : i < (hostsB n E v s).length) : (hostsB n E v s)[i] = backV n E v i := by simp [hostsB]
theorem hostsB_mem {n : Nat} {E : List Ed} {v s x : Nat} : x ∈ hostsB n E v s ↔ ∃ i, i < s ∧ backV n E v i = x := by
  simp [hostsB]
/-- The first way back to a host that was there before: the place i, d edges. -/
structure Rep (n : Nat) (E : List Ed) (v i d : Nat) : Prop where
  pos : 0 < d
  le : i + d ≤ n
  back : backV n E v (i + d) = backV n E v i
  new : ∀ r s, r < s → s < i + d → backV n E v r ≠ backV n E v s
theorem least_nat {p : Nat → Prop} [DecidablePred p] : ∀ m, p m → ∃ k, k ≤ m ∧ p k ∧ ∀ j, j < k → ¬ p j
  | 0, h => ⟨0, Nat.le_refl _, h, fun j hj => by omega⟩
  | m + 1, h => by
    by_cases hx : ∃ k, k ≤ m ∧ p k
    · obtain ⟨k, hk, hp⟩ := hx
      obtain ⟨k', h1, h2, h3⟩ := least_nat k hp
      exact ⟨k', by omega, h2, h3⟩
    · exact ⟨m + 1, Nat.le_refl _, h, fun j hj hp => hx ⟨j, by omega, hp⟩⟩
termination_by m => m
section
variable {n : Nat} {E : List Ed} {v : Nat}
theorem rep_is (hE : ∀ e ∈ E, edOk (n : Int) e = true) (hv : v < n) (hd : (rowQ n E n).getD v 0 < (rowQ n E (n - 1)).getD v 0) : ∃ i d, Rep n E v i d := by
  have hin : ∀ s, s ≤ n → backV n E v s < n := fun s hs => by
    cases s with
    | zero => exact hv
    | succ s => exact (back_edge hE hv hd (s := s) (by omega)).2.2.2.2.1
  obtain ⟨i, j, hij, hj, e⟩ := pigeon n (backV n E v) hin
  obtain ⟨k, hk, hp, hleast⟩ := least_nat (p := fun j => backV n E v j ∈ hostsB n E v j) j (hostsB_mem.2 ⟨i, hij, e⟩)
  obtain ⟨i', hi', e'⟩ := hostsB_mem.1 hp
  refine ⟨i', k - i', by omega, by omega, by rw [show i' + (k - i') = k by omega]; exact e'.symm, fun r s hrs hs heq => ?_⟩
  exact hleast s (by omega) (hostsB_mem.2 ⟨r, hrs, heq⟩)
theorem Rep.only {i d : Nat} (h : Rep n E v i d) {r : Nat} (hr : r < i + d) (e : backV n E v r = backV n E v (i + d)) : r = i := by
  have hp := h.pos
  rw [h.back] at e
  rcases Nat.lt_trichotomy r i with h1 | h1 | h1
  · exact absurd e (h.new r i h1 (by omega))
  · exact h1
  · exact absurd e.symm (h.new i r h1 hr)
theorem Rep.unique {i d i' d' : Nat} (h : Rep n E v i d) (h' : Rep n E v i' d') : i = i' ∧ d = d' := by
  have p1 := h.pos
  have p2 := h'.pos
  have key : ∀ {i d i' d' : Nat}, Rep n E v i d → Rep n E v i' d' → ¬ i + d < i' + d' := fun {i d i' d'} h h' hlt =>
    h'.new i (i + d) (by have := h.pos; omega) hlt h.back.symm
  have e : i + d = i' + d' := by
    have := key h h'; have := key h' h; omega
  have e2 : i = i' := h'.only (by omega) (by rw [← e]; exact h.back.symm)
  exact ⟨e2, by omega⟩
/-- What is gone over since. -/
theorem cyc_take {i d : Nat} : (cycL n E v 0 (i + d)).take d = cycL n E v i d := by
  unfold cycL
  rw [← List.map_take, List.take_range, Nat.min_eq_left (by omega)]
  refine List.map_congr_left fun t _ => ?_
  rw [Nat.zero_add]
theorem cyc_step {s : Nat} : cycL n E v 0 (s + 1) = backL n E v s :: cycL n E v 0 s := by
  unfold cycL
  rw [List.range_succ_eq_map, List.map_cons, List.map_map]
  congr 1
  · congr 1; omega
  · refine List.map_congr_left fun t _ => ?_
    simp only [Function.comp]
    congr 1; omega
theorem cyc_length (i d : Nat) : (cycL n E v i d).length = d := by simp [cycL]
end
/-- The place of the edge that begins at the least host, among the first ones. -/
def lowAt (l : List Ed) : Nat → Nat
  | 0 => 0
  | k + 1 => if (l.getD k default).fr < (l.getD (lowAt l k) default).fr then k else lowAt l k
theorem lowAt_lt {l : List Ed} : ∀ k, k ≤ l.length → 0 < l.length → lowAt l k < l.length
  | 0, _, h => h
  | k + 1, hk, h => by
    rw [lowAt]; split
    · omega
    · exact lowAt_lt k (by omega) h
theorem lowAt_low {l : List Ed} : ∀ k, ∀ j, j < k → (l.getD (lowAt l k) default).fr ≤ (l.getD j default).fr
  | 0, j, hj => by omega
  | k + 1, j, hj => by
    have ih := lowAt_low (l := l) k
    rw [lowAt]
    split
    · rename_i h
      by_cases e : j = k
      · subst e; exact Int.le_refl _
      · have := ih j (by omega); omega
    · rename_i h
      by_cases e : j = k
      · subst e; omega
      · exact ih j (by omega)
def rotL (l : List Ed) : List Ed := l.drop (lowAt l l.length) ++ l.take (lowAt l l.length)
theorem rotL_length (l : List Ed) : (rotL l).length = l.length := by
  unfold rotL; rw [List.length_append, List.length_drop, List.length_take]
  rcases Nat.eq_zero_or_pos l.length with h | h
  · rw [h]; omega
  · have := lowAt_lt l.length (Nat.le_refl _) h; omega
theorem rotL_perm (l : List Ed) : (rotL l).Perm l := by
  unfold rotL
  exact (List.perm_append_comm).trans (by rw [List.take_append_drop])
/-- The host that is looked at first: the least one that has less than ahead. -/
structure Drops (n : Nat) (E : List Ed) (v : Nat) : Prop where
  lt : v < n
  drop : (rowQ n E n).getD v 0 < (rowQ n E (n - 1)).getD v 0
  first : ∀ j, j < v → (rowQ n E (n - 1)).getD j 0 ≤ (rowQ n E n).getD j 0
theorem drops_is {n : Nat} {E : List Ed} (h : metL n E = false) : ∃ v, Drops n E v := by
  have hx : ∃ v, v < n ∧ (rowQ n E n).getD v 0 < (rowQ n E (n - 1)).getD v 0 := by
    refine Classical.byContradiction fun hc => ?_
    rw [met_iff.2 (fun k hk => Classical.byContradiction fun h2 => hc ⟨k, hk, by omega⟩)] at h
    cases h
  obtain ⟨v0, h1, h2⟩ := hx
  obtain ⟨v, hv, hp, hl⟩ := least_nat (p := fun v => (rowQ n E n).getD v 0 < (rowQ n E (n - 1)).getD v 0) v0 h2
  exact ⟨v, by omega, hp, fun j hj => by have := hl j hj; omega⟩
theorem Drops.unique {n : Nat} {E : List Ed} {v v' : Nat} (h : Drops n E v) (h' : Drops n E v') : v = v' := by
  rcases Nat.lt_trichotomy v v' with k | k | k
  · have := h'.first v k; have := h.drop; omega
  · exact k
  · have := h.first v' k; have := h'.drop; omega
/-- K is the chain of the edges E among n hosts. -/
def ChainIs (n : Int) (E K : List Ed) : Prop :=
  (mayE n E = true ∧ metL n.toNat E = false ∧ ∃ v i d, Drops n.toNat E v ∧ Rep n.toNat E v i d ∧ K = rotL (cycL n.toNat E v i d)) ∨ (¬ (mayE n E = true ∧ metL n.toNat E = false) ∧ K = [])
theorem chain_unique {n : Int} {E K K' : List Ed} (h : ChainIs n E K) (h' : ChainIs n E K') : K = K' := by
  rcases h with ⟨a1, a2, v, i, d, h1, h2, rfl⟩ | ⟨a, rfl⟩ <;> rcases h' with ⟨b1, b2, v', i', d', k1, k2, rfl⟩ | ⟨b, rfl⟩
  · obtain rfl := h1.unique k1
    obtain ⟨rfl, rfl⟩ := h2.unique k2
    rfl
  · exact absurd ⟨a1, a2⟩ b
  · exact absurd ⟨b1, b2⟩ a
  · rfl
theorem chain_some (n : Int) (E : List Ed) : ∃ K, ChainIs n E K := by
  by_cases h : mayE n E = true ∧ metL n.toNat E = false
  · obtain ⟨k1, k2, k3⟩ := mayE_iff.1 h.1
    obtain ⟨v, hv⟩ := drops_is h.2
    have hE : ∀ e ∈ E, edOk (n.toNat : Int) e = true := by rw [show (n.toNat : Int) = n by omega]; exact k3
    obtain ⟨i, d, hr⟩ := rep_is hE hv.lt hv.drop
    exact ⟨_, .inl ⟨h.1, h.2, v, i, d, hv, hr, rfl⟩⟩
  · exact ⟨[], .inr ⟨h, rfl⟩⟩
end Go.Proofs.Ytgeoggilnkcacaa

