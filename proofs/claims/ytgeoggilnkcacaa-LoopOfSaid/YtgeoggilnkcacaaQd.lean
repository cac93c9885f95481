import Derived.Test.YtgeoggilnkcacaaQc
namespace Go.Proofs.Ytgeoggilnkcacaa
set_option linter.unusedVariables false

/-! The layers as lists; that they follow the rule (stage 15): plain facts. -/
theorem least_le (had : List Int) (E : List Ed) (h : Nat) : ∀ J, (leastN had E h J).1 ≤ had.getD h 0
  | 0 => Int.le_refl _
  | J + 1 => by
    have ih := least_le had E h J
    rw [leastN]
    split
    · split
      · rename_i hc; have := hc.2; omega
      · exact ih
    · exact ih
theorem least_edge (had : List Int) (E : List Ed) (h : Nat) : ∀ J j (hj : j < E.length), j < J → E[j].to_ = (h : Int) → (leastN had E h J).1 ≤ had.getD E[j].fr.toNat 0 + E[j].wt
  | 0, j, _, hJ, _ => absurd hJ (Nat.not_lt_zero _)
  | J + 1, j, hj, hJ, ht => by
    rw [leastN]
    by_cases e : j = J
    · subst e
      rw [List.getElem?_eq_getElem hj]
      dsimp only
      split
      · exact Int.le_refl _
      · rename_i hc
        have : ¬ (had.getD E[j].fr.toNat 0 + E[j].wt < (leastN had E h j).1) := fun c => hc ⟨ht, c⟩
        omega
    · have ih := least_edge had E h J j hj (by omega) ht
      split
      · split
        · rename_i hc; have := hc.2; omega
        · exact ih
      · exact ih
theorem least_is (had : List Int) (E : List Ed) (h : Nat) : ∀ J, leastN had E h J = (had.getD h 0, -1) ∨ ∃ j, ∃ hj : j < E.length, j < J ∧ E[j].to_ = (h : Int) ∧ leastN had E h J = (had.getD E[j].fr.toNat 0 + E[j].wt, (j : Int)) ∧ had.getD E[j].fr.toNat 0 + E[j].wt < had.getD h 0
  | 0 => .inl rfl
  | J + 1 => by
    have ih := least_is had E h J
    have hle := least_le had E h J
    have up : (leastN had E h J = (had.getD h 0, -1) ∨ ∃ j, ∃ hj : j < E.length, j < J + 1 ∧ E[j].to_ = (h : Int) ∧ leastN had E h J = (had.getD E[j].fr.toNat 0 + E[j].wt, (j : Int)) ∧ had.getD E[j].fr.toNat 0 + E[j].wt < had.getD h 0) := by
      rcases ih with c | ⟨j, hj, h1, h2⟩
      · exact .inl c
      · exact .inr ⟨j, hj, by omega, h2⟩
    rw [leastN]
    split
    · rename_i e he
      split
      · rename_i hc
        obtain ⟨hJ, rfl⟩ := List.getElem?_eq_some_iff.1 he
        have := hc.2
        exact .inr ⟨J, hJ, by omega, hc.1, rfl, by omega⟩
      · exact up
    · exact up
/-- What the hosts have in a layer. -/
def rowQ (n : Nat) (E : List Ed) : Nat → List Int
  | 0 => List.replicate n 0
  | k + 1 => (List.range n).map fun h => (leastN (rowQ n E k) E h E.length).1
def byL (n : Nat) (E : List Ed) : Nat → List Int
  | 0 => List.replicate n (-1)
  | k + 1 => (List.range n).map fun h => (leastN (rowQ n E k) E h E.length).2
theorem rowQ_length (n : Nat) (E : List Ed) : ∀ k, (rowQ n E k).length = n
  | 0 => List.length_replicate
  | k + 1 => by rw [rowQ, List.length_map, List.length_range]
theorem byL_length (n : Nat) (E : List Ed) : ∀ k, (byL n E k).length = n
  | 0 => List.length_replicate
  | k + 1 => by rw [byL, List.length_map, List.length_range]
theorem rowQ_get {n : Nat} {E : List Ed} {k h : Nat} (hh : h < n) : (rowQ n E (k + 1)).getD h 0 = (leastN (rowQ n E k) E h E.length).1 := by
  rw [rowQ, List.getD_eq_getElem?_getD, List.getElem?_map, List.getElem?_range hh]; rfl
theorem byL_get {n : Nat} {E : List Ed} {k h : Nat} (hh : h < n) : (byL n E (k + 1)).getD h 0 = (leastN (rowQ n E k) E h E.length).2 := by
  rw [byL, List.getD_eq_getElem?_getD, List.getElem?_map, List.getElem?_range hh]; rfl
/-- The edges, as layers are told of them. -/
def trip (E : List Ed) : List (Nat × Nat × Int) := E.map fun e => (e.fr.toNat, e.to_.toNat, e.wt)
theorem layers_are {n : Nat} {E : List Ed} (hE : ∀ e ∈ E, edOk (n : Int) e = true) : LayersAre n (trip E) fun k h => (rowQ n E k).getD h 0 := by
  have hin : ∀ t ∈ trip E, ∃ j, ∃ hj : j < E.length, t = (E[j].fr.toNat, E[j].to_.toNat, E[j].wt) ∧ E[j].fr.toNat < n ∧ E[j].to_.toNat < n ∧ E[j].to_ = (E[j].to_.toNat : Int) := by
    intro t ht
    obtain ⟨e, he, rfl⟩ := List.mem_map.1 ht
    obtain ⟨j, hj, rfl⟩ := List.mem_iff_getElem.1 he
    have := edOk_iff.1 (hE _ (List.getElem_mem hj))
    exact ⟨j, hj, rfl, by omega, by omega, by omega⟩
  refine ⟨fun t ht => ?_, fun h hh => ?_, fun k h hh => ?_, fun k t ht => ?_, fun k h hh hd => ?_⟩
  · obtain ⟨j, hj, rfl, h1, h2, _⟩ := hin t ht
    exact ⟨h1, h2⟩
  · show (List.replicate n (0 : Int)).getD h 0 = 0
    rw [List.getD_eq_getElem?_getD, List.getElem?_replicate, if_pos hh]; rfl
  · show (rowQ n E (k + 1)).getD h 0 ≤ (rowQ n E k).getD h 0
    rw [rowQ_get hh]; exact least_le _ _ _ _
  · obtain ⟨j, hj, rfl, h1, h2, h3⟩ := hin t ht
    show (rowQ n E (k + 1)).getD E[j].to_.toNat 0 ≤ (rowQ n E k).getD E[j].fr.toNat 0 + E[j].wt
    rw [rowQ_get h2]
    exact least_edge _ _ _ _ j hj hj h3
  · change (rowQ n E (k + 1)).getD h 0 < (rowQ n E k).getD h 0 at hd
    show ∃ e ∈ trip E, e.2.1 = h ∧ (rowQ n E (k + 1)).getD h 0 = (rowQ n E k).getD e.1 0 + e.2.2
    rw [rowQ_get hh] at hd ⊢
    rcases least_is (rowQ n E k) E h E.length with c | ⟨j, hj, _, ht, c, _⟩
    · rw [c] at hd
      exact absurd hd (Int.lt_irrefl _)
    · exact ⟨_, List.mem_map.2 ⟨E[j], List.getElem_mem hj, rfl⟩, by show E[j].to_.toNat = h; omega, by rw [c]⟩
theorem row_mem {n : Nat} {E : List Ed} {k : Nat} {x : Int} (hx : x ∈ rowQ n E k) : ∃ h, h < n ∧ (rowQ n E k).getD h 0 = x := by
  obtain ⟨h, hh, rfl⟩ := List.mem_iff_getElem.1 hx
  exact ⟨h, by rw [rowQ_length] at hh; exact hh, by rw [List.getD_eq_getElem?_getD, List.getElem?_eq_getElem hh]; rfl⟩
theorem row_low {n : Nat} {E : List Ed} (hE : ∀ e ∈ E, edOk (n : Int) e = true) {k : Nat} (hk : k ≤ 32) : ∀ x ∈ rowQ n E k, -144115188075855872 ≤ x ∧ x ≤ 0 := by
  intro x hx
  obtain ⟨h, hh, rfl⟩ := row_mem hx
  have L := layers_are hE
  refine ⟨?_, L.below hh k⟩
  have hb := L.bound (B := 4503599627370496) (by omega) (fun t ht => by
    obtain ⟨e, he, rfl⟩ := List.mem_map.1 ht
    exact (edOk_iff.1 (hE e he)).2.2.2.2.2) k h hh
  have : (4503599627370496 : Int) * (k : Int) ≤ 144115188075855872 := by omega
  show -144115188075855872 ≤ (rowQ n E k).getD h 0
  omega
theorem row_Low {n : Nat} {E : List Ed} (hE : ∀ e ∈ E, edOk (n : Int) e = true) {k : Nat} (hk : k ≤ 32) : Low (rowQ n E k) := fun x hx => by
  have := row_low hE hk x hx
  omega
theorem row_nums {n : Nat} {E : List Ed} (hE : ∀ e ∈ E, edOk (n : Int) e = true) {k : Nat} (hk : k ≤ 32) : Nums (rowQ n E k) := fun x hx => by
  have := row_low hE hk x hx
  unfold I64; omega
/-- Whether no host has less in the last layer than in the one ahead. -/
def metL (n : Nat) (E : List Ed) : Bool := (List.range n).all fun h => decide ((rowQ n E (n - 1)).getD h 0 ≤ (rowQ n E n).getD h 0)
/-- The greatest offsets, if the edges may be, and can be met. -/
def solveL (n : Int) (E : List Ed) : Option (List Int) := if mayE n E && metL n.toNat E then some (rowQ n.toNat E n.toNat) else none
end Go.Proofs.Ytgeoggilnkcacaa

