import Derived.Test.YtgeoggilnkcacaaQi
namespace Go.Proofs.Ytgeoggilnkcacaa
open Go Go.RowKit Go.Sort
set_option linter.unusedVariables false

/-! The chain of edges that can't be met (stage 16): plain facts. -/
theorem least_by (had : List Int) (E : List Ed) (h : Nat) : ∀ j, ((leastN had E h j).2 = -1 ∧ (leastN had E h j).1 = had.getD h 0) ∨
    ∃ i, ∃ hi : i < E.length, (leastN had E h j).2 = (i : Int) ∧ E[i].to_ = (h : Int) ∧ (leastN had E h j).1 = had.getD E[i].fr.toNat 0 + E[i].wt
  | 0 => .inl ⟨rfl, rfl⟩
  | j + 1 => by
    by_cases hj : j < E.length
    · rw [leastN_step hj]
      split
      · rename_i hc
        exact .inr ⟨j, hj, rfl, hc.1, rfl⟩
      · exact least_by had E h j
    · have e : leastN had E h (j + 1) = leastN had E h j := by
        show (match E[j]? with
          | some e => if e.to_ = (h : Int) ∧ had.getD e.fr.toNat 0 + e.wt < (leastN had E h j).1 then (had.getD e.fr.toNat 0 + e.wt, (j : Int)) else leastN had E h j
          | none => leastN had E h j) = _
        rw [List.getElem?_eq_none (by omega)]
      rw [e]; exact least_by had E h j
/-- The edge by which a host has what it has. -/
def backE (n : Nat) (E : List Ed) (k v : Nat) : Ed := E.getD ((byL n E k).getD v (-1)).toNat default
theorem row_at {n : Nat} {E : List Ed} {k h : Nat} (hh : h < n) : (rowQ n E (k + 1)).getD h 0 = (leastN (rowQ n E k) E h E.length).1 := by
  rw [rowQ]; simp [List.getD, hh]
theorem by_at {n : Nat} {E : List Ed} {k h : Nat} (hh : h < n) : (byL n E (k + 1)).getD h (-1) = (leastN (rowQ n E k) E h E.length).2 := by
  rw [byL]; simp [List.getD, hh]
/-- What fell from one layer to the next fell by an edge. -/
theorem fell_by {n : Nat} {E : List Ed} {k h : Nat} (hh : h < n) (hd : (rowQ n E (k + 1)).getD h 0 < (rowQ n E k).getD h 0) :
    0 ≤ (byL n E (k + 1)).getD h (-1) ∧ backE n E (k + 1) h ∈ E ∧ (backE n E (k + 1) h).to_ = (h : Int) ∧ (rowQ n E (k + 1)).getD h 0 = (rowQ n E k).getD (backE n E (k + 1) h).fr.toNat 0 + (backE n E (k + 1) h).wt := by
  unfold backE
  rw [row_at hh] at hd ⊢
  rw [by_at hh]
  rcases least_by (rowQ n E k) E h E.length with ⟨_, h2⟩ | ⟨i, hi, h1, h2, h3⟩
  · omega
  · rw [h1, Int.toNat_natCast]
    have e : E.getD i default = E[i] := by simp [List.getD, hi]
    rw [e]
    exact ⟨by omega, List.getElem_mem _, h2, h3⟩
/-- The hosts on the way back. -/
def backV (n : Nat) (E : List Ed) (v : Nat) : Nat → Nat
  | 0 => v
  | s + 1 => (backE n E (n - s) (backV n E v s)).fr.toNat
/-- The edges on the way back. -/
def backL (n : Nat) (E : List Ed) (v s : Nat) : Ed := backE n E (n - s) (backV n E v s)
theorem back_fr {n : Nat} {E : List Ed} {v s : Nat} : backV n E v (s + 1) = (backL n E v s).fr.toNat := rfl
section
variable {n : Nat} {E : List Ed} {v : Nat}
theorem back_drop (hE : ∀ e ∈ E, edOk (n : Int) e = true) (hv : v < n) (hd : (rowQ n E n).getD v 0 < (rowQ n E (n - 1)).getD v 0) : ∀ s, s < n →
    backV n E v s < n ∧ (rowQ n E (n - s)).getD (backV n E v s) 0 < (rowQ n E (n - s - 1)).getD (backV n E v s) 0
  | 0, _ => ⟨hv, hd⟩
  | s + 1, hs => by
    obtain ⟨h1, h2⟩ := back_drop hE hv hd s (by omega)
    obtain ⟨k, hk⟩ : ∃ k, n - s = k + 2 := ⟨n - s - 2, by omega⟩
    rw [show n - s - 1 = k + 1 by omega, hk] at h2
    obtain ⟨_, f2, f3, f4⟩ := fell_by h1 h2
    have L := layers_are hE
    simp only [Nat.add_assoc, Nat.reduceAdd] at f2 f3 f4
    have hok := edOk_iff.1 (hE _ f2)
    have e : backV n E v (s + 1) = (backE n E (k + 2) (backV n E v s)).fr.toNat := by rw [back_fr]; unfold backL; rw [hk]
    rw [e, show n - (s + 1) = k + 1 by omega, show k + 1 - 1 = k by omega]
    refine ⟨by omega, ?_⟩
    exact L.drop_back h1 (e := ((backE n E (k + 2) (backV n E v s)).fr.toNat, (backE n E (k + 2) (backV n E v s)).to_.toNat, (backE n E (k + 2) (backV n E v s)).wt)) (List.mem_map.2 ⟨_, f2, rfl⟩) (by show (backE n E (k + 2) (backV n E v s)).to_.toNat = _; omega) f4 h2
/-- Each edge on the way back. -/
theorem back_edge (hE : ∀ e ∈ E, edOk (n : Int) e = true) (hv : v < n) (hd : (rowQ n E n).getD v 0 < (rowQ n E (n - 1)).getD v 0) {s : Nat} (hs : s < n) :
    0 ≤ (byL n E (n - s)).getD (backV n E v s) (-1) ∧ backL n E v s ∈ E ∧ (backL n E v s).to_ = (backV n E v s : Int) ∧ (backL n E v s).fr = (backV n E v (s + 1) : Int) ∧ backV n E v (s + 1) < n ∧
      (rowQ n E (n - s)).getD (backV n E v s) 0 = (rowQ n E (n - s - 1)).getD (backV n E v (s + 1)) 0 + (backL n E v s).wt := by
  obtain ⟨h1, h2⟩ := back_drop hE hv hd s hs
  obtain ⟨k, hk⟩ : ∃ k, n - s = k + 1 := ⟨n - s - 1, by omega⟩
  rw [show n - s - 1 = k by omega, hk] at h2
  obtain ⟨f1, f2, f3, f4⟩ := fell_by h1 h2
  have hok := edOk_iff.1 (hE _ f2)
  have e : backL n E v s = backE n E (k + 1) (backV n E v s) := by unfold backL; rw [hk]
  have e2 : backV n E v (s + 1) = (backE n E (k + 1) (backV n E v s)).fr.toNat := by rw [back_fr, e]
  rw [e, e2, show n - s - 1 = k by omega, hk]
  exact ⟨f1, f2, f3, by omega, by omega, f4⟩
/-- The chain: from the place i of the way back on, up to the place j. -/
def cycL (n : Nat) (E : List Ed) (v i d : Nat) : List Ed := (List.range d).map fun t => backL n E v (i + d - 1 - t)
theorem sum_rev : ∀ (d : Nat) (f : Nat → Int), ((List.range d).map fun t => f (d - 1 - t)).sum = ((List.range d).map f).sum
  | 0, _ => rfl
  | d + 1, f => by
    have e : ((fun t => f (d + 1 - 1 - t)) ∘ Nat.succ) = fun t => f (d - 1 - t) := by
      funext t; simp only [Function.comp]; congr 1; omega
    have h2 : ((List.range (d + 1)).map f).sum = ((List.range d).map f).sum + f d := by
      rw [List.range_succ, List.map_append, List.sum_append]; simp
    have h1 : ((List.range (d + 1)).map fun t => f (d + 1 - 1 - t)).sum = f d + ((List.range d).map fun t => f (d - 1 - t)).sum := by
      rw [List.range_succ_eq_map, List.map_cons, List.map_map, List.sum_cons, e]; simp
    rw [h1, h2, sum_rev d f]; omega
/-- The chain's weights are below 0 together. -/
theorem cyc_neg (hE : ∀ e ∈ E, edOk (n : Int) e = true) (hv : v < n) (hd : (rowQ n E n).getD v 0 < (rowQ n E (n - 1)).getD v 0) {i d : Nat} (h0 : 0 < d) (hn : i + d ≤ n) (hb : backV n E v (i + d) = backV n E v i) :
    ((cycL n E v i d).map Ed.wt).sum < 0 := by
  have key : ∀ d', d' ≤ d → ((List.range d').map fun t => (backL n E v (i + t)).wt).sum = (rowQ n E (n - i)).getD (backV n E v i) 0 - (rowQ n E (n - i - d')).getD (backV n E v (i + d')) 0 := by
    intro d'
    induction d' with
    | zero => intro _; simp
    | succ d' ih =>
      intro h
      obtain ⟨_, _, _, _, _, e6⟩ := back_edge hE hv hd (s := i + d') (by omega)
      rw [List.range_succ, List.map_append, List.sum_append, ih (by omega)]
      simp only [List.map_cons, List.map_nil, List.sum_cons, List.sum_nil]
      rw [show n - (i + d') - 1 = n - i - (d' + 1) by omega, show n - (i + d') = n - i - d' by omega] at e6
      rw [show i + (d' + 1) = i + d' + 1 by omega]
      omega
  have L := layers_are hE
  obtain ⟨g1, g2⟩ := back_drop hE hv hd i (by omega)
  have e1 : (cycL n E v i d).map Ed.wt = (List.range d).map fun t => (fun t => (backL n E v (i + t)).wt) (d - 1 - t) := by
    unfold cycL
    rw [List.map_map]
    refine List.map_congr_left fun t ht => ?_
    have := List.mem_range.1 ht
    show (backL n E v (i + d - 1 - t)).wt = (backL n E v (i + (d - 1 - t))).wt
    rw [show i + d - 1 - t = i + (d - 1 - t) by omega]
  have e2 := (sum_rev d (fun t => (backL n E v (i + t)).wt)).trans (key d (Nat.le_refl _))
  rw [hb] at e2
  rw [e1]
  refine Int.lt_of_le_of_lt (Int.le_of_eq e2) ?_
  have hdown := L.down g1 (n - i - d) (n - i - 1) (by omega)
  omega
end
end Go.Proofs.Ytgeoggilnkcacaa

