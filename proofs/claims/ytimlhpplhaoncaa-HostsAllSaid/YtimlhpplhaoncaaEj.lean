import Derived.Test.YtimlhpplhaoncaaEi
namespace Go.Proofs.Ytimlhpplhaoncaa
open Go Go.RowKit Go.Sort Go.Maps
set_option linter.unusedVariables false

/-! The landed code of stage 13: Groups, which goes through a map. -/
theorem RangeG.iter {α : Type} {P : Program} {tk : TypeId} {κ : α → Lit} {w : World} {b r n cnt : Nat} {f : α → Option Value} {left : α → Bool} (h : RangeG P tk κ w b r n f left cnt) : ∃ s q c, w.heap[r]? = some (.mapIter (some b) s q c) := by
  obtain ⟨D, L, ⟨es, clock, since, seen, c0, hb, F, hs, hD, hr, _⟩, _⟩ := h
  exact ⟨_, _, _, hr⟩
theorem own_block13 {w : World} {base : Nat} {e : TypeId} {size n g : Nat} {v : Value} {xs : List Value} (h : w.ownsRow base e size v n xs) (hk : v.ownBlock = some g) : ∃ cur, w.heap[g]? = some (.cells cur e (0, 0)) := by
  rcases h.2 with ⟨rfl, _⟩ | ⟨g', cap, cur, rfl, hb, hg, _⟩
  · cases hk
  · obtain rfl : g' = g := by simpa [Value.ownBlock] using hk
    exact ⟨cur, hg⟩
theorem MapG.block {α : Type} {P : Program} {tk : TypeId} {κ : α → Lit} {w : World} {b n : Nat} {f : α → Option Value} (h : MapG P tk κ w b n f) : ∃ es c, w.heap[b]? = some (.map es c) := by
  obtain ⟨D, ⟨es, clock, hb, _⟩, _⟩ := h
  exact ⟨_, _, hb⟩
/-- Each host's row, but where the host's number is still to come. -/
def rowOf (K : List Tx) (g : Tx → Option Value) (left : Tx → Bool) : List Value := K.map fun x => if left x = true then .slice none 0 0 else orN (g x)
theorem rowOf_length (K : List Tx) (g : Tx → Option Value) (left : Tx → Bool) : (rowOf K g left).length = K.length := by simp [rowOf]
theorem rowOf_step {K : List Tx} (hK : K.Nodup) (g : Tx → Option Value) (left : Tx → Bool) {k : Nat} (h : k < K.length) {x : Tx} (hx : K[k] = x) : (rowOf K g left).set k (orN (g x)) = rowOf K g (fun z => left z && !decide (z = x)) := by
  apply List.ext_getElem
  · simp [rowOf]
  intro j h1 h2
  have hj : j < K.length := by simpa [rowOf] using h2
  have hp := List.pairwise_iff_getElem.1 hK
  by_cases e : j = k
  · subst e
    rw [List.getElem_set_self]
    simp [rowOf, hx]
  · have hne : K[j] ≠ x := by
      rw [← hx]
      rcases Nat.lt_or_ge j k with c | c
      · exact hp j k hj h c
      · exact fun e2 => hp k j h hj (by omega) e2.symm
    rw [List.getElem_set_ne (fun e2 => e e2.symm)]
    simp [rowOf, hne]
theorem rowOf_start {K : List Tx} {g : Tx → Option Value} {left : Tx → Bool} (h : ∀ x ∈ K, left x = true) : List.replicate K.length (Value.slice none 0 0) = rowOf K g left := by
  apply List.ext_getElem
  · simp [rowOf]
  intro j h1 h2
  have hj : j < K.length := by simpa using h1
  simp [rowOf, h K[j] (List.getElem_mem hj)]
/-- The loop over the map of numbers. -/
structure GrI (w wr : World) (nb r pb gb : Nat) (K : List Tx) (L : List Sp) (g : Tx → Option Value) (left : Tx → Bool) (cnt : Nat) (Q : List Value) : Prop where
  rg : RangeG Try.prog 9 keyS wr nb r K.length (numF K K.length) left cnt
  mp : MapG Try.prog 9 keyS wr pb L.length g
  row : ∀ x, wr.ownsRow w.heap.size 3 1 (orN (g x)) (grpL L x).length (intV (grpL L x))
  own : wr.ownsRow w.heap.size 28 1 (.slice (some ⟨gb, 0, none⟩) K.length K.length) K.length Q
  le : w.heap.size ≤ r
  bw : Below w.heap.size w wr
theorem GrI.grown {w wr w' : World} {nb r pb gb : Nat} {K : List Tx} {L : List Sp} {g : Tx → Option Value} {left left' : Tx → Bool} {cnt cnt' : Nat} {Q : List Value} (h : GrI w wr nb r pb gb K L g left cnt Q)
    (hrg : RangeG Try.prog 9 keyS w' nb r K.length (numF K K.length) left' cnt') (hg : wr.grownBy w' (some r)) : GrI w w' nb r pb gb K L g left' cnt' Q := by
  obtain ⟨s, q, c, hr⟩ := h.rg.iter
  have hrow : ∀ {e : TypeId} {v : Value} {n : Nat} {xs : List Value}, wr.ownsRow w.heap.size e 1 v n xs → v.ownBlock = none ∨ v.ownBlock ≠ some r := by
    intro e v n xs ho
    refine .inr fun hk => ?_
    obtain ⟨cur, hc⟩ := own_block13 ho hk
    rw [hr] at hc; cases hc
  refine ⟨hrg, h.mp.grown hg ?_, fun x => (h.row x).kept hg (hrow (h.row x)), h.own.kept hg (hrow h.own), h.le, h.bw.grown hg h.bw.size (by intro k hk; injection hk with hk; have := h.le; omega)⟩
  intro e; injection e with e
  obtain ⟨es, c2, hm⟩ := h.mp.block
  rw [e, hr] at hm; cases hm
theorem GrI.store {w wr : World} {nb r pb gb : Nat} {K : List Tx} {L : List Sp} {g : Tx → Option Value} {left : Tx → Bool} {cnt : Nat} {Q : List Value} (h : GrI w wr nb r pb gb K L g left cnt Q) (k : Nat) (v : Value) : GrI w (wr.setCell ⟨gb, k, none⟩ v) nb r pb gb K L g left cnt (Q.set k v) := by
  obtain ⟨h1, h2⟩ := h.own.stored k v
  obtain ⟨cur, hc⟩ := own_block13 h.own rfl
  refine ⟨h.rg.kept h2 ?_ ?_, h.mp.grown h2 ?_, fun x => (h.row x).kept h2 (.inr fun hk => ?_), h1, h.le, h.bw.setCell (p := ⟨gb, k, none⟩) (own_shape h.own rfl).1 _⟩
  · intro e; injection e with e
    obtain ⟨es, c2, hm⟩ := h.rg.map.block
    rw [e, hc] at hm; cases hm
  · intro e; injection e with e
    obtain ⟨s, q, c, hr⟩ := h.rg.iter
    rw [e, hc] at hr; cases hr
  · intro e; injection e with e
    obtain ⟨es, c2, hm⟩ := h.mp.block
    rw [e, hc] at hm; cases hm
  · obtain ⟨cur2, hc2⟩ := own_block13 (h.row x) hk
    rw [hc] at hc2; cases hc2
theorem GrI.done {w wr : World} {nb r pb gb : Nat} {K : List Tx} {L : List Sp} {g : Tx → Option Value} {left : Tx → Bool} {cnt : Nat} {Q : List Value} (h : GrI w wr nb r pb gb K L g left cnt Q) (hK : K = hostsL L) (hQ : Q = rowOf K g left) (hl : ∀ x, left x = false) :
    Rows2 w.heap.size wr (.slice (some ⟨gb, 0, none⟩) K.length K.length) (groupsL L) Q := by
  subst hK
  have hgl := groups_length L
  refine ⟨by rw [hgl]; exact h.own, fun u hu => ?_, fun i hi => ?_⟩
  · subst hQ
    obtain ⟨x, _, rfl⟩ := List.mem_map.1 hu
    rw [if_neg (by rw [hl]; simp)]
    obtain ⟨va, vc, hv, _⟩ := own_slice (h.row x)
    rw [hv]; rfl
  · have hi' : i < (hostsL L).length := by omega
    refine ⟨orN (g (hostsL L)[i]), ?_, ?_, ?_⟩
    · subst hQ
      simp [rowOf, hl, List.getElem?_eq_getElem hi']
    · have e : (groupsL L)[i] = grpL L (hostsL L)[i] := by simp [groupsL]
      rw [e]; exact h.row _
    · cases hk : (orN (g (hostsL L)[i])).ownBlock with
      | none => exact .inl hk
      | some b =>
        refine .inr (.inr ?_)
        rw [hk]
        intro e
        obtain ⟨c1, h1⟩ := own_block13 (h.row _) hk
        obtain ⟨c2, h2⟩ := own_block13 h.own e.symm
        rw [h1] at h2; cases h2
end Go.Proofs.Ytimlhpplhaoncaa
