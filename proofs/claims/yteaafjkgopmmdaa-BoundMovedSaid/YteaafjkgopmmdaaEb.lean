import Derived.Test.YteaafjkgopmmdaaEa
namespace Go.Proofs.Yteaafjkgopmmdaa
open Go Go.RowKit Go.Sort Go.Shelf
set_option linter.unusedVariables false

/-! Rows of rows of numbers; the document's Groups (stage 13). -/
structure Rows2 (B : Nat) (w : World) (v : Value) (G : List (List Int)) (vs : List Value) : Prop where
  own : w.ownsRow B 27 1 v G.length vs
  one : ∀ u ∈ vs, u.oneCell' = true
  at_ : ∀ i (h : i < G.length), ∃ u, vs[i]? = some u ∧ w.ownsRow B 3 1 u G[i].length (intV G[i]) ∧ Apart u v
theorem Rows2.below {B : Nat} {w w' : World} {v : Value} {G : List (List Int)} {vs : List Value} (h : Rows2 B w v G vs) (hb : Below w.heap.size w w') : Rows2 B w' v G vs :=
  ⟨own_below h.own hb, h.one, fun i hi => by obtain ⟨u, h1, h2, h3⟩ := h.at_ i hi; exact ⟨u, h1, own_below h2 hb, h3⟩⟩
theorem Rows2.base {B B' : Nat} {w : World} {v : Value} {G : List (List Int)} {vs : List Value} (h : Rows2 B w v G vs) (hb : B' ≤ B) : Rows2 B' w v G vs :=
  ⟨own_base h.own hb, h.one, fun i hi => by obtain ⟨u, h1, h2, h3⟩ := h.at_ i hi; exact ⟨u, h1, own_base h2 hb, h3⟩⟩
theorem Rows2.len {B : Nat} {w : World} {v : Value} {G : List (List Int)} {vs : List Value} (h : Rows2 B w v G vs) : vs.length = G.length := by have := h.own.1; omega
theorem Rows2.push {B : Nat} {w w2 : World} {v v' u : Value} {G : List (List Int)} {vs : List Value} {g : List Int} (h : Rows2 B w v G vs) (hu : w.ownsRow B 3 1 u g.length (intV g)) (hap : Apart u v) (ho1 : u.oneCell' = true) (o : Obj)
    (ho : w2.ownsRow B 27 1 v' (G.length + 1) (vs ++ [u])) (hg : (w.alloc o).grownBy w2 v.ownBlock) (hat : v'.ownBlock = v.ownBlock ∨ v'.ownBlock = some (w.alloc o).heap.size) : Rows2 B w2 v' (G ++ [g]) (vs ++ [u]) := by
  have hl := h.len
  refine ⟨by rw [List.length_append]; exact ho, fun x hx => (List.mem_append.1 hx).elim (h.one x) (fun hx => by rw [List.mem_singleton.1 hx]; exact ho1), fun i hi => ?_⟩
  by_cases e : i < G.length
  · obtain ⟨x, h1, h2, h3⟩ := h.at_ i e
    have h2' := own_below h2 (box1 w o)
    refine ⟨x, by rw [List.getElem?_append_left (by omega)]; exact h1, ?_, h3.next h2' hat⟩
    rw [List.getElem_append_left e]
    exact h2'.kept hg h3.row
  · have e2 : i = G.length := by rw [List.length_append] at hi; simp at hi; omega
    subst e2
    have hu' := own_below hu (box1 w o)
    refine ⟨u, by rw [List.getElem?_append_right (by omega), hl]; simp, ?_, hap.next hu' hat⟩
    simp only [List.getElem_append_right (Nat.le_refl _), Nat.sub_self, List.getElem_cons_zero]
    exact hu'.kept hg hap.row
/-- The places of a host's spans, among the first ones. -/
def grpN (L : List Sp) (h : Tx) (n : Nat) : List Int := ((List.range n).filter fun i => decide ((L.map hostT)[i]? = some h)).map fun (i : Nat) => (i : Int)
def grpL (L : List Sp) (h : Tx) : List Int := grpN L h L.length
def groupsL (L : List Sp) : List (List Int) := (hostsL L).map (grpL L)
theorem grpN_yes {L : List Sp} {h : Tx} {n : Nat} (hn : n < L.length) (e : hostT L[n] = h) : grpN L h (n + 1) = grpN L h n ++ [(n : Int)] := by
  unfold grpN
  rw [List.range_succ, List.filter_append]
  simp [hn, e]
theorem grpN_no {L : List Sp} {h : Tx} {n : Nat} (hn : n < L.length) (e : hostT L[n] ≠ h) : grpN L h (n + 1) = grpN L h n := by
  unfold grpN
  rw [List.range_succ, List.filter_append]
  simp [hn, e]
theorem grpN_le (L : List Sp) (h : Tx) (n : Nat) : (grpN L h n).length ≤ n := by
  unfold grpN
  rw [List.length_map]
  have := List.length_filter_le (fun i => decide ((L.map hostT)[i]? = some h)) (List.range n)
  rwa [List.length_range] at this
theorem groups_take {L : List Sp} {k : Nat} (h : k < (hostsL L).length) : (groupsL L).take (k + 1) = (groupsL L).take k ++ [grpL L (hostsL L)[k]] := by
  have h' : k < (groupsL L).length := by simpa [groupsL] using h
  rw [List.take_succ_eq_append_getElem h']; simp [groupsL]
theorem groups_length (L : List Sp) : (groupsL L).length = (hostsL L).length := by simp [groupsL]
theorem info_slice13 : (Try.prog.info? 27).map (fun i => (i.zero, i.size, i.bytes)) = some (some (.slice none 0 0), 1, 24) := by kernel_rfl
/-- What groups pay. -/
def GroupsPay (F : Nat) : Prop := ∀ (a : Option Addr) (c : Nat) (L : List Sp) (w : World), Rd w w.heap.size a (flatL L) → L.length ≤ 100000 → (∀ s ∈ L, s.Ok) →
  Calls Try.prog F #[.slice a L.length c] w fun e w' => ∃ v vs, e = .returned v ∧ Rows2 w.heap.size w' v (groupsL L) vs ∧ Below w.heap.size w w'
end Go.Proofs.Yteaafjkgopmmdaa

