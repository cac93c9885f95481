import Derived.Test.YteaafjkgopmmdaaEc
namespace Go.Proofs.Yteaafjkgopmmdaa
open Go Go.RowKit Go.Sort Go.Shelf
set_option linter.unusedVariables false

/-! Each place is in just one host's group: plain facts (stage 13). -/
theorem place_get : ∀ (l : List Tx) (x : Tx) (k : Nat), x ∈ l → ∃ j, ∃ h : j < l.length, placeF l x k = ((k + j : Nat) : Int) ∧ l[j] = x
  | [], x, k, h => by cases h
  | y :: r, x, k, h => by
    by_cases e : y = x
    · exact ⟨0, by simp, by simp [placeF, e], by simpa using e⟩
    · have hr : x ∈ r := by
        rcases List.mem_cons.1 h with h | h
        · exact absurd h.symm e
        · exact h
      obtain ⟨j, hj, h1, h2⟩ := place_get r x (k + 1) hr
      refine ⟨j + 1, by simp; omega, ?_, by simpa using h2⟩
      simp only [placeF, if_neg e]
      rw [h1]; congr 1; omega
theorem host_in {L : List Sp} {i : Nat} (h : i < L.length) : hostT L[i] ∈ hostsL L := ((onceL_once (L.map hostT)).2 _).2 (List.mem_map.2 ⟨_, List.getElem_mem h, rfl⟩)
theorem hosts_pair (L : List Sp) : (hostsL L).Pairwise ltT := (onceL_once (L.map hostT)).1
theorem hosts_inj {L : List Sp} {i j : Nat} (hi : i < (hostsL L).length) (hj : j < (hostsL L).length) (e : (hostsL L)[i] = (hostsL L)[j]) : i = j := by
  have hp := List.pairwise_iff_getElem.1 (hosts_pair L)
  rcases Nat.lt_trichotomy i j with c | c | c
  · have := hp i j hi hj c; rw [e] at this; exact absurd this ltT_irrefl
  · exact c
  · have := hp j i hj hi c; rw [e] at this; exact absurd this ltT_irrefl
/-- A place's number is its host's. -/
theorem num_is {L : List Sp} {i : Nat} (h : i < L.length) : ∃ k, ∃ hk : k < (hostsL L).length, (numL L)[i]? = some ((k : Nat) : Int) ∧ (hostsL L)[k] = hostT L[i] := by
  obtain ⟨j, hj, h1, h2⟩ := place_get (hostsL L) (hostT L[i]) 0 (host_in h)
  refine ⟨j, hj, ?_, h2⟩
  have h1 : placeL (hostsL L) (hostT L[i]) = ((0 + j : Nat) : Int) := h1
  rw [Nat.zero_add] at h1
  simp [numL, h, h1]
theorem grp_mem {L : List Sp} {h : Tx} {x : Int} : x ∈ grpL L h ↔ ∃ i : Nat, ∃ hi : i < L.length, x = (i : Int) ∧ hostT L[i] = h := by
  unfold grpL grpN
  simp only [List.mem_map, List.mem_filter, List.mem_range, decide_eq_true_eq, List.getElem?_map]
  constructor
  · rintro ⟨i, ⟨hi, e⟩, rfl⟩
    rw [List.getElem?_eq_getElem hi] at e
    exact ⟨i, hi, rfl, by simpa using e⟩
  · rintro ⟨i, hi, rfl, e⟩
    exact ⟨i, ⟨hi, by rw [List.getElem?_eq_getElem hi]; simp [e]⟩, rfl⟩
theorem grp_once (L : List Sp) (h : Tx) : (grpL L h).Pairwise (· < ·) := by
  unfold grpL grpN
  refine List.pairwise_map.2 ((List.pairwise_lt_range.filter _).imp ?_)
  intro a b hab; omega
/-- What stands in the groups, by the numbers. -/
structure GroupIs (N : List Int) (n : Nat) (H : List Tx) (hs : List Tx) (G : List (List Int)) : Prop where
  len : G.length = H.length
  num : N.length = n
  lt : ∀ i, i < n → ∃ k : Nat, k < H.length ∧ N[i]? = some (k : Int)
  mem : ∀ k (hk : k < G.length) (x : Int), x ∈ G[k] ↔ ∃ i : Nat, i < n ∧ x = (i : Int) ∧ N[i]? = some (k : Int)
  once : ∀ k (hk : k < G.length), G[k].Pairwise (· < ·)
  some_ : ∀ k (hk : k < G.length), 0 < G[k].length
  le : ∀ k (hk : k < G.length), G[k].length ≤ n
  rise : ∀ k (hk : k < G.length) (hk' : k + 1 < G.length) (i j : Nat), (i : Int) ∈ G[k] → (j : Int) ∈ G[k + 1] → ∃ x y, hs[i]? = some x ∧ hs[j]? = some y ∧ ltT x y
theorem groups_are (L : List Sp) : GroupIs (numL L) L.length (hostsL L) (L.map hostT) (groupsL L) := by
  have hget : ∀ k (hk : k < (groupsL L).length), (groupsL L)[k] = grpL L ((hostsL L)[k]'(by rw [groups_length] at hk; exact hk)) := fun k hk => by simp [groupsL]
  refine ⟨groups_length L, numL_length L, fun i hi => ?_, fun k hk x => ?_, fun k hk => ?_, fun k hk => ?_, fun k hk => by rw [hget k hk]; exact grpN_le L _ _, fun k hk hk' i j hi hj => ?_⟩
  · obtain ⟨k, hk, h1, _⟩ := num_is hi
    exact ⟨k, hk, h1⟩
  · have hk2 : k < (hostsL L).length := by rw [groups_length] at hk; exact hk
    rw [hget k hk, grp_mem]
    constructor
    · rintro ⟨i, hi, rfl, e⟩
      obtain ⟨j, hj, h1, h2⟩ := num_is hi
      have : j = k := hosts_inj hj hk2 (h2.trans e)
      subst this
      exact ⟨i, hi, rfl, h1⟩
    · rintro ⟨i, hi, rfl, e⟩
      obtain ⟨j, hj, h1, h2⟩ := num_is hi
      rw [h1] at e
      have : j = k := by have := Option.some.inj e; omega
      subst this
      exact ⟨i, hi, rfl, h2.symm⟩
  · rw [hget k hk]; exact grp_once L _
  · have hk2 : k < (hostsL L).length := by rw [groups_length] at hk; exact hk
    rw [hget k hk]
    have hm : (hostsL L)[k] ∈ L.map hostT := ((onceL_once (L.map hostT)).2 _).1 (List.getElem_mem hk2)
    obtain ⟨s, hs, e⟩ := List.mem_map.1 hm
    obtain ⟨i, hi, rfl⟩ := List.mem_iff_getElem.1 hs
    exact List.length_pos_of_mem (grp_mem.2 ⟨i, hi, rfl, e⟩)
  · have hk2 : k + 1 < (hostsL L).length := by rw [groups_length] at hk'; exact hk'
    rw [hget k hk] at hi
    rw [hget (k + 1) hk'] at hj
    obtain ⟨i', hi', e1, e2⟩ := grp_mem.1 hi
    obtain ⟨j', hj', e3, e4⟩ := grp_mem.1 hj
    obtain rfl : i = i' := by omega
    obtain rfl : j = j' := by omega
    refine ⟨hostT L[i], hostT L[j], by simp [hi'], by simp [hj'], ?_⟩
    rw [e2, e4]
    exact List.pairwise_iff_getElem.1 (hosts_pair L) k (k + 1) (by omega) hk2 (by omega)
theorem take_less {g : List Int} (hp : g.Pairwise (· < ·)) {j : Nat} (hj : j < g.length) : g[j] ∉ g.take j := fun h => by
  obtain ⟨k, hk, e⟩ := List.mem_iff_getElem.1 h
  rw [List.getElem_take] at e
  rw [List.length_take] at hk
  have := List.pairwise_iff_getElem.1 hp k j (by omega) hj (by omega)
  omega
/-- How often each place was met. -/
def MetI (N M : List Int) (h : Nat) (T : List Int) : Prop := M.length = N.length ∧ ∀ (i : Nat) (x : Int), N[i]? = some x → M[i]? = some (if x < (h : Int) ∨ (x = (h : Int) ∧ (i : Int) ∈ T) then 1 else 0)
theorem MetI.start {N : List Int} (h : ∀ (i : Nat) (x : Int), N[i]? = some x → 0 ≤ x) : MetI N (List.replicate N.length 0) 0 [] := by
  refine ⟨by simp, fun i x hx => ?_⟩
  have hi := (List.getElem?_eq_some_iff.1 hx).1
  have := h i x hx
  rw [List.getElem?_replicate, if_pos hi, if_neg]
  rintro (h1 | ⟨_, h1⟩)
  · omega
  · cases h1
theorem MetI.zero {N M T : List Int} {h i : Nat} (hm : MetI N M h T) (hi : N[i]? = some (h : Int)) (hT : (i : Int) ∉ T) : M[i]? = some 0 := by
  rw [hm.2 i _ hi, if_neg]
  rintro (h1 | ⟨_, h1⟩)
  · omega
  · exact hT h1
theorem MetI.step {N M T : List Int} {h i : Nat} (hm : MetI N M h T) (hi : N[i]? = some (h : Int)) : MetI N (M.set i 1) h (T ++ [(i : Int)]) := by
  have hl := hm.1
  have hin := (List.getElem?_eq_some_iff.1 hi).1
  refine ⟨by rw [List.length_set]; exact hl, fun j x hx => ?_⟩
  by_cases e : i = j
  · subst e
    rw [hi] at hx
    obtain rfl := Option.some.inj hx
    rw [List.getElem?_set_self (by omega), if_pos (.inr ⟨rfl, List.mem_append_right _ (List.mem_singleton.2 rfl)⟩)]
  · rw [List.getElem?_set_ne e, hm.2 j x hx]
    have : ((j : Int) ∈ T ++ [(i : Int)]) ↔ (j : Int) ∈ T := by
      rw [List.mem_append, List.mem_singleton]
      exact ⟨fun h => h.elim id (fun h => absurd h (by omega)), .inl⟩
    by_cases c : x < (h : Int) ∨ (x = (h : Int) ∧ (j : Int) ∈ T)
    · rw [if_pos c, if_pos (c.imp id fun d => ⟨d.1, this.2 d.2⟩)]
    · rw [if_neg c, if_neg (fun d => c (d.imp id fun d => ⟨d.1, this.1 d.2⟩))]
theorem MetI.next {N M T : List Int} {h : Nat} (hm : MetI N M h T) (hT : ∀ i : Nat, N[i]? = some (h : Int) → (i : Int) ∈ T) : MetI N M (h + 1) [] := by
  refine ⟨hm.1, fun i x hx => ?_⟩
  rw [hm.2 i x hx]
  have : (x < (h : Int) ∨ (x = (h : Int) ∧ (i : Int) ∈ T)) ↔ (x < ((h + 1 : Nat) : Int) ∨ (x = ((h + 1 : Nat) : Int) ∧ (i : Int) ∈ ([] : List Int))) := by
    constructor
    · rintro (h1 | ⟨h1, _⟩)
      · exact .inl (by omega)
      · exact .inl (by omega)
    · rintro (h1 | ⟨_, h1⟩)
      · by_cases e : x = (h : Int)
        · subst e; exact .inr ⟨rfl, hT i hx⟩
        · exact .inl (by omega)
      · cases h1
  by_cases c : x < (h : Int) ∨ (x = (h : Int) ∧ (i : Int) ∈ T)
  · rw [if_pos c, if_pos (this.1 c)]
  · rw [if_neg c, if_neg (fun d => c (this.2 d))]
theorem MetI.all {N M T : List Int} {h i : Nat} {x : Int} (hm : MetI N M h T) (hx : N[i]? = some x) (hlt : x < (h : Int)) : M[i]? = some 1 := by
  rw [hm.2 i x hx, if_pos (.inl hlt)]
end Go.Proofs.Yteaafjkgopmmdaa

