import Derived.Test.YtkjngmlebflffaaAa
namespace Go.Proofs.Ytkjngmlebflffaa
set_option linter.unusedVariables false

/-! Levels, sizes, and parts of a row (the landed forest, stage 11): plain facts. -/
/-- A place with what is below it. -/
def blk (P : List Int) (x : Int) (d : Nat) (k : Nat) : List It := (⟨k, d, x⟩ : It) :: sub P (k : Int) (d + 1)
theorem sub_blk {P : List Int} (hr : rightL P = true) {x : Int} {d : Nat} (h : AtD P x d) : sub P x d = (kidsL P x).flatMap (blk P x d) := sub_eq hr h
theorem sub_le {P : List Int} (hr : rightL P = true) {x : Int} {d : Nat} (h : AtD P x d) : (sub P x d).length ≤ P.length := by
  have h1 := sub_apart hr x d h
  have h2 : ((sub P x d).map (·.place)).Pairwise (· ≠ ·) := List.pairwise_map.2 (h1.imp fun h => h.1)
  have h3 := nodup_le (b := List.range P.length) h2 fun y hy => by
    obtain ⟨z, hz, rfl⟩ := List.mem_map.1 hy
    exact List.mem_range.2 (sub_mem hr _ _ h z hz).lv.1
  rwa [List.length_map, List.length_range] at h3
/-- How many places a place's part has. -/
def Sz (P : List Int) (k : Nat) (s : Nat) : Prop := ∃ d, Lv P k d ∧ s = (sub P (k : Int) (d + 1)).length + 1
theorem Sz.blk {P : List Int} {x : Int} {d k s : Nat} (h : Sz P k s) (hk : Lv P k d) : (blk P x d k).length = s := by
  obtain ⟨e, he, rfl⟩ := h
  obtain rfl := hk.one he
  rfl
theorem Sz.le {P : List Int} (hr : rightL P = true) {k s : Nat} (h : Sz P k s) : s ≤ P.length + 1 := by
  obtain ⟨d, hd, rfl⟩ := h
  have := sub_le hr (x := (k : Int)) (d := d + 1) (.inr ⟨k, d, rfl, rfl, hd⟩)
  omega
/-- The levels that are laid: all kids of the first ones. -/
structure LevI (P : List Int) (a : Nat) (O : List Nat) : Prop where
  le : a ≤ O.length
  nd : O.Pairwise (· ≠ ·)
  eq : O = kidsL P (-1) ++ (O.take a).flatMap fun (k : Nat) => kidsL P (k : Int)
  bh : ∀ j (h : j < O.length), P.getD O[j] (-1) = -1 ∨ ∃ i, ∃ hi : i < j, ((O[i] : Nat) : Int) = P.getD O[j] (-1)
theorem kids_nd (P : List Int) (x : Int) : (kidsL P x).Pairwise (· ≠ ·) := (kids_rise P x).imp fun h => Nat.ne_of_lt h
theorem LevI.start (P : List Int) : LevI P 0 (kidsL P (-1)) := by
  refine ⟨Nat.zero_le _, kids_nd P _, by simp, fun j h => .inl ?_⟩
  exact (mem_kids.1 (List.getElem_mem h)).2
theorem LevI.lt {P : List Int} {a : Nat} {O : List Nat} (h : LevI P a O) : ∀ z ∈ O, z < P.length := by
  intro z hz
  rw [h.eq] at hz
  rcases List.mem_append.1 hz with hz | hz
  · exact (mem_kids.1 hz).1
  · obtain ⟨k, _, hz⟩ := List.mem_flatMap.1 hz
    exact (mem_kids.1 hz).1
theorem LevI.len {P : List Int} {a : Nat} {O : List Nat} (h : LevI P a O) : O.length ≤ P.length := by
  have := nodup_le (b := List.range P.length) h.nd fun z hz => List.mem_range.2 (h.lt z hz)
  rwa [List.length_range] at this
theorem nd_at {O : List Nat} (h : O.Pairwise (· ≠ ·)) {i j : Nat} (hi : i < O.length) (hj : j < O.length) (e : O[i] = O[j]) : i = j := by
  rcases Nat.lt_trichotomy i j with c | c | c
  · exact absurd e (List.pairwise_iff_getElem.1 h i j hi hj c)
  · exact c
  · exact absurd e.symm (List.pairwise_iff_getElem.1 h j i hj hi c)
theorem LevI.next {P : List Int} {a : Nat} {O : List Nat} (h : LevI P a O) (hl : a < O.length) : LevI P (a + 1) (O ++ kidsL P (O[a] : Int)) := by
  refine ⟨by rw [List.length_append]; omega, ?_, ?_, ?_⟩
  · refine List.pairwise_append.2 ⟨h.nd, kids_nd P _, fun z hz y hy e => ?_⟩
    subst e
    have hy := (mem_kids.1 hy).2
    rw [h.eq] at hz
    rcases List.mem_append.1 hz with hz | hz
    · rw [(mem_kids.1 hz).2] at hy; omega
    · obtain ⟨k, hk, hz⟩ := List.mem_flatMap.1 hz
      rw [(mem_kids.1 hz).2] at hy
      obtain ⟨i, hi, e⟩ := List.mem_iff_getElem.1 hk
      rw [List.length_take] at hi
      rw [List.getElem_take] at e
      have := nd_at h.nd (i := i) (j := a) (by omega) hl (by rw [e]; omega)
      omega
  · have e1 : (O ++ kidsL P (O[a] : Int)).take (a + 1) = O.take a ++ [O[a]] := by
      rw [List.take_append_of_le_length (by omega), List.take_succ_eq_append_getElem hl]
    rw [e1, List.flatMap_append, ← List.append_assoc, ← h.eq]; simp
  · intro j hj
    by_cases hjl : j < O.length
    · rcases h.bh j hjl with c | ⟨i, hi, c⟩
      · left; rw [List.getElem_append_left hjl]; exact c
      · right; refine ⟨i, hi, ?_⟩
        rw [List.getElem_append_left hjl, List.getElem_append_left (by omega)]; exact c
    · right
      refine ⟨a, by omega, ?_⟩
      rw [List.getElem_append_left hl, List.getElem_append_right (by omega)]
      exact (mem_kids.1 (List.getElem_mem _)).2.symm
/-- Every place is in the levels. -/
theorem LevI.all {P : List Int} (hr : rightL P = true) {O : List Nat} (h : LevI P O.length O) : ∀ k, k < P.length → k ∈ O := by
  have key : ∀ d k, Lv P k d → k ∈ O := by
    intro d
    induction d with
    | zero =>
      intro k hk
      rw [h.eq]
      refine List.mem_append.2 (.inl (mem_kids.2 ⟨hk.1, ?_⟩))
      have h2 := hk.2.2
      rw [upL_first] at h2
      have h2 : P.getD k (-1) < 0 := h2
      have hm : P.getD k (-1) ∈ P := by
        rw [List.getD_eq_getElem?_getD, List.getElem?_eq_getElem hk.1]; exact List.getElem_mem hk.1
      have := (right_valid hr _ hm).1
      omega
    | succ d ih =>
      intro k hk
      have h1 := hk.2.1
      have h2 := hk.2.2
      rw [upL_first] at h1 h2
      have h0 : 0 ≤ P.getD k (-1) := upL_back (m := 0) (Nat.zero_le d) h1
      have hm : P.getD k (-1) ∈ P := by
        rw [List.getD_eq_getElem?_getD, List.getElem?_eq_getElem hk.1]; exact List.getElem_mem hk.1
      have hb := (right_valid hr _ hm).2
      obtain ⟨p, hp⟩ : ∃ p : Nat, P.getD k (-1) = (p : Int) := ⟨(P.getD k (-1)).toNat, by omega⟩
      rw [hp] at h1 h2 hb
      have hpO := ih p ⟨by omega, h1, h2⟩
      rw [h.eq, List.take_length]
      exact List.mem_append.2 (.inr (List.mem_flatMap.2 ⟨p, hpO, mem_kids.2 ⟨hk.1, hp⟩⟩))
  intro k hk
  obtain ⟨d, hd⟩ := lv_some hr hk
  exact key d k hd
/-- A kid stands behind its parent. -/
theorem LevI.behind {P : List Int} (hr : rightL P = true) {O : List Nat} (h : LevI P O.length O) {i : Nat} (hi : i < O.length) {k : Nat} (hk : k ∈ kidsL P (O[i] : Int)) : ∃ j, i < j ∧ ∃ hj : j < O.length, O[j] = k := by
  obtain ⟨h1, h2⟩ := mem_kids.1 hk
  obtain ⟨j, hj, e⟩ := List.mem_iff_getElem.1 (h.all hr k h1)
  subst e
  refine ⟨j, ?_, hj, rfl⟩
  rcases h.bh j hj with c | ⟨q, hq, c⟩
  · rw [c] at h2; omega
  · rw [h2] at c
    have := nd_at h.nd (i := q) (j := i) (by omega) hi (by omega)
    omega
/-- What a place's size is, its kids' first ones being added. -/
theorem sz_take {P : List Int} {x : Int} {d j s : Nat} {K : List Nat} (hj : j < K.length) (hs : Sz P K[j] s) (hk : Lv P K[j] d) : ((K.take (j + 1)).flatMap (blk P x d)).length = ((K.take j).flatMap (blk P x d)).length + s := by
  rw [List.take_succ_eq_append_getElem hj, List.flatMap_append, List.length_append]
  simp only [List.flatMap_cons, List.flatMap_nil, List.append_nil]
  rw [hs.blk hk]
theorem flat_take_le {α : Type} (K : List Nat) (f : Nat → List α) (j : Nat) : ((K.take j).flatMap f).length ≤ (K.flatMap f).length := by
  conv => rhs; rw [← List.take_append_drop j K, List.flatMap_append, List.length_append]
  omega
theorem sz_done {P : List Int} (hr : rightL P = true) {k d : Nat} (h : Lv P k d) : Sz P k (((kidsL P (k : Int)).flatMap (blk P (k : Int) (d + 1))).length + 1) :=
  ⟨d, h, by rw [sub_blk hr (.inr ⟨k, d, rfl, rfl, h⟩)]⟩
end Go.Proofs.Ytkjngmlebflffaa
