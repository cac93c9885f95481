import Derived.Test.YthpdaimeaomnkaaOd
import Derived.Test.YthpdaimeaomnkaaSf
import Derived.Test.YthpdaimeaomnkaaSc
namespace Go.Proofs.Ythpdaimeaomnkaa
open Go.Shelf Go.RowKit Go.Sort
set_option linter.unusedVariables false

/-! What counts among spans: plain facts. -/
def recB (t : Int) (s : Sp) : Bool := (s.trace == t) && mayB s
structure Counts (F M : List Sp) : Prop where
  ids : M.Pairwise fun x y => x.id ≠ y.id
  sub : ∀ y ∈ M, y ∈ F
  least : ∀ x ∈ F, ∃ y ∈ M, y.id = x.id ∧ cmpI y x ≤ 0
theorem cmpI_le_trans {x y z : Sp} (h1 : cmpI x y ≤ 0) (h2 : cmpI y z ≤ 0) : cmpI x z ≤ 0 := by
  have := leS_trans x y z (by simpa [leS] using h1) (by simpa [leS] using h2)
  simpa [leS] using this
theorem Counts.nil : Counts [] [] := ⟨.nil, by simp, by simp⟩
theorem Counts.at_id {F M : List Sp} (h : Counts F M) {x y : Sp} (hx : x ∈ M) (hy : y ∈ M) (e : x.id = y.id) : x = y := by
  obtain ⟨i, hi, rfl⟩ := List.mem_iff_getElem.1 hx
  obtain ⟨j, hj, rfl⟩ := List.mem_iff_getElem.1 hy
  rcases Nat.lt_trichotomy i j with hij | rfl | hij
  · exact absurd e (List.pairwise_iff_getElem.1 h.ids i j hi hj hij)
  · rfl
  · exact absurd e.symm (List.pairwise_iff_getElem.1 h.ids j i hj hi hij)
theorem Counts.mem {F G M N : List Sp} (h : Counts F M) (k : Counts G N) (hFG : ∀ x, x ∈ F ↔ x ∈ G) {y : Sp} (hy : y ∈ M) : y ∈ N := by
  obtain ⟨z, hz, e1, l1⟩ := k.least y ((hFG y).1 (h.sub y hy))
  obtain ⟨u, hu, e2, l2⟩ := h.least z ((hFG z).2 (k.sub z hz))
  have : u = y := h.at_id hu hy (e2.trans e1)
  subst this
  have hz' := cmpI_neg z u
  have : z = u := cmpI_zero (by omega)
  rwa [← this]
theorem Counts.nodup {F M : List Sp} (h : Counts F M) : M.Nodup := h.ids.imp fun {a b} hne e => hne (by rw [e])
theorem sortL_same {L M : List Sp} (h : L.Perm M) : sortL L = sortL M :=
  (sortL_unique ((sortL_perm L).trans h) (List.pairwise_mergeSort leS_trans leS_total L))
theorem Counts.unique {F G M N : List Sp} (h : Counts F M) (k : Counts G N) (hFG : ∀ x, x ∈ F ↔ x ∈ G) : sortL M = sortL N :=
  sortL_same ((List.perm_ext_iff_of_nodup h.nodup k.nodup).2 fun y => ⟨h.mem k hFG, k.mem h fun x => (hFG x).symm⟩)
theorem Counts.stay {F M : List Sp} (h : Counts F M) {s y : Sp} (hy : y ∈ M) (e : y.id = s.id) (hc : ¬ cmpI s y < 0) : Counts (F ++ [s]) M :=
  ⟨h.ids, fun z hz => List.mem_append_left _ (h.sub z hz), fun x hx => by
    rcases List.mem_append.1 hx with hx | hx
    · exact h.least x hx
    · obtain rfl : x = s := by simpa using hx
      exact ⟨y, hy, e, by have := cmpI_neg x y; omega⟩⟩
theorem Counts.add {F M : List Sp} (h : Counts F M) {s : Sp} (hn : ∀ y ∈ M, y.id ≠ s.id) : Counts (F ++ [s]) (M ++ [s]) :=
  ⟨List.pairwise_append.2 ⟨h.ids, List.pairwise_singleton _ _, fun x hx y hy => by rw [List.mem_singleton.1 hy]; exact hn x hx⟩,
   fun z hz => by
    rcases List.mem_append.1 hz with hz | hz
    · exact List.mem_append_left _ (h.sub z hz)
    · exact List.mem_append_right _ hz,
   fun x hx => by
    rcases List.mem_append.1 hx with hx | hx
    · obtain ⟨y, hy, r⟩ := h.least x hx
      exact ⟨y, List.mem_append_left _ hy, r⟩
    · obtain rfl : x = s := by simpa using hx
      exact ⟨x, List.mem_append_right _ (by simp), rfl, by rw [cmpI_refl]; exact Int.le_refl 0⟩⟩
theorem Counts.put {F M : List Sp} (h : Counts F M) {s : Sp} {i : Nat} (hi : i < M.length) (e : (M[i]).id = s.id) (hc : cmpI s M[i] < 0) : Counts (F ++ [s]) (M.set i s) := by
  refine ⟨?_, fun z hz => ?_, fun x hx => ?_⟩
  · have hp := List.pairwise_iff_getElem.1 h.ids
    refine List.pairwise_iff_getElem.2 fun j k hj hk hjk => ?_
    rw [List.length_set] at hj hk
    rw [List.getElem_set, List.getElem_set]
    split
    · rename_i hij
      subst hij
      rw [if_neg (by omega), ← e]
      exact hp i k hj hk hjk
    · split
      · rename_i hik
        subst hik
        rw [← e]
        exact hp j i hj hk hjk
      · exact hp j k hj hk hjk
  · rcases List.mem_or_eq_of_mem_set hz with hz | rfl
    · exact List.mem_append_left _ (h.sub z hz)
    · exact List.mem_append_right _ (by simp)
  · have hs : s ∈ M.set i s := List.mem_iff_getElem.2 ⟨i, by simpa using hi, by simp⟩
    rcases List.mem_append.1 hx with hx | hx
    · obtain ⟨y, hy, ey, ly⟩ := h.least x hx
      by_cases hyi : y = M[i]
      · subst hyi
        exact ⟨s, hs, e.symm.trans ey, cmpI_le_trans (by omega) ly⟩
      · obtain ⟨j, hj, rfl⟩ := List.mem_iff_getElem.1 hy
        refine ⟨M[j], List.mem_iff_getElem.2 ⟨j, by simpa using hj, ?_⟩, ey, ly⟩
        rw [List.getElem_set, if_neg (fun e => hyi (by subst e; rfl))]
    · obtain rfl : x = s := by simpa using hx
      exact ⟨x, hs, rfl, by rw [cmpI_refl]; exact Int.le_refl 0⟩
/-- The document's: of spans in order each ID's first one. -/
def ddStep (out : List Sp) (x : Sp) : List Sp := if out.any (fun y => y.id == x.id) then out else out ++ [x]
def ddL (l : List Sp) : List Sp := l.foldl ddStep []
theorem ddL_succ {l : List Sp} {n : Nat} (h : n < l.length) : ddL (l.take (n + 1)) = ddStep (ddL (l.take n)) l[n] := by
  unfold ddL; rw [List.take_succ_eq_append_getElem h, List.foldl_append]; rfl
theorem ddL_counts {l : List Sp} (hs : l.Pairwise fun x y => leS x y = true) : ∀ n, n ≤ l.length → Counts (l.take n) (ddL (l.take n)) ∧ (ddL (l.take n)).Sublist (l.take n)
  | 0, _ => by simp [ddL, Counts.nil]
  | n + 1, h => by
    have hn : n < l.length := h
    obtain ⟨h1, h2⟩ := ddL_counts hs n (by omega)
    rw [ddL_succ hn, List.take_succ_eq_append_getElem hn]
    unfold ddStep
    split
    · rename_i ha
      obtain ⟨y, hy, e⟩ := List.any_eq_true.1 ha
      refine ⟨h1.stay hy (by simpa using e) ?_, h2.trans (List.sublist_append_left _ _)⟩
      have hm := h1.sub y hy
      obtain ⟨i, hi, rfl⟩ := List.mem_iff_getElem.1 hm
      rw [List.length_take] at hi
      have := List.pairwise_iff_getElem.1 hs i n (by omega) hn (by omega)
      rw [List.getElem_take]
      have h3 : cmpI l[i] l[n] ≤ 0 := by simpa [leS] using this
      have := cmpI_neg l[i] l[n]
      omega
    · rename_i ha
      refine ⟨h1.add fun y hy e => ha (List.any_eq_true.2 ⟨y, hy, by simpa using e⟩), h2.append (List.Sublist.refl _)⟩
/-- The records of the trace t that count. -/
def ofL (L : List Sp) (t : Int) : List Sp := ddL (sortL (L.filter (recB t)))
theorem ofL_sub (L : List Sp) (t : Int) : (ofL L t).Sublist (sortL (L.filter (recB t))) := by
  have h := (ddL_counts (l := sortL (L.filter (recB t))) (List.pairwise_mergeSort leS_trans leS_total _) _ (Nat.le_refl _)).2
  rw [List.take_length] at h
  exact h
theorem ofL_counts (L : List Sp) (t : Int) : Counts (L.filter (recB t)) (ofL L t) := by
  have h := (ddL_counts (l := sortL (L.filter (recB t))) (List.pairwise_mergeSort leS_trans leS_total _) _ (Nat.le_refl _)).1
  rw [List.take_length] at h
  exact ⟨h.ids, fun y hy => (sortL_perm _).mem_iff.1 (h.sub y hy), fun x hx => h.least x ((sortL_perm _).mem_iff.2 hx)⟩
theorem ofL_sorted (L : List Sp) (t : Int) : (ofL L t).Pairwise fun x y => leS x y = true := (List.pairwise_mergeSort leS_trans leS_total (L.filter (recB t))).sublist (ofL_sub L t)
theorem ofL_sort (L : List Sp) (t : Int) : sortL (ofL L t) = ofL L t := (sortL_unique (List.Perm.refl _) (ofL_sorted L t)).symm
theorem ofL_is {L M : List Sp} {t : Int} (h : Counts (L.filter (recB t)) M) : sortL M = ofL L t := by
  rw [← ofL_sort L t]; exact h.unique (ofL_counts L t) fun _ => Iff.rfl
/-- It hangs on which spans there are alone. -/
theorem ofL_set {L M : List Sp} (t : Int) (h : ∀ x, x ∈ L ↔ x ∈ M) : ofL L t = ofL M t := by
  rw [← ofL_sort L t]
  exact ((ofL_counts L t).unique (ofL_counts M t) fun x => by rw [List.mem_filter, List.mem_filter, h]).trans (ofL_sort M t)
theorem ofL_mem {L : List Sp} {t : Int} {x : Sp} (h : x ∈ ofL L t) : x ∈ L ∧ recB t x = true := List.mem_filter.1 ((ofL_counts L t).sub x h)
theorem ofL_again (L : List Sp) (t : Int) : ofL (ofL L t) t = ofL L t := by
  have e : (ofL L t).filter (recB t) = ofL L t := List.filter_eq_self.2 fun x hx => (ofL_mem hx).2
  have h := ofL_is (L := ofL L t) (t := t) (M := ofL L t) (by rw [e]; exact ⟨(ofL_counts L t).ids, fun _ h => h, fun x hx => ⟨x, hx, rfl, by rw [cmpI_refl]; exact Int.le_refl 0⟩⟩)
  rw [← h]; exact ofL_sort L t
theorem ofL_length (L : List Sp) (t : Int) : (ofL L t).length ≤ L.length := by
  have := (ofL_sub L t).length_le
  rw [sortL_length] at this
  exact Nat.le_trans this (List.length_filter_le _ _)
/-- One behind the other it rises. -/
theorem ofL_rises {L : List Sp} {t : Int} {i : Nat} (h : i + 1 < (ofL L t).length) : cmpI ((ofL L t)[i]) ((ofL L t)[i + 1]) < 0 := by
  have h1 := List.pairwise_iff_getElem.1 (ofL_sorted L t) i (i + 1) (by omega) h (by omega)
  have h2 := List.pairwise_iff_getElem.1 (ofL_counts L t).ids i (i + 1) (by omega) h (by omega)
  have h3 : cmpI ((ofL L t)[i]) ((ofL L t)[i + 1]) ≤ 0 := by simpa [leS] using h1
  have h4 : cmpI ((ofL L t)[i]) ((ofL L t)[i + 1]) ≠ 0 := fun e => h2 (by rw [cmpI_zero e])
  omega
/-! The places of what was met. -/
def PlacesOf (M : List Sp) (f : Int → Option Value) : Prop :=
  (∀ i (h : i < M.length), f (M[i]).id = some (.int .i64 i)) ∧ ∀ x v, f x = some v → ∃ i, ∃ h : i < M.length, (M[i]).id = x ∧ v = .int .i64 i
theorem PlacesOf.nil : PlacesOf [] (fun _ => none) := ⟨fun i h => absurd h (by simp), fun x v h => by cases h⟩
theorem PlacesOf.add {M : List Sp} {f : Int → Option Value} (h : PlacesOf M f) (s : Sp) (hs : f s.id = none) : PlacesOf (M ++ [s]) (fun z => if z = s.id then some (.int .i64 (M.length : Nat)) else f z) := by
  refine ⟨fun i hi => ?_, fun x v hx => ?_⟩
  · rw [List.length_append, List.length_singleton] at hi
    by_cases e : i < M.length
    · rw [List.getElem_append_left e]
      have := h.1 i e
      have hne : (M[i]).id ≠ s.id := fun e2 => by rw [e2, hs] at this; cases this
      simp only [hne, if_false]
      exact this
    · obtain rfl : i = M.length := by omega
      simp
  · by_cases e : x = s.id
    · subst e
      simp at hx
      exact ⟨M.length, by simp, by simp, hx.symm⟩
    · simp [e] at hx
      obtain ⟨i, hi, e1, e2⟩ := h.2 x v hx
      exact ⟨i, by simp; omega, by rw [List.getElem_append_left hi]; exact e1, e2⟩
theorem PlacesOf.set {M : List Sp} {f : Int → Option Value} (h : PlacesOf M f) {i : Nat} (hi : i < M.length) (s : Sp) (hs : (M[i]).id = s.id) : PlacesOf (M.set i s) f := by
  have hid : ∀ j (h1 : j < (M.set i s).length) (h2 : j < M.length), ((M.set i s)[j]).id = (M[j]).id := fun j h1 h2 => by
    rw [List.getElem_set]; split
    · rename_i e; subst e; exact hs.symm
    · rfl
  refine ⟨fun j hj => ?_, fun x v hx => ?_⟩
  · have hj' : j < M.length := by simpa using hj
    rw [hid j hj hj']; exact h.1 j hj'
  · obtain ⟨j, hj, e1, e2⟩ := h.2 x v hx
    exact ⟨j, by simpa using hj, by rw [hid j (by simpa using hj) hj]; exact e1, e2⟩
theorem PlacesOf.none {M : List Sp} {f : Int → Option Value} (h : PlacesOf M f) {x : Int} (hx : f x = .none) : ∀ y ∈ M, y.id ≠ x := fun y hy e => by
  obtain ⟨i, hi, rfl⟩ := List.mem_iff_getElem.1 hy
  have := h.1 i hi
  rw [e, hx] at this; cases this
end Go.Proofs.Ythpdaimeaomnkaa
