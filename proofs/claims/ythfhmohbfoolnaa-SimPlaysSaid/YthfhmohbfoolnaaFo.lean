import Derived.Test.YthfhmohbfoolnaaFm
namespace Go.Proofs.Ythfhmohbfoolnaa
open Go Go.RowKit Go.Sort

/-! What the plain file system keeps; what a crash leaves. -/
def OkX (x : Fl) : Prop := (x.there = false → x.now = ByteArray.empty) ∧ (x.kept = false → x.safe = ByteArray.empty)
theorem get_okx {L : List Fl} (h : ∀ y ∈ L, OkF y) (n : Nat) : OkX (getF L n) := by
  rcases getF_or L n with hm | ⟨e, _⟩
  · exact (h _ hm).2
  · rw [e]; exact ⟨fun _ => rfl, fun _ => rfl⟩
theorem put_okf {L : List Fl} (hs : SdF L) (h : ∀ y ∈ L, OkF y) {x : Fl} (hx : OkX x) : ∀ y ∈ putF L x, OkF y := fun y hy => by
  obtain ⟨h1, h2 | ⟨h2, _⟩⟩ := (mem_putF hs).1 hy
  · subst h2; exact ⟨h1, hx⟩
  · exact h y h2
theorem act_ok {m : FSm} (h : m.Ok) {x : Fl} (hx : OkX x) (s : Bool) : (actF m x s).1.Ok := by
  obtain ⟨h1, h2, h3, h4⟩ := h
  unfold actF
  split
  · refine ⟨?_, ?_, h3, h4⟩
    · show SdF (if s = true then m.files else putF m.files x)
      split
      · exact h1
      · exact putF_SdF h1 x
    · show ∀ y ∈ (if s = true then m.files else putF m.files x), OkF y
      split
      · exact h2
      · exact put_okf h1 h2 hx
  · refine ⟨putF_SdF h1 x, put_okf h1 h2 hx, ?_, ?_⟩
    · show -1 ≤ (if 0 < m.fuse then m.fuse - 1 else m.fuse); split <;> omega
    · show (if 0 < m.fuse then m.fuse - 1 else m.fuse) ≤ _; split <;> omega
theorem new_ok : newF.Ok := ⟨List.Pairwise.nil, ⟨fun y (hy : y ∈ []) => (by cases hy), by decide, by decide⟩⟩
theorem create_ok {m : FSm} (h : m.Ok) (n : Nat) : (createF m n).1.Ok := by
  unfold createF
  split
  · exact h
  · split
    · exact h
    · split
      · exact h
      · exact act_ok h ⟨fun _ => rfl, fun _ => rfl⟩ _
theorem append_ok {m : FSm} (h : m.Ok) (n : Nat) (b : ByteArray) : (appendF m n b).1.Ok := by
  unfold appendF
  split
  · exact h
  · split
    · exact h
    · rename_i ht
      exact act_ok h (x := appF (getF m.files n) b) ⟨fun e => absurd e ht, (get_okx h.2.1 n).2⟩ _
theorem trunc_ok {m : FSm} (h : m.Ok) (n : Nat) (s : Int) : (truncF m n s).1.Ok := by
  unfold truncF
  split
  · exact h
  · split
    · exact h
    · split
      · exact h
      · rename_i ht _
        exact act_ok h (x := cutF (getF m.files n) s.toNat) ⟨fun e => absurd e ht, (get_okx h.2.1 n).2⟩ _
theorem sync_ok {m : FSm} (h : m.Ok) (n : Nat) : (syncF m n).1.Ok := by
  unfold syncF
  split
  · exact h
  · split
    · exact h
    · refine act_ok h (x := syncedF (getF m.files n)) ⟨(get_okx h.2.1 n).1, fun e => ?_⟩ _
      have e' : (getF m.files n).there = false := e
      show (if (getF m.files n).there = true then (getF m.files n).now else ByteArray.empty) = _
      rw [if_neg (by rw [e']; decide)]
theorem remove_ok {m : FSm} (h : m.Ok) (n : Nat) : (removeF m n).1.Ok := by
  unfold removeF
  split
  · exact h
  · split
    · exact h
    · exact act_ok h (x := goneF (getF m.files n)) ⟨fun _ => rfl, (get_okx h.2.1 n).2⟩ _
theorem left_okx (x : Fl) (t : Ft) : OkX (leftF x t) := by
  have hi : ∀ r : Bool × ByteArray, OkX ⟨x.n, r.1, r.1, if r.1 = true then r.2 else ByteArray.empty, if r.1 = true then r.2 else ByteArray.empty⟩ := fun r => by
    refine ⟨fun e => ?_, fun e => ?_⟩
    all_goals
      have e' : r.1 = false := e
      show (if r.1 = true then r.2 else ByteArray.empty) = _
      rw [if_neg (by rw [e']; decide)]
  exact hi _
theorem left_n (x : Fl) (t : Ft) : (leftF x t).n = x.n := rfl
theorem left_safe (x : Fl) (t : Ft) : looseF (leftF x t) = false := by
  have h1 : (leftF x t).there = (leftF x t).kept := rfl
  have h2 : (leftF x t).now = (leftF x t).safe := rfl
  unfold looseF
  rw [h1, h2]; simp
theorem loose_no (n : Nat) : looseF (noF n) = false := rfl
theorem mem_nums {lo : Bool} {L : List Fl} {n : Nat} : n ∈ numsF lo L ↔ ∃ y ∈ L, y.n = n ∧ pickF lo y = true := by
  unfold numsF
  simp only [List.mem_map, List.mem_filter]
  exact ⟨fun ⟨y, ⟨h1, h2⟩, h3⟩ => ⟨y, h1, h3, h2⟩, fun ⟨y, h1, h3, h2⟩ => ⟨y, ⟨h1, h2⟩, h3⟩⟩
theorem pick_no (lo : Bool) (n : Nat) : pickF lo (noF n) = false := by cases lo <;> rfl
theorem mem_nums_get {lo : Bool} {L : List Fl} (h : SdF L) {n : Nat} : n ∈ numsF lo L ↔ pickF lo (getF L n) = true := by
  rw [mem_nums]
  constructor
  · rintro ⟨y, hy, rfl, hp⟩; rw [getF_mem h hy]; exact hp
  · intro hp
    rcases getF_or L n with hm | ⟨e, _⟩
    · exact ⟨_, hm, getF_n L n, hp⟩
    · rw [e, pick_no] at hp; cases hp
theorem nums_sorted {lo : Bool} {L : List Fl} (h : SdF L) : (numsF lo L).Pairwise (· < ·) := by
  unfold numsF
  rw [List.pairwise_map]
  exact List.Pairwise.filter _ h
/-- A crash, number by number. -/
theorem crashTo_all {L : List Fl} (T : List Ft) (hs : SdF L) (ho : ∀ y ∈ L, OkF y) (N : List Nat) (hN : N.Pairwise (· < ·)) : ∀ k, k ≤ N.length →
    SdF (crashTo L T N k) ∧ (∀ y ∈ crashTo L T N k, OkF y) ∧ (∀ n, n ∉ N.take k → getF (crashTo L T N k) n = getF L n) ∧
    (∀ i (hi : i < N.length), i < k → getF (crashTo L T N k) N[i] = (if hasF (leftF (getF L N[i]) (T.getD i zeroT)) = true then leftF (getF L N[i]) (T.getD i zeroT) else noF N[i]))
  | 0, _ => ⟨hs, ho, fun _ _ => rfl, fun i _ h => absurd h (by omega)⟩
  | k + 1, hk => by
    obtain ⟨h1, h2, h3, h4⟩ := crashTo_all T hs ho N hN k (by omega)
    have hkl : k < N.length := by omega
    have hd : N.getD k 0 = N[k] := by simp [List.getD, hkl]
    have hnot : N[k] ∉ N.take k := fun hm => by
      obtain ⟨j, hj, he⟩ := List.getElem_of_mem hm
      rw [List.length_take] at hj
      rw [List.getElem_take] at he
      have := List.pairwise_iff_getElem.1 hN j k (by omega) hkl (by omega)
      omega
    have hg : getF (crashTo L T N k) N[k] = getF L N[k] := h3 _ hnot
    have hn : (leftF (getF L N[k]) (T.getD k zeroT)).n = N[k] := by rw [left_n, getF_n]
    have e : crashTo L T N (k + 1) = putF (crashTo L T N k) (leftF (getF L N[k]) (T.getD k zeroT)) := by rw [crashTo, hd, hg]
    rw [e]
    refine ⟨putF_SdF h1 _, put_okf h1 h2 (left_okx _ _), fun n hm => ?_, fun i hi hik => ?_⟩
    · rw [List.take_succ_eq_append_getElem hkl, List.mem_append, not_or] at hm
      rw [getF_put h1 (fun y hy => (h2 y hy).1), if_neg (by rw [hn]; simpa using hm.2)]
      exact h3 n hm.1
    · rw [getF_put h1 (fun y hy => (h2 y hy).1), hn]
      by_cases hik' : i = k
      · subst hik'
        rw [if_pos rfl]
      · have := List.pairwise_iff_getElem.1 hN i k hi hkl (by omega)
        rw [if_neg (by omega)]
        exact h4 i hi (by omega)
theorem crash_all {m : FSm} (h : m.Ok) (T : List Ft) : (crashF m T).Ok ∧ (∀ n, looseF (getF m.files n) = false → getF (crashF m T).files n = getF m.files n) ∧ (∀ n, looseF (getF (crashF m T).files n) = false) ∧ numsF true (crashF m T).files = [] := by
  obtain ⟨hs, ho, _, _⟩ := h
  obtain ⟨h1, h2, h3, h4⟩ := crashTo_all T hs ho (numsF true m.files) (nums_sorted hs) _ (Nat.le_refl _)
  rw [List.take_length] at h3
  have hkeep : ∀ n, looseF (getF m.files n) = false → getF (crashF m T).files n = getF m.files n := fun n hn =>
    h3 n fun hm => by
      have := (mem_nums_get hs).1 hm
      rw [show pickF true (getF m.files n) = looseF (getF m.files n) from rfl, hn] at this; cases this
  have hall : ∀ n, looseF (getF (crashF m T).files n) = false := fun n => by
    by_cases hm : n ∈ numsF true m.files
    · obtain ⟨i, hi, rfl⟩ := List.getElem_of_mem hm
      show looseF (getF (crashTo _ _ _ _) _) = false
      rw [h4 i hi hi]
      split
      · exact left_safe _ _
      · exact loose_no _
    · have hn : looseF (getF m.files n) = false := by
        cases hl : looseF (getF m.files n)
        · rfl
        · exact absurd ((mem_nums_get hs).2 (show pickF true _ = true from hl)) hm
      rw [hkeep n hn]; exact hn
  refine ⟨⟨h1, h2, by show (-1 : Int) ≤ -1; decide, by show (-1 : Int) ≤ 9223372036854775807; decide⟩, hkeep, hall, ?_⟩
  refine List.eq_nil_iff_forall_not_mem.2 fun n hm => ?_
  have := (mem_nums_get (L := (crashF m T).files) h1).1 hm
  rw [show pickF true (getF (crashF m T).files n) = looseF (getF (crashF m T).files n) from rfl, hall n] at this; cases this
/-- What is there behind a crash was there, or was unsafe. -/
theorem crash_there {m : FSm} (h : m.Ok) (T : List Ft) {n : Nat} (hn : n ∈ numsF false (crashF m T).files) : n ∈ numsF false m.files ∨ n ∈ numsF true m.files := by
  obtain ⟨⟨h1, _⟩, h2, _, _⟩ := crash_all h T
  by_cases hl : looseF (getF m.files n) = true
  · exact .inr ((mem_nums_get h.1).2 hl)
  · have hl : looseF (getF m.files n) = false := by simpa using hl
    have := (mem_nums_get h1).1 hn
    rw [h2 n hl] at this
    exact .inl ((mem_nums_get h.1).2 this)
end Go.Proofs.Ythfhmohbfoolnaa
