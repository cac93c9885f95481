import Derived.Test.YthfhmohbfoolnaaFs
import Derived.Lib.SlBytesConst
namespace Go.Proofs.Ythfhmohbfoolnaa
open Go Go.RowKit Go.Sort

/-! How far a file system has come behind so many acts. -/
theorem parts_length (x : Fl) : ∀ L : List Fl, (L.filter fun y => decide (y.n < x.n)).length + (L.filter fun y => decide (x.n < y.n)).length + (L.filter fun y => decide (y.n = x.n)).length = L.length
  | [] => rfl
  | y :: r => by
    have ih := parts_length x r
    simp only [List.filter_cons, List.length_cons]
    rcases Nat.lt_trichotomy y.n x.n with h | h | h
    · have h2 : ¬ x.n < y.n := by omega
      have h3 : ¬ y.n = x.n := by omega
      simp [h, h2, h3]; omega
    · have h2 : ¬ x.n < y.n := by omega
      have h3 : ¬ y.n < x.n := by omega
      simp [h]; omega
    · have h2 : ¬ y.n < x.n := by omega
      have h3 : ¬ y.n = x.n := by omega
      simp [h, h2, h3]; omega
theorem put_len {L : List Fl} (h : SdF L) {x y : Fl} (hy : y ∈ L) (e : y.n = x.n) : (putF L x).length ≤ L.length := by
  refine Nat.le_trans (List.length_filter_le _ _) ?_
  rw [insF_sorted h]
  have := parts_length x L
  have h1 : 0 < (L.filter fun y => decide (y.n = x.n)).length := List.length_pos_of_mem (List.mem_filter.2 ⟨hy, by simp [e]⟩)
  simp only [List.length_append, List.length_cons]; omega
theorem crash_len {m : FSm} (h : m.Ok) (T : List Ft) : (crashF m T).files.length ≤ m.files.length := by
  obtain ⟨hs, ho, _, _⟩ := h
  have key : ∀ k, k ≤ (numsF true m.files).length → (crashTo m.files T (numsF true m.files) k).length ≤ m.files.length := by
    intro k
    induction k with
    | zero => intro _; exact Nat.le_refl _
    | succ k ih =>
      intro hk
      have ih := ih (by omega)
      have hkl : k < (numsF true m.files).length := by omega
      obtain ⟨h1, h2, h3, _⟩ := crashTo_all T hs ho (numsF true m.files) (nums_sorted hs) k (by omega)
      have hd : (numsF true m.files).getD k 0 = (numsF true m.files)[k] := by simp [List.getD, hkl]
      have hnot : (numsF true m.files)[k] ∉ (numsF true m.files).take k := fun hm => by
        obtain ⟨j, hj, he⟩ := List.getElem_of_mem hm
        rw [List.length_take] at hj
        rw [List.getElem_take] at he
        have := List.pairwise_iff_getElem.1 (nums_sorted (lo := true) hs) j k (by omega) hkl (by omega)
        omega
      have hl : pickF true (getF m.files (numsF true m.files)[k]) = true := (mem_nums_get hs).1 (List.getElem_mem hkl)
      rw [crashTo, hd, h3 _ hnot]
      rcases getF_or (crashTo m.files T (numsF true m.files) k) (numsF true m.files)[k] with hm | ⟨e, _⟩
      · exact Nat.le_trans (put_len h1 hm (by rw [left_n, getF_n, getF_n])) ih
      · rw [← h3 _ hnot, e, pick_no] at hl; cases hl
  exact key _ (Nat.le_refl _)
def Lim (k : Nat) (m : FSm) : Prop := m.files.length ≤ k ∧ ∀ x ∈ m.files, SzF (4000 * k) x
theorem SzF.more {M M' : Nat} {x : Fl} (h : SzF M x) (hm : M ≤ M') : SzF M' x := ⟨Nat.le_trans h.1 hm, Nat.le_trans h.2 hm⟩
theorem Lim.more {k k' : Nat} {m : FSm} (h : Lim k m) (hk : k ≤ k') : Lim k' m := ⟨Nat.le_trans h.1 hk, fun x hx => (h.2 x hx).more (by omega)⟩
theorem Lim.bnd {k : Nat} {m : FSm} (h : Lim k m) (hk : k ≤ 10000) : Bnd m := ⟨by have := h.1; omega, fun x hx => (h.2 x hx).more (by omega)⟩
theorem Lim.act {k : Nat} {m : FSm} (h : Lim k m) {x : Fl} (hx : SzF (4000 * (k + 1)) x) (s : Bool) : Lim (k + 1) (actF m x s).1 := by
  have h' := h.more (Nat.le_succ k)
  have hp : (putF m.files x).length ≤ k + 1 := Nat.le_trans (putF_le _ _) (by have := h.1; omega)
  unfold actF
  split
  · refine ⟨?_, ?_⟩
    · show (if s = true then m.files else putF m.files x).length ≤ _
      split
      · exact h'.1
      · exact hp
    · show ∀ y ∈ (if s = true then m.files else putF m.files x), _
      split
      · exact h'.2
      · exact put_sz h'.2 hx
  · exact ⟨hp, put_sz h'.2 hx⟩
theorem Lim.get {k : Nat} {m : FSm} (h : Lim k m) (n : Nat) : SzF (4000 * k) (getF m.files n) := get_sz h.2 n
theorem Lim.acted {k : Nat} {m : FSm} (h : Lim k m) {s : Bool} {r : FSm × Int} (ha : r = (m, 7) ∨ r.1 = m ∨ ∃ x, SzF (4000 * (k + 1)) x ∧ r = actF m x s) : Lim (k + 1) r.1 := by
  rcases ha with rfl | e | ⟨x, hx, rfl⟩
  · exact h.more (Nat.le_succ k)
  · rw [e]; exact h.more (Nat.le_succ k)
  · exact h.act hx s
theorem lim_create {k : Nat} {m : FSm} (h : Lim k m) (n : Nat) : Lim (k + 1) (createF m n).1 := by
  unfold createF
  split
  · exact h.more (Nat.le_succ k)
  · split
    · exact h.more (Nat.le_succ k)
    · split
      · exact h.more (Nat.le_succ k)
      · exact h.act ⟨Nat.zero_le _, Nat.zero_le _⟩ _
theorem lim_append {k : Nat} {m : FSm} (h : Lim k m) (n : Nat) (b : ByteArray) (hb : b.size ≤ 4000) : Lim (k + 1) (appendF m n b).1 := by
  unfold appendF
  split
  · exact h.more (Nat.le_succ k)
  · split
    · exact h.more (Nat.le_succ k)
    · obtain ⟨g1, g2⟩ := h.get n
      refine h.act (x := appF (getF m.files n) b) ⟨?_, Nat.le_trans g2 (by omega)⟩ _
      show ((getF m.files n).now ++ b).size ≤ _
      rw [ByteArray.size_append]; omega
theorem lim_trunc {k : Nat} {m : FSm} (h : Lim k m) (n : Nat) (s : Int) : Lim (k + 1) (truncF m n s).1 := by
  unfold truncF
  split
  · exact h.more (Nat.le_succ k)
  · split
    · exact h.more (Nat.le_succ k)
    · split
      · exact h.more (Nat.le_succ k)
      · obtain ⟨g1, g2⟩ := h.get n
        refine h.act (x := cutF (getF m.files n) s.toNat) ⟨?_, Nat.le_trans g2 (by omega)⟩ _
        show ((getF m.files n).now.extract 0 s.toNat).size ≤ _
        rw [ByteArray.size_extract]; omega
theorem lim_sync {k : Nat} {m : FSm} (h : Lim k m) (n : Nat) : Lim (k + 1) (syncF m n).1 := by
  unfold syncF
  split
  · exact h.more (Nat.le_succ k)
  · split
    · exact h.more (Nat.le_succ k)
    · obtain ⟨g1, g2⟩ := h.get n
      refine h.act (x := syncedF (getF m.files n)) ⟨Nat.le_trans g1 (by omega), ?_⟩ _
      show (if _ then _ else _ : ByteArray).size ≤ _
      split
      · omega
      · exact Nat.zero_le _
theorem lim_remove {k : Nat} {m : FSm} (h : Lim k m) (n : Nat) : Lim (k + 1) (removeF m n).1 := by
  unfold removeF
  split
  · exact h.more (Nat.le_succ k)
  · split
    · exact h.more (Nat.le_succ k)
    · obtain ⟨g1, g2⟩ := h.get n
      exact h.act (x := goneF (getF m.files n)) ⟨Nat.zero_le _, Nat.le_trans g2 (by omega)⟩ _
theorem lim_crash {k : Nat} {m : FSm} (h : Lim k m) (ok : m.Ok) (T : List Ft) : Lim k (crashF m T) := ⟨Nat.le_trans (crash_len ok T) h.1, crashTo_sz T _ h.2 _⟩
theorem lim_new : Lim 0 newF := ⟨Nat.le_refl _, fun x (hx : x ∈ []) => (by cases hx)⟩
theorem do_lim {k : Nat} {m : FSm} (h : Lim k m) (ok : m.Ok) (a : Ac) (hb : a.body.length ≤ 4000) (h1 : -9223372036854775808 ≤ a.size) (h2 : a.size ≤ 9223372036854775807) : Lim (k + 1) (doF m a).1 ∧ (doF m a).1.Ok := by
  unfold doF
  split
  · exact ⟨lim_create h _, create_ok ok _⟩
  · split
    · exact ⟨lim_append h _ _ (by rw [bs_size]; exact hb), append_ok ok _ _⟩
    · split
      · exact ⟨lim_trunc h _ _, trunc_ok ok _ _⟩
      · split
        · exact ⟨lim_sync h _, sync_ok ok _⟩
        · split
          · exact ⟨lim_remove h _, remove_ok ok _⟩
          · split
            · exact ⟨(h.more (Nat.le_succ k)), ok.1, ok.2.1, by show (-1 : Int) ≤ max a.size (-1); omega, by show max a.size (-1) ≤ _; omega⟩
            · split
              · exact ⟨(lim_crash h ok _).more (Nat.le_succ k), (crash_all ok _).1⟩
              · exact ⟨h.more (Nat.le_succ k), ok⟩
end Go.Proofs.Ythfhmohbfoolnaa
