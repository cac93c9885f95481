import Derived.Test.YthbgnkkepfbmjaaGreatJi
import Derived.Test.YthbgnkkepfbmjaaGreatJh
import Derived.Test.YthbgnkkepfbmjaaGreatJn
import Derived.Test.YthbgnkkepfbmjaaGreatJa
namespace Go.Proofs.YthbgnkkepfbmjaaGreat
open Go Go.RowKit Go.Sort

/-! What is read of a segment that is cut off behind its last frame that counts: no program. -/
theorem gotF_shift (x l : List UInt8) (q : Nat) : gotF (x ++ l) ((x.length + q : Nat) : Int) = gotF l (q : Int) := by
  by_cases h : q < l.length
  · rw [gotF_at h, gotF_at (by rw [List.length_append]; omega), List.drop_append, List.drop_of_length_le (by omega), List.nil_append, Nat.add_sub_cancel_left]
  · rw [gotF_none (.inr (by rw [List.length_append]; omega)), gotF_none (.inr (by omega))]
theorem allF_shift (x l : List UInt8) : ∀ (m q : Nat), allF (x ++ l) m ((x.length + q : Nat) : Int) = allF l m (q : Int)
  | 0, _ => rfl
  | m + 1, q => by
    rw [allF, allF, gotF_shift]
    cases gotF l (q : Int) with
    | error e => rfl
    | ok b =>
      dsimp only
      have h := allF_shift x l m (q + (6 + b.length))
      rw [show ((x.length + q : Nat) : Int) + ((6 + b.length : Nat) : Int) = ((x.length + (q + (6 + b.length)) : Nat) : Int) by omega, h]
      rfl
theorem allF_less (l : List UInt8) : ∀ (k m : Nat) (p : Int), k ≤ m → allF l k p = (allF l m p).take k
  | 0, _, _, _ => by simp [allF]
  | k + 1, 0, _, h => absurd h (by omega)
  | k + 1, m + 1, p, h => by
    rw [allF, allF]
    cases gotF l p with
    | error e => rfl
    | ok b => dsimp only; rw [List.take_succ_cons, allF_less l k m _ (by omega)]
theorem seg_cut {H : List UInt8} (hH : H.length = 14) {L : List (List UInt8)} (hL : ∀ b ∈ L, mayF b.length = true) (hB : ∀ b ∈ L, isB b = true) {c W k : Nat} (h14 : 14 ≤ c) (hc : c ≤ 14 + (catF L).length) (h : Whole L (c - 14) L.length W) :
    segB ((H ++ catF L).take c) k = L.take (min W k) := by
  have e : (H ++ catF L).take c = H ++ (catF L).take (c - 14) := by
    rw [List.take_append, List.take_of_length_le (by omega), hH]
  have e2 : allF ((H ++ catF L).take c) k 14 = L.take (min W k) := by
    have s := allF_shift H ((catF L).take (c - 14)) k 0
    rw [hH] at s
    have s2 := allF_less ((catF L).take (c - 14)) k (k + L.length) 0 (by omega)
    rw [allF_cut (m := k + L.length) hL (by omega) (by omega) h, List.take_take, Nat.min_comm] at s2
    rw [e, ← s2]; exact s
  unfold segB bodiesF
  rw [e2]
  exact while_all fun x hx => hB x (List.mem_of_mem_take hx)
/-- The bytes of bodies that are found are their frames, one behind the other. -/
theorem cat_of (l : List UInt8) : ∀ (L R : List (List UInt8)) (m p : Nat), allF l m (p : Int) = L ++ R → (l.drop p).take (catF L).length = catF L ∧ endF (p : Int) L = ((p + (catF L).length : Nat) : Int) ∧ (L ≠ [] → p + (catF L).length ≤ l.length) ∧ ∀ b ∈ L, mayF b.length = true
  | [], R, m, p, _ => ⟨by simp [catF], by simp [endF, catF], fun h => absurd rfl h, fun _ h => absurd h (by simp)⟩
  | b :: L, R, 0, p, h => by rw [allF] at h; exact absurd h (by simp)
  | b :: L, R, m + 1, p, h => by
    rw [allF] at h
    cases hg : gotF l (p : Int) with
    | error e => rw [hg] at h; exact absurd h (by simp)
    | ok c =>
      rw [hg] at h
      dsimp only at h
      rw [List.cons_append] at h
      injection h with h1 h2
      subst h1
      have hf := gotF_fits hg
      have hlt : p < l.length := by omega
      rw [gotF_at hlt] at hg
      obtain ⟨g1, g2, g3⟩ := firstF_back hg
      rw [List.length_drop] at g3
      rw [show (p : Int) + ((6 + c.length : Nat) : Int) = ((p + (6 + c.length) : Nat) : Int) by omega] at h2
      obtain ⟨i1, i2, i3, i4⟩ := cat_of l L R m (p + (6 + c.length)) h2
      have hc : catF (c :: L) = frL c ++ catF L := by simp [catF]
      refine ⟨?_, ?_, fun _ => ?_, fun x hx => ?_⟩
      · rw [hc, List.length_append, frL_length, List.take_add, g1, List.drop_drop, i1]
      · rw [endF, show (p : Int) + ((6 + c.length : Nat) : Int) = ((p + (6 + c.length) : Nat) : Int) by omega, i2, hc, List.length_append, frL_length]; omega
      · rw [hc, List.length_append, frL_length]
        by_cases h0 : L = []
        · subst h0; simp [catF]; omega
        · have := i3 h0; omega
      · rcases List.mem_cons.1 hx with hx | hx
        · subst hx; exact g2
        · exact i4 x hx
theorem seg_pre (l : List UInt8) (k : Nat) : ∃ R, allF l k 14 = segB l k ++ R := ⟨(allF l k 14).dropWhile isB, by unfold segB bodiesF; rw [List.takeWhile_append_dropWhile]⟩
theorem seg_isB {l : List UInt8} {k : Nat} : ∀ b ∈ segB l k, isB b = true := fun b hb => by
  unfold segB bodiesF at hb
  exact List.all_eq_true.1 (List.all_takeWhile ..) b hb
/-- Where the frames that count end. -/
def goodOf (l : List UInt8) (k : Nat) : Nat := 14 + (catF (segB l k)).length
theorem good_end (l : List UInt8) (k : Nat) : endF 14 (segB l k) = (goodOf l k : Int) := by
  obtain ⟨R, h⟩ := seg_pre l k
  exact (cat_of l (segB l k) R k 14 h).2.1
theorem good_le {l : List UInt8} {k : Nat} (h14 : 14 ≤ l.length) : goodOf l k ≤ l.length := by
  obtain ⟨R, h⟩ := seg_pre l k
  have := (cat_of l (segB l k) R k 14 h).2.2.1
  unfold goodOf
  by_cases h0 : segB l k = []
  · rw [h0]; simp [catF]; exact h14
  · exact this h0
theorem good_take {l : List UInt8} {k : Nat} (_h14 : 14 ≤ l.length) : l.take (goodOf l k) = l.take 14 ++ catF (segB l k) := by
  obtain ⟨R, h⟩ := seg_pre l k
  unfold goodOf
  rw [List.take_add, (cat_of l (segB l k) R k 14 h).1]
theorem seg_few (l : List UInt8) (k : Nat) : (segB l k).length ≤ k := by
  obtain ⟨R, h⟩ := seg_pre l k
  have : ∀ (m : Nat) (p : Int), (allF l m p).length ≤ m := by
    intro m
    induction m with
    | zero => intro p; simp [allF]
    | succ m ih =>
      intro p
      rw [allF]
      cases gotF l p with
      | error e => simp
      | ok x => simp only [List.length_cons]; have := ih (p + ((6 + x.length : Nat) : Int)); omega
  have h2 := this k 14
  rw [h, List.length_append] at h2; omega
theorem seg_take {l : List UInt8} {k : Nat} (h14 : 14 ≤ l.length) : segB (l.take (goodOf l k)) k = segB l k := by
  obtain ⟨R, h⟩ := seg_pre l k
  have hc := cat_of l (segB l k) R k 14 h
  have hw : Whole (segB l k) (14 + (catF (segB l k)).length - 14) (segB l k).length (segB l k).length := ⟨Nat.le_refl _, by rw [eL_all]; omega, fun h => absurd h (by omega)⟩
  have := seg_cut (H := l.take 14) (by rw [List.length_take]; omega) hc.2.2.2 seg_isB (c := 14 + (catF (segB l k)).length) (k := k) (by omega) (Nat.le_refl _) hw
  rw [List.take_of_length_le (by rw [List.length_append, List.length_take]; omega), Nat.min_eq_left (seg_few l k), List.take_length] at this
  rw [good_take h14]; exact this
theorem headOf_pre {l : List UInt8} (h14 : 14 ≤ l.length) (R : List UInt8) : headOf (l.take 14 ++ R) = headOf l := by
  have e : ∀ (i k : Nat), i + k ≤ 14 → gN (l.take 14 ++ R) i k = gN l i k := fun i k h => by
    rw [gN_left _ _ _ _ (by rw [List.length_take]; omega)]
    have := gN_left (l.take 14) (l.drop 14) i k (by rw [List.length_take]; omega)
    rw [List.take_append_drop] at this
    exact this.symm
  have t : ∀ k, k ≤ 14 → (l.take 14 ++ R).take k = l.take k := fun k h => by
    rw [List.take_append_of_le_length (by rw [List.length_take]; omega), List.take_take, Nat.min_eq_left h]
  unfold headOf
  rw [e 10 4 (by omega), e 8 2 (by omega), e 4 4 (by omega), t 4 (by omega), t 10 (by omega)]
  rw [if_neg (show ¬ (l.take 14 ++ R).length < 14 by rw [List.length_append, List.length_take]; omega), if_neg (show ¬ l.length < 14 by omega)]
theorem headOf_good {l : List UInt8} {k : Nat} (h14 : 14 ≤ l.length) : headOf (l.take (goodOf l k)) = headOf l := by
  rw [good_take h14]; exact headOf_pre h14 _
theorem good_good {l : List UInt8} {k : Nat} (h14 : 14 ≤ l.length) : goodOf (l.take (goodOf l k)) k = goodOf l k ∧ (l.take (goodOf l k)).length = goodOf l k := by
  refine ⟨by show 14 + (catF (segB (l.take (goodOf l k)) k)).length = _; rw [seg_take h14]; rfl, by rw [List.length_take]; have := good_le (k := k) h14; omega⟩
end Go.Proofs.YthbgnkkepfbmjaaGreat

namespace Go.Proofs.YthbgnkkepfbmjaaGreat
open Go Go.RowKit Go.Sort

/-! A log that is opened, over plain files: no program. -/
structure SgM where
  n : Nat
  L : List (List UInt8)
def byF (m : FSm) (n : Nat) : List UInt8 := (readF m n).1.data.toList
def headIs (b : List UInt8) (n k : Nat) : Bool := match headOf b with | .ok (n', k') => decide (n' = n) && decide (k' = k) | .error _ => false
theorem headIs_iff {b : List UInt8} {n k : Nat} : headIs b n k = true ↔ headOf b = .ok (n, k) := by
  unfold headIs
  cases h : headOf b with
  | error e => simp
  | ok x => obtain ⟨a, c⟩ := x; simp
def wholeF (m : FSm) (k n : Nat) : Bool := headIs (byF m n) n k && (decide ((segB (byF m n) k).length = k) && decide (goodOf (byF m n) k = (byF m n).length))
def sgOf (m : FSm) (k n : Nat) : SgM := ⟨n, segB (byF m n) k⟩
def chainB : List Nat → Bool
  | a :: b :: r => decide (b = a + 1) && chainB (b :: r)
  | _ => true
def mendF (m : FSm) (k n : Nat) : Int × FSm × List SgM :=
  match headOf (byF m n) with
  | .error _ => if (removeF m n).2 ≠ 0 then ((removeF m n).2, (removeF m n).1, []) else ((syncF (removeF m n).1 n).2, (syncF (removeF m n).1 n).1, [])
  | .ok _ =>
    if headIs (byF m n) n k = false then (3, m, [])
    else if goodOf (byF m n) k < (byF m n).length then
      if (truncF m n (goodOf (byF m n) k : Nat)).2 ≠ 0 then ((truncF m n (goodOf (byF m n) k : Nat)).2, (truncF m n (goodOf (byF m n) k : Nat)).1, [])
      else ((syncF (truncF m n (goodOf (byF m n) k : Nat)).1 n).2, (syncF (truncF m n (goodOf (byF m n) k : Nat)).1 n).1, [sgOf m k n])
    else if (segB (byF m n) k).length = k ∧ n ∈ numsF true m.files then ((syncF m n).2, (syncF m n).1, [sgOf m k n])
    else (0, m, [sgOf m k n])
def openF (m : FSm) (keep room : Int) : Int × FSm × List SgM :=
  if ¬ (1 ≤ keep ∧ keep ≤ 16 ∧ 1 ≤ room ∧ room ≤ 32) then (1, m, [])
  else if m.down = true then (7, m, [])
  else if room.toNat < (numsF false m.files).length then (3, m, [])
  else if chainB (numsF false m.files) = false then (3, m, [])
  else if (numsF false m.files).dropLast.all (wholeF m keep.toNat) = false then (3, m, [])
  else match (numsF false m.files).getLast? with
    | none => (0, m, [])
    | some n => ((mendF m keep.toNat n).1, (mendF m keep.toNat n).2.1, (numsF false m.files).dropLast.map (sgOf m keep.toNat) ++ (mendF m keep.toNat n).2.2)
/-- Files that are all safe, behind a crash. -/
structure Calm (m : FSm) : Prop where
  ok : m.Ok
  fuse : m.fuse = -1
  down : m.down = false
  safe : ∀ n, looseF (getF m.files n) = false
theorem calm_crash {m : FSm} (h : m.Ok) (T : List Ft) : Calm (crashF m T) := by
  obtain ⟨h1, _, h3, _⟩ := crash_all h T
  exact ⟨h1, rfl, rfl, h3⟩
theorem act_calm {m : FSm} (hf : m.fuse = -1) (x : Fl) (s : Bool) : actF m x s = (⟨putF m.files x, -1, m.down⟩, 0) := by
  unfold actF
  rw [if_neg (by omega), if_neg (by omega), hf]
theorem get_act {m : FSm} (h : m.Ok) (x : Fl) (k : Nat) : getF (putF m.files x) k = if k = x.n then (if hasF x = true then x else noF k) else getF m.files k :=
  getF_put h.1 (fun y hy => (h.2.1 y hy).1) x k
theorem calm_remove {m : FSm} (h : Calm m) {n : Nat} (ht : (getF m.files n).there = true) :
    (removeF m n).2 = 0 ∧ (syncF (removeF m n).1 n).2 = 0 ∧ Calm (syncF (removeF m n).1 n).1 ∧ ∀ k, getF (syncF (removeF m n).1 n).1.files k = if k = n then noF k else getF m.files k := by
  obtain ⟨ok, hf, hd, hs⟩ := h
  have hx := getF_n m.files n
  have hl := hs n
  have hkept : (getF m.files n).kept = true := by
    unfold looseF at hl; rw [ht] at hl; simp at hl; exact hl.1
  have r1 : removeF m n = (⟨putF m.files (goneF (getF m.files n)), -1, false⟩, 0) := by
    unfold removeF
    rw [if_neg (by rw [hd]; simp), if_neg (by rw [ht]; simp), act_calm hf, hd]
  have ok1 : (removeF m n).1.Ok := remove_ok ok n
  have g1 : ∀ k, getF (removeF m n).1.files k = if k = n then goneF (getF m.files n) else getF m.files k := fun k => by
    rw [r1]
    show getF (putF m.files _) k = _
    rw [get_act ok]
    show (if k = (getF m.files n).n then _ else _) = _
    rw [hx, if_pos (show hasF (goneF (getF m.files n)) = true by simp [hasF, goneF, hkept])]
  have gn := g1 n
  rw [if_pos rfl] at gn
  have r2 : syncF (removeF m n).1 n = (⟨putF (removeF m n).1.files (syncedF (goneF (getF m.files n))), -1, false⟩, 0) := by
    unfold syncF
    rw [gn, if_neg (by rw [r1]; simp), if_neg (by simp [looseF, goneF, hkept]), act_calm (by rw [r1])]
    rw [r1]
  have g2 : ∀ k, getF (syncF (removeF m n).1 n).1.files k = if k = n then noF k else getF m.files k := fun k => by
    rw [r2]
    show getF (putF (removeF m n).1.files _) k = _
    rw [get_act ok1]
    show (if k = (getF m.files n).n then _ else _) = _
    rw [hx, if_neg (show ¬ hasF (syncedF (goneF (getF m.files n))) = true by simp [hasF, syncedF, goneF]), g1]
    split
    · rfl
    · rfl
  refine ⟨by rw [r1], by rw [r2], ⟨sync_ok ok1 n, by rw [r2], by rw [r2], fun k => ?_⟩, g2⟩
  rw [g2]
  split
  · exact loose_no k
  · exact hs k
theorem calm_trunc {m : FSm} (h : Calm m) {n g : Nat} (ht : (getF m.files n).there = true) (hg : g ≤ (getF m.files n).now.size) :
    (truncF m n (g : Int)).2 = 0 ∧ (syncF (truncF m n (g : Int)).1 n).2 = 0 ∧ Calm (syncF (truncF m n (g : Int)).1 n).1 ∧
    ∀ k, getF (syncF (truncF m n (g : Int)).1 n).1.files k = if k = n then ⟨n, true, true, (getF m.files n).now.extract 0 g, (getF m.files n).now.extract 0 g⟩ else getF m.files k := by
  obtain ⟨ok, hf, hd, hs⟩ := h
  have hx := getF_n m.files n
  have r1 : truncF m n (g : Int) = (⟨putF m.files (cutF (getF m.files n) g), -1, false⟩, 0) := by
    unfold truncF
    rw [if_neg (by rw [hd]; simp), if_neg (by rw [ht]; simp), if_neg (by omega), act_calm hf, hd, Int.toNat_natCast]
  have ok1 : (truncF m n (g : Int)).1.Ok := trunc_ok ok n g
  have g1 : ∀ k, getF (truncF m n (g : Int)).1.files k = if k = n then cutF (getF m.files n) g else getF m.files k := fun k => by
    rw [r1]
    show getF (putF m.files _) k = _
    rw [get_act ok]
    show (if k = (getF m.files n).n then _ else _) = _
    rw [hx, if_pos (show hasF (cutF (getF m.files n) g) = true by simp [hasF, cutF, ht])]
  have gn := g1 n
  rw [if_pos rfl] at gn
  have r2 : syncF (truncF m n (g : Int)).1 n = (⟨putF (truncF m n (g : Int)).1.files (syncedF (cutF (getF m.files n) g)), -1, false⟩, 0) := by
    unfold syncF
    rw [gn, if_neg (by rw [r1]; simp), if_neg (by simp [cutF, ht]), act_calm (by rw [r1])]
    rw [r1]
  have g2 : ∀ k, getF (syncF (truncF m n (g : Int)).1 n).1.files k = if k = n then ⟨n, true, true, (getF m.files n).now.extract 0 g, (getF m.files n).now.extract 0 g⟩ else getF m.files k := fun k => by
    rw [r2]
    show getF (putF (truncF m n (g : Int)).1.files _) k = _
    rw [get_act ok1]
    show (if k = (getF m.files n).n then _ else _) = _
    rw [hx, if_pos (show hasF (syncedF (cutF (getF m.files n) g)) = true by simp [hasF, syncedF, cutF, ht]), g1]
    split
    · have e : getF m.files n = ⟨n, true, (getF m.files n).kept, (getF m.files n).now, (getF m.files n).safe⟩ := by
        rw [← ht]
        have := hx
        generalize getF m.files n = y at this ⊢
        subst this
        rfl
      rw [e]; rfl
    · rfl
  refine ⟨by rw [r1], by rw [r2], ⟨sync_ok ok1 n, by rw [r2], by rw [r2], fun k => ?_⟩, g2⟩
  rw [g2]
  split
  · simp [looseF]
  · exact hs k
end Go.Proofs.YthbgnkkepfbmjaaGreat

namespace Go.Proofs.YthbgnkkepfbmjaaGreat
open Go Go.RowKit Go.Sort

/-! A log that is opened again, as soon as it was opened: no program. -/
theorem sorted_ext : ∀ {A B : List Nat}, A.Pairwise (· < ·) → B.Pairwise (· < ·) → (∀ n, n ∈ A ↔ n ∈ B) → A = B
  | [], [], _, _, _ => rfl
  | [], b :: B, _, _, h => absurd ((h b).2 (List.mem_cons_self ..)) (by simp)
  | a :: A, [], _, _, h => absurd ((h a).1 (List.mem_cons_self ..)) (by simp)
  | a :: A, b :: B, ha, hb, h => by
    obtain ⟨a1, a2⟩ := List.pairwise_cons.1 ha
    obtain ⟨b1, b2⟩ := List.pairwise_cons.1 hb
    have e : a = b := by
      rcases List.mem_cons.1 ((h a).1 (List.mem_cons_self ..)) with e | m1
      · exact e
      · rcases List.mem_cons.1 ((h b).2 (List.mem_cons_self ..)) with e | m2
        · exact e.symm
        · have := b1 a m1; have := a1 b m2; omega
    subst e
    rw [sorted_ext a2 b2 fun n => ⟨fun hn => by
      rcases List.mem_cons.1 ((h n).1 (List.mem_cons_of_mem _ hn)) with e | m
      · subst e; exact absurd (a1 n hn) (by omega)
      · exact m, fun hn => by
      rcases List.mem_cons.1 ((h n).2 (List.mem_cons_of_mem _ hn)) with e | m
      · subst e; exact absurd (b1 n hn) (by omega)
      · exact m⟩]
theorem mem_there {L : List Fl} (h : SdF L) {n : Nat} : n ∈ numsF false L ↔ (getF L n).there = true := by
  rw [mem_nums_get h]; rfl
theorem chain_drop : ∀ {A : List Nat} {n : Nat}, chainB (A ++ [n]) = true → chainB A = true
  | [], _, _ => rfl
  | [_], _, _ => rfl
  | a :: b :: A, n, h => by
    simp only [List.cons_append, chainB, Bool.and_eq_true] at h ⊢
    exact ⟨h.1, chain_drop (A := b :: A) h.2⟩
theorem open_still {m : FSm} {keep room : Int} (hd : m.down = false) (hsd : SdF m.files) (hs : ∀ n, looseF (getF m.files n) = false) (hg : 1 ≤ keep ∧ keep ≤ 16 ∧ 1 ≤ room ∧ room ≤ 32) (hr : (numsF false m.files).length ≤ room.toNat) (hc : chainB (numsF false m.files) = true)
    (hw : (numsF false m.files).dropLast.all (wholeF m keep.toNat) = true) (hl : ∀ n, (numsF false m.files).getLast? = some n → headIs (byF m n) n keep.toNat = true ∧ goodOf (byF m n) keep.toNat = (byF m n).length) :
    openF m keep room = (0, m, (numsF false m.files).map (sgOf m keep.toNat)) := by
  unfold openF
  rw [if_neg (by simp [hg]), if_neg (by rw [hd]; simp), if_neg (by omega), if_neg (by rw [hc]; simp), if_neg (by rw [hw]; simp)]
  cases hN : (numsF false m.files).getLast? with
  | none => rw [List.getLast?_eq_none_iff.1 hN]; rfl
  | some n =>
    obtain ⟨h1, h2⟩ := hl n hN
    obtain ⟨A, hA⟩ := List.getLast?_eq_some_iff.1 hN
    have hno : ¬ ((segB (byF m n) keep.toNat).length = keep.toNat ∧ n ∈ numsF true m.files) := fun h => by
      have := (mem_nums_get hsd).1 h.2
      rw [show pickF true (getF m.files n) = looseF (getF m.files n) from rfl, hs n] at this; cases this
    have hm : mendF m keep.toNat n = (0, m, [sgOf m keep.toNat n]) := by
      unfold mendF
      rw [headIs_iff.1 h1]
      dsimp only
      rw [if_neg (by rw [h1]; simp), if_neg (by omega), if_neg hno]
    dsimp only
    rw [hm, hA, List.dropLast_concat, List.map_append]
    rfl
theorem byF_get {m m' : FSm} {n : Nat} (h : getF m'.files n = getF m.files n) : byF m' n = byF m n := by unfold byF readF; rw [h]
theorem wholeF_get {m m' : FSm} {k n : Nat} (h : getF m'.files n = getF m.files n) : wholeF m' k n = wholeF m k n := by unfold wholeF; rw [byF_get h]
theorem sgOf_get {m m' : FSm} {k n : Nat} (h : getF m'.files n = getF m.files n) : sgOf m' k n = sgOf m k n := by unfold sgOf; rw [byF_get h]
theorem whole_last {m : FSm} {k n : Nat} (h : wholeF m k n = true) : headIs (byF m n) n k = true ∧ goodOf (byF m n) k = (byF m n).length := by
  unfold wholeF at h
  simp only [Bool.and_eq_true, decide_eq_true_eq] at h
  exact ⟨h.1, h.2.2⟩
theorem headOf_long {b : List UInt8} {x : Nat × Nat} (h : headOf b = .ok x) : 14 ≤ b.length := by
  unfold headOf at h
  split at h
  · cases h
  · omega
/-- What is answered is OK, or that it is no log; and a log that is opened again, with no act left, is the same. -/
theorem open_again {m : FSm} {keep room : Int} (h : Calm m) (hg : 1 ≤ keep ∧ keep ≤ 16 ∧ 1 ≤ room ∧ room ≤ 32) :
    openF m keep room = (3, m, []) ∨ ((openF m keep room).1 = 0 ∧ Calm (openF m keep room).2.1 ∧
      openF { (openF m keep room).2.1 with fuse := 0 } keep room = (0, { (openF m keep room).2.1 with fuse := 0 }, (openF m keep room).2.2)) ∨ (∃ s, openF m keep room = (3, m, s)) := by
  have hsd := h.ok.1
  obtain ⟨R, hR⟩ : ∃ R, R = openF m keep room := ⟨_, rfl⟩
  rw [← hR]
  unfold openF at hR
  rw [if_neg (by simp [hg]), if_neg (by rw [h.down]; simp)] at hR
  split at hR
  · exact .inl hR
  rename_i hr
  split at hR
  · exact .inl hR
  rename_i hc
  split at hR
  · exact .inl hR
  rename_i hw
  have hc : chainB (numsF false m.files) = true := by simpa using hc
  have hw : (numsF false m.files).dropLast.all (wholeF m keep.toNat) = true := by simpa using hw
  have hr : (numsF false m.files).length ≤ room.toNat := by omega
  cases hN : (numsF false m.files).getLast? with
  | none =>
    rw [hN] at hR
    dsimp only at hR
    subst hR
    refine .inr (.inl ⟨rfl, h, ?_⟩)
    have h0 := List.getLast?_eq_none_iff.1 hN
    have := open_still (m := { m with fuse := 0 }) (keep := keep) (room := room) h.down hsd h.safe hg hr hc (by show (numsF false m.files).dropLast.all _ = true; rw [h0]; rfl) (fun n hn => by rw [show numsF false ({ m with fuse := 0 } : FSm).files = numsF false m.files from rfl, hN] at hn; cases hn)
    rw [this]
    show (_, _, List.map _ (numsF false m.files)) = _
    rw [h0]; rfl
  | some n =>
    rw [hN] at hR
    dsimp only at hR
    obtain ⟨A, hA⟩ := List.getLast?_eq_some_iff.1 hN
    rw [hA, List.dropLast_concat] at hw hR
    have hsorted := nums_sorted (lo := false) hsd
    rw [hA] at hsorted
    have hAn : ∀ x ∈ A, x ≠ n := fun x hx e => by
      have := (List.pairwise_append.1 hsorted).2.2 x hx n (by simp)
      omega
    have hthere : (getF m.files n).there = true := (mem_there hsd).1 (by rw [hA]; simp)
    have hby : byF m n = (getF m.files n).now.data.toList := by unfold byF readF; rw [if_pos hthere]
    have hwA : ∀ x ∈ A, wholeF m keep.toNat x = true := List.all_eq_true.1 hw
    cases hh : headOf (byF m n) with
    | error e =>
      obtain ⟨c1, c2, c3, c4⟩ := calm_remove h hthere
      have hm : mendF m keep.toNat n = (0, (syncF (removeF m n).1 n).1, []) := by
        unfold mendF
        rw [hh]
        dsimp only
        rw [if_neg (by rw [c1]; simp), c2]
      rw [hm] at hR
      subst hR
      refine .inr (.inl ⟨rfl, c3, ?_⟩)
      dsimp only
      have hN2 : numsF false (syncF (removeF m n).1 n).1.files = A := by
        refine sorted_ext (nums_sorted c3.ok.1) (List.pairwise_append.1 hsorted).1 fun k => ?_
        rw [mem_there c3.ok.1, c4]
        by_cases hk : k = n
        · subst hk
          rw [if_pos rfl]
          exact ⟨fun h => absurd h (by simp [noF]), fun h => absurd rfl (hAn k h)⟩
        · rw [if_neg hk, ← mem_there hsd, hA, List.mem_append]
          simp [hk]
      have hget : ∀ x ∈ A, getF (syncF (removeF m n).1 n).1.files x = getF m.files x := fun x hx => by rw [c4, if_neg (hAn x hx)]
      have := open_still (m := { (syncF (removeF m n).1 n).1 with fuse := 0 }) (keep := keep) (room := room) c3.down c3.ok.1 c3.safe hg
        (by show (numsF false (syncF (removeF m n).1 n).1.files).length ≤ _; rw [hN2]; rw [hA, List.length_append] at hr; omega)
        (by show chainB (numsF false (syncF (removeF m n).1 n).1.files) = true; rw [hN2]; rw [hA] at hc; exact chain_drop hc)
        (by
          show (numsF false (syncF (removeF m n).1 n).1.files).dropLast.all _ = true
          rw [hN2]
          refine List.all_eq_true.2 fun x hx => ?_
          have hx' := List.dropLast_subset _ hx
          rw [← hwA x hx']
          exact wholeF_get (hget x hx'))
        (fun x hx => by
          rw [show numsF false ({ (syncF (removeF m n).1 n).1 with fuse := 0 } : FSm).files = A from hN2] at hx
          have hx' : x ∈ A := List.mem_of_getLast? hx
          have := whole_last (hwA x hx')
          rw [show byF { (syncF (removeF m n).1 n).1 with fuse := 0 } x = byF m x from byF_get (hget x hx')]
          exact this)
      rw [this]
      show (_, _, List.map _ (numsF false (syncF (removeF m n).1 n).1.files)) = _
      rw [hN2, List.append_nil]
      congr 2
      exact List.map_congr_left fun x hx => sgOf_get (hget x hx)
    | ok y =>
      have h14 := headOf_long hh
      have hgl := good_le (k := keep.toNat) h14
      by_cases hi : headIs (byF m n) n keep.toNat = true
      case neg =>
        have hm : mendF m keep.toNat n = (3, m, []) := by
          unfold mendF
          rw [hh]
          dsimp only
          rw [if_pos (by simpa using hi)]
        rw [hm] at hR
        exact .inr (.inr ⟨_, hR⟩)
      by_cases hcut : goodOf (byF m n) keep.toNat < (byF m n).length
      · obtain ⟨c1, c2, c3, c4⟩ := calm_trunc h (g := goodOf (byF m n) keep.toNat) hthere (by have e := congrArg List.length hby; rw [data_length] at e; omega)
        have hm : mendF m keep.toNat n = (0, (syncF (truncF m n (goodOf (byF m n) keep.toNat : Nat)).1 n).1, [sgOf m keep.toNat n]) := by
          unfold mendF
          rw [hh]
          dsimp only
          rw [if_neg (by rw [hi]; simp), if_pos hcut, if_neg (by rw [c1]; simp), c2]
        rw [hm] at hR
        subst hR
        refine .inr (.inl ⟨rfl, c3, ?_⟩)
        dsimp only
        obtain ⟨M, hM⟩ : ∃ M, M = (syncF (truncF m n (goodOf (byF m n) keep.toNat : Nat)).1 n).1 := ⟨_, rfl⟩
        rw [← hM] at c3 c4 ⊢
        clear hM hm c1 c2
        have hN2 : numsF false M.files = A ++ [n] := by
          refine sorted_ext (nums_sorted c3.ok.1) hsorted fun k => ?_
          rw [mem_there c3.ok.1, c4]
          by_cases hk : k = n
          · subst hk
            rw [if_pos rfl]
            simp
          · rw [if_neg hk, ← mem_there hsd, hA]
        have hget : ∀ x ∈ A, getF M.files x = getF m.files x := fun x hx => by rw [c4, if_neg (hAn x hx)]
        have hbyM : byF { M with fuse := 0 } n = (byF m n).take (goodOf (byF m n) keep.toNat) := by
          have e : byF { M with fuse := 0 } n = ((getF m.files n).now.extract 0 (goodOf (byF m n) keep.toNat)).data.toList := by
            have g := c4 n
            rw [if_pos rfl] at g
            generalize goodOf (byF m n) keep.toNat = G at g ⊢
            unfold byF readF
            show (if (getF M.files n).there = true then ((getF M.files n).now, (0 : Int)) else (ByteArray.empty, 5)).1.data.toList = _
            rw [g]; rfl
          rw [e, bs_extract, bs_toList, List.drop_zero, Nat.sub_zero, ← hby]
        have hlast : headIs (byF { M with fuse := 0 } n) n keep.toNat = true ∧ goodOf (byF { M with fuse := 0 } n) keep.toNat = (byF { M with fuse := 0 } n).length := by
          rw [hbyM]
          obtain ⟨g1, g2⟩ := good_good (k := keep.toNat) h14
          refine ⟨headIs_iff.2 ?_, by rw [g1, g2]⟩
          rw [headOf_good h14]; exact headIs_iff.1 hi
        have := open_still (m := { M with fuse := 0 }) (keep := keep) (room := room) c3.down c3.ok.1 c3.safe hg
          (by show (numsF false M.files).length ≤ _; rw [hN2, ← hA]; exact hr)
          (by show chainB (numsF false M.files) = true; rw [hN2, ← hA]; exact hc)
          (by
            show (numsF false M.files).dropLast.all _ = true
            rw [hN2, List.dropLast_concat]
            refine List.all_eq_true.2 fun x hx => ?_
            rw [← hwA x hx]
            exact wholeF_get (hget x hx))
          (fun x hx => by
            rw [show numsF false ({ M with fuse := 0 } : FSm).files = A ++ [n] from hN2, List.getLast?_concat] at hx
            injection hx with hx
            subst hx; exact hlast)
        rw [this]
        show (_, _, List.map _ (numsF false M.files)) = _
        rw [hN2, List.map_append]
        congr 2
        rw [List.map_congr_left fun x hx => sgOf_get (m' := { M with fuse := 0 }) (m := m) (k := keep.toNat) (hget x hx)]
        congr 1
        show [sgOf _ _ n] = _
        unfold sgOf
        rw [hbyM, seg_take h14]
      · have hno : ¬ ((segB (byF m n) keep.toNat).length = keep.toNat ∧ n ∈ numsF true m.files) := fun hx => by
          have := (mem_nums_get hsd).1 hx.2
          rw [show pickF true (getF m.files n) = looseF (getF m.files n) from rfl, h.safe n] at this; cases this
        have hm : mendF m keep.toNat n = (0, m, [sgOf m keep.toNat n]) := by
          unfold mendF
          rw [hh]
          dsimp only
          rw [if_neg (by rw [hi]; simp), if_neg hcut, if_neg hno]
        rw [hm] at hR
        subst hR
        refine .inr (.inl ⟨rfl, h, ?_⟩)
        dsimp only
        have := open_still (m := { m with fuse := 0 }) (keep := keep) (room := room) h.down hsd h.safe hg hr hc
          (by show (numsF false m.files).dropLast.all _ = true; rw [hA, List.dropLast_concat]; exact hw)
          (fun x hx => by
            rw [show numsF false ({ m with fuse := 0 } : FSm).files = A ++ [n] from hA, List.getLast?_concat] at hx
            injection hx with hx
            subst hx; exact ⟨hi, by show goodOf (byF m n) _ = (byF m n).length; omega⟩)
        rw [this]
        show (_, _, List.map _ (numsF false m.files)) = _
        rw [hA, List.map_append]
        rfl
end Go.Proofs.YthbgnkkepfbmjaaGreat

namespace Go.Proofs.YthbgnkkepfbmjaaGreat
open Go Go.RowKit Go.Sort

/-! A log over plain files, and what a log of the program has to pay: over this alone go the statements. -/
structure LgM where
  keep : Nat
  room : Nat
  segs : List SgM
  over : Bool
def LgM.fresh (g : LgM) : Bool := match g.segs.getLast? with | none => true | some s => decide (s.L.length = g.keep)
def LgM.next (g : LgM) : Nat := match g.segs.getLast? with | none => 0 | some s => s.n + 1
def LgM.full (g : LgM) : Bool := g.fresh && (decide (g.room ≤ g.segs.length) || (match g.segs.getLast? with | none => false | some s => decide (s.n = 4294967295)))
def LgM.cur (g : LgM) : SgM := if g.fresh = true then ⟨g.next, []⟩ else (g.segs.getLast?).getD ⟨0, []⟩
def LgM.push (g : LgM) (b : List UInt8) : LgM := { g with segs := (if g.fresh = true then g.segs else g.segs.dropLast) ++ [⟨g.cur.n, g.cur.L ++ [b]⟩] }
def LgM.down (g : LgM) : LgM := { g with over := true }
def LgM.all (g : LgM) : List (List UInt8) := g.segs.flatMap SgM.L
/-- The acts ahead of a body's: those that begin a segment. -/
def beginL (m : FSm) (g : LgM) : FSm × Int :=
  if g.fresh = true then
    if (createF m g.next).2 ≠ 0 then createF m g.next else appendF (createF m g.next).1 g.next (bs (headL g.next g.keep))
  else (m, 0)
def addL (m : FSm) (g : LgM) (b : List UInt8) : FSm × Int := if (beginL m g).2 ≠ 0 then beginL m g else appendF (beginL m g).1 g.cur.n (bs (frL b))
def sealL (m : FSm) (g : LgM) (b : List UInt8) : FSm × Int :=
  if (addL m g b).2 ≠ 0 then addL m g b
  else if g.cur.L.length + 1 = g.keep then syncF (addL m g b).1 g.cur.n
  else addL m g b
def appendL (m : FSm) (g : LgM) (b : List UInt8) : Int × FSm × LgM :=
  if g.over = true then (7, m, g)
  else if isB b = false then (1, m, g)
  else if g.full = true then (6, m, g)
  else ((sealL m g b).2, (sealL m g b).1, if (sealL m g b).2 ≠ 0 then g.down else g.push b)
def flushL (m : FSm) (g : LgM) : Int × FSm × LgM :=
  if g.over = true then (7, m, g)
  else match g.segs.getLast? with
    | none => (0, m, g)
    | some s => if s.n ∈ numsF true m.files then ((syncF m s.n).2, (syncF m s.n).1, if (syncF m s.n).2 ≠ 0 then g.down else g) else (0, m, g)
def takeL (m : FSm) (n : Nat) : FSm × Int := if (removeF m n).2 ≠ 0 then removeF m n else syncF (removeF m n).1 n
def expireL (m : FSm) (g : LgM) : Int × FSm × LgM :=
  if g.over = true then (7, m, g)
  else match g.segs with
    | [] => (5, m, g)
    | s :: r => if s.L.length ≠ g.keep then (5, m, g) else ((takeL m s.n).2, (takeL m s.n).1, if (takeL m s.n).2 ≠ 0 then { g with segs := r, over := true } else { g with segs := r })
theorem lim_append4 {k : Nat} {m : FSm} (h : Lim k m) (n : Nat) {b : List UInt8} (hb : b.length ≤ 4000) : Lim (k + 1) (appendF m n (bs b)).1 := lim_append h n (bs b) (by rw [bs_size]; exact hb)
theorem lim_begin {k : Nat} {m : FSm} (h : Lim k m) (g : LgM) : Lim (k + 2) (beginL m g).1 := by
  unfold beginL
  split
  · split
    · exact (lim_create h _).more (Nat.le_succ _)
    · exact lim_append4 (lim_create h _) _ (by rw [headL_length]; omega)
  · exact h.more (by omega)
theorem isB_small {b : List UInt8} (h : isB b = true) : b.length ≤ 2406 := by
  unfold isB at h
  have h0 : errW (getW b) = 0 := by simpa using h
  cases hg : getW b with
  | error e => rw [hg] at h0; exact absurd h0 (getW_err hg)
  | ok L =>
    obtain ⟨h1, h2, _⟩ := getW_back hg
    have := batchL_length h2
    have h3 := (mayL_iff.1 h2).2.1
    rw [h1] at this; omega
theorem lim_add {k : Nat} {m : FSm} (h : Lim k m) (g : LgM) {b : List UInt8} (hb : b.length ≤ 2406) : Lim (k + 3) (addL m g b).1 := by
  unfold addL
  split
  · exact (lim_begin h g).more (Nat.le_succ _)
  · exact lim_append4 (lim_begin h g) _ (by rw [frL_length]; omega)
theorem lim_appendL {k : Nat} {m : FSm} (h : Lim k m) (g : LgM) (b : List UInt8) : Lim (k + 4) (appendL m g b).2.1 := by
  unfold appendL
  split
  · exact h.more (by omega)
  split
  · exact h.more (by omega)
  split
  · exact h.more (by omega)
  rename_i hb _
  have hb := isB_small (b := b) (by simpa using hb)
  show Lim (k + 4) (sealL m g b).1
  unfold sealL
  split
  · exact (lim_add h g hb).more (Nat.le_succ _)
  · split
    · exact lim_sync (lim_add h g hb) _
    · exact (lim_add h g hb).more (Nat.le_succ _)
theorem lim_flushL {k : Nat} {m : FSm} (h : Lim k m) (g : LgM) : Lim (k + 4) (flushL m g).2.1 := by
  unfold flushL
  split
  · exact h.more (by omega)
  split
  · exact h.more (by omega)
  split
  · exact (lim_sync h _).more (by omega)
  · exact h.more (by omega)
theorem lim_expireL {k : Nat} {m : FSm} (h : Lim k m) (g : LgM) : Lim (k + 4) (expireL m g).2.1 := by
  unfold expireL
  split
  · exact h.more (by omega)
  split
  · exact h.more (by omega)
  split
  · exact h.more (by omega)
  · show Lim (k + 4) (takeL m _).1
    unfold takeL
    split
    · exact (lim_remove h _).more (by omega)
    · exact (lim_sync (lim_remove h _) _).more (by omega)
theorem lim_openF {k : Nat} {m : FSm} (h : Lim k m) (keep room : Int) : Lim (k + 2) (openF m keep room).2.1 := by
  have hm : ∀ n, Lim (k + 2) (mendF m keep.toNat n).2.1 := fun n => by
    unfold mendF
    split
    · split
      · exact (lim_remove h _).more (Nat.le_succ _)
      · exact lim_sync (lim_remove h _) _
    · split
      · exact h.more (by omega)
      · split
        · split
          · exact (lim_trunc h _ _).more (Nat.le_succ _)
          · exact lim_sync (lim_trunc h _ _) _
        · split
          · exact (lim_sync h _).more (Nat.le_succ _)
          · exact h.more (by omega)
  unfold openF
  repeat' split
  all_goals first
    | exact h.more (by omega)
    | exact hm _
/-- Bodies that are not great. -/
def LgM.Small (g : LgM) : Prop := (∀ b ∈ g.all, b.length ≤ 1000000000) ∧ g.all.length ≤ 100000
/-- Blocks that have nothing together. -/
def Dis (T S R : Nat → Prop) : Prop := ∀ k, T k → ¬ S k ∧ ¬ R k
/-- Behind a call on a log: what is written lies in the blocks that were the log's, or the files', and in new ones. -/
structure DidL (S R T S' R' T' : Nat → Prop) (w w' : World) : Prop where
  s : ∀ k, S' k → S k ∨ w.heap.size ≤ k
  r : ∀ k, R' k → R k ∨ S k ∨ w.heap.size ≤ k
  t : ∀ k, T' k → T k ∨ w.heap.size ≤ k
  dis : Dis T' S' R'
  off : Off (fun k => S k ∨ T k) w w'
/-- Files that are few and small. -/
def NumOk (m : FSm) : Prop := ∀ x ∈ m.files, x.n < 4294967296
def Fit (m : FSm) : Prop := (∃ k, k ≤ 9000 ∧ Lim k m) ∧ NumOk m
theorem Fit.bnd {m : FSm} (h : Fit m) : Bnd m := by obtain ⟨⟨k, hk, h⟩, _⟩ := h; exact h.bnd (by omega)
structure LogKit (F : FsKit) where
  At : World → (Nat → Prop) → Nat → Nat → LgM → Prop
  low : ∀ {w : World} {T : Nat → Prop} {p q : Nat} {g : LgM}, At w T p q g → ∀ k, T k → k < w.heap.size
  move : ∀ {w w' : World} {T : Nat → Prop} {p q : Nat} {g : LgM}, At w T p q g → w.heap.size ≤ w'.heap.size → (∀ k, T k → w'.heap[k]? = w.heap[k]?) → At w' T p q g
  open_ : ∀ (w : World) (S R : Nat → Prop) (p : Nat) (m : FSm) (keep room : Int), F.Fs w S R p m → Fit m → -9223372036854775808 ≤ keep → keep ≤ 9223372036854775807 → -9223372036854775808 ≤ room → room ≤ 9223372036854775807 →
    Calls Tryz.prog 16 #[.pointer (some ⟨p, 0, none⟩), .int .i64 keep, .int .i64 room] w fun e w' => ∃ S' R' v, e = .returned (.tuple #[.pointer v, .int .i64 (openF m keep room).1]) ∧ F.Fs w' S' R' p (openF m keep room).2.1 ∧ Did S R S' R' w w' ∧
      ((openF m keep room).1 = 0 → ∃ q T, v = some ⟨q, 0, none⟩ ∧ At w' T p q ⟨keep.toNat, room.toNat, (openF m keep room).2.2, false⟩ ∧ (∀ k, T k → w.heap.size ≤ k) ∧ Dis T S' R')
  append : ∀ (w : World) (S R T : Nat → Prop) (p q : Nat) (m : FSm) (g : LgM) (a : Option Addr) (c : Nat) (b : List UInt8), F.Fs w S R p m → At w T p q g → Dis T S R → Fit m → RdN (fun k => S k ∨ T k) w a (bV b) → b.length ≤ 1000000000 → b.length ≤ c → c ≤ maxLen →
    Calls Tryz.prog 24 #[.pointer (some ⟨q, 0, none⟩), .slice a b.length c] w fun e w' => ∃ S' R' T', e = .returned (.int .i64 (appendL m g b).1) ∧ F.Fs w' S' R' p (appendL m g b).2.1 ∧ At w' T' p q (appendL m g b).2.2 ∧ DidL S R T S' R' T' w w'
  flush : ∀ (w : World) (S R T : Nat → Prop) (p q : Nat) (m : FSm) (g : LgM), F.Fs w S R p m → At w T p q g → Dis T S R → Fit m →
    Calls Tryz.prog 50 #[.pointer (some ⟨q, 0, none⟩)] w fun e w' => ∃ S' R' T', e = .returned (.int .i64 (flushL m g).1) ∧ F.Fs w' S' R' p (flushL m g).2.1 ∧ At w' T' p q (flushL m g).2.2 ∧ DidL S R T S' R' T' w w'
  expire : ∀ (w : World) (S R T : Nat → Prop) (p q : Nat) (m : FSm) (g : LgM), F.Fs w S R p m → At w T p q g → Dis T S R → Fit m →
    Calls Tryz.prog 27 #[.pointer (some ⟨q, 0, none⟩)] w fun e w' => ∃ S' R' T', e = .returned (.int .i64 (expireL m g).1) ∧ F.Fs w' S' R' p (expireL m g).2.1 ∧ At w' T' p q (expireL m g).2.2 ∧ DidL S R T S' R' T' w w'
  bodies : ∀ (w : World) (T : Nat → Prop) (p q : Nat) (g : LgM), At w T p q g → g.Small →
    Calls Tryz.prog 22 #[.pointer (some ⟨q, 0, none⟩)] w fun e w' => ∃ (a : Option Addr) (c : Nat) (xs : List By), e = .returned (.slice a xs.length c) ∧ xs.length ≤ c ∧ c ≤ maxLen ∧ Rd w' w'.heap.size a (flatG By.l xs) ∧ (∀ x ∈ xs, ByArg w' x) ∧ xs.map By.b = g.all ∧ Below w.heap.size w w'
  segs : ∀ (w : World) (T : Nat → Prop) (p q : Nat) (g : LgM), At w T p q g →
    Calls Tryz.prog 21 #[.pointer (some ⟨q, 0, none⟩)] w fun e w' => e = .returned (.int .i64 (g.segs.length : Int)) ∧ Below w.heap.size w w'
  over : ∀ (w : World) (T : Nat → Prop) (p q : Nat) (g : LgM), At w T p q g → Calls Tryz.prog 43 #[.pointer (some ⟨q, 0, none⟩)] w fun e w' => e = .returned (.bool g.over) ∧ Below w.heap.size w w'
end Go.Proofs.YthbgnkkepfbmjaaGreat

namespace Go.Proofs.YthbgnkkepfbmjaaGreat
open Go Go.RowKit Go.Sort

/-! Numbers of files and segments, over plain files: no program. -/
theorem nums_lt {m : FSm} (h : NumOk m) {lo : Bool} {n : Nat} (hn : n ∈ numsF lo m.files) : n < 4294967296 := by
  obtain ⟨y, hy, rfl, _⟩ := mem_nums.1 hn
  exact h y hy
theorem num_act {m : FSm} {x : Fl} (h : NumOk m) (hx : x.n < 4294967296) (s : Bool) : NumOk (actF m x s).1 := by
  have hp : ∀ z ∈ putF m.files x, z.n < 4294967296 := fun z hz => by
    rcases mem_putF' hz with e | e
    · rw [e]; exact hx
    · exact h z e
  unfold actF
  split
  · intro z hz
    cases s
    · exact hp z hz
    · exact h z hz
  · exact hp
theorem num_create {m : FSm} (h : NumOk m) {n : Nat} (hn : n < 4294967296) : NumOk (createF m n).1 := by
  unfold createF
  repeat' split
  all_goals first
    | exact h
    | exact num_act h hn _
theorem num_append {m : FSm} (h : NumOk m) {n : Nat} (hn : n < 4294967296) (b : ByteArray) : NumOk (appendF m n b).1 := by
  have hx := getF_n m.files n
  unfold appendF
  repeat' split
  all_goals first
    | exact h
    | exact num_act h (by show (getF m.files n).n < _; omega) _
theorem num_trunc {m : FSm} (h : NumOk m) {n : Nat} (hn : n < 4294967296) (z : Int) : NumOk (truncF m n z).1 := by
  have hx := getF_n m.files n
  unfold truncF
  repeat' split
  all_goals first
    | exact h
    | exact num_act h (by show (getF m.files n).n < _; omega) _
theorem num_sync {m : FSm} (h : NumOk m) {n : Nat} (hn : n < 4294967296) : NumOk (syncF m n).1 := by
  have hx := getF_n m.files n
  unfold syncF
  repeat' split
  all_goals first
    | exact h
    | exact num_act h (by show (getF m.files n).n < _; omega) _
theorem num_remove {m : FSm} (h : NumOk m) {n : Nat} (hn : n < 4294967296) : NumOk (removeF m n).1 := by
  have hx := getF_n m.files n
  unfold removeF
  repeat' split
  all_goals first
    | exact h
    | exact num_act h (by show (getF m.files n).n < _; omega) _
theorem num_crash {m : FSm} (ok : m.Ok) (h : NumOk m) (T : List Ft) : NumOk (crashF m T) := by
  intro y hy
  obtain ⟨h1, _, h3, _⟩ := crash_all ok T
  have hg := getF_mem h1.1 hy
  have hl := h3 y.n
  rw [hg] at hl
  have hok := h1.2.1 y hy
  have ht : y.there = true := by
    have hh := hok.1
    unfold looseF at hl
    unfold hasF at hh
    cases h4 : y.there
    · rw [h4] at hl hh; simp at hl hh; rw [hl] at hh; cases hh
    · rfl
  have hm : y.n ∈ numsF false (crashF m T).files := mem_nums.2 ⟨y, hy, rfl, ht⟩
  rcases crash_there ok T hm with e | e
  · exact nums_lt h e
  · exact nums_lt h e
/-- The numbers of a log's segments. -/
def GNum (g : LgM) : Prop := ∀ s ∈ g.segs, s.n < 4294967296
theorem cur_lt {g : LgM} (h : GNum g) (hf : g.full = false) : g.cur.n < 4294967296 ∧ (g.fresh = true → g.next < 4294967296) := by
  unfold LgM.full at hf
  cases hl : g.segs.getLast? with
  | none =>
    have hfr : g.fresh = true := by unfold LgM.fresh; rw [hl]
    have hn : g.next = 0 := by unfold LgM.next; rw [hl]
    refine ⟨?_, fun _ => by rw [hn]; omega⟩
    unfold LgM.cur; rw [if_pos hfr]; show g.next < _; rw [hn]; omega
  | some s =>
    have hs := h s (List.mem_of_getLast? hl)
    have hn : g.next = s.n + 1 := by unfold LgM.next; rw [hl]
    cases hfr : g.fresh
    · refine ⟨?_, fun e => (by cases e)⟩
      unfold LgM.cur; rw [if_neg (by rw [hfr]; simp), hl]; exact hs
    · rw [hfr, hl, Bool.true_and, Bool.or_eq_false_iff] at hf
      have h1 : ¬ s.n = 4294967295 := of_decide_eq_false hf.2
      have : g.next < 4294967296 := by omega
      refine ⟨?_, fun _ => this⟩
      unfold LgM.cur; rw [if_pos hfr]; exact this
theorem num_appendL {m : FSm} {g : LgM} (h : NumOk m) (hg : GNum g) (b : List UInt8) : NumOk (appendL m g b).2.1 ∧ GNum (appendL m g b).2.2 := by
  unfold appendL
  split
  · exact ⟨h, hg⟩
  split
  · exact ⟨h, hg⟩
  split
  · exact ⟨h, hg⟩
  rename_i hf
  obtain ⟨h1, h2⟩ := cur_lt hg (by simpa using hf)
  have hb : NumOk (beginL m g).1 := by
    unfold beginL
    split
    · rename_i hfr
      split
      · exact num_create h (h2 hfr)
      · exact num_append (num_create h (h2 hfr)) (h2 hfr) _
    · exact h
  have ha : NumOk (addL m g b).1 := by
    unfold addL
    split
    · exact hb
    · exact num_append hb h1 _
  refine ⟨?_, ?_⟩
  · show NumOk (sealL m g b).1
    unfold sealL
    split
    · exact ha
    · split
      · exact num_sync ha h1
      · exact ha
  · show GNum (if _ then _ else _)
    split
    · exact hg
    · intro s hs
      rcases List.mem_append.1 hs with hs | hs
      · split at hs
        · exact hg s hs
        · exact hg s (List.dropLast_subset _ hs)
      · have hs : s = ⟨g.cur.n, g.cur.L ++ [b]⟩ := by simpa using hs
        rw [hs]; exact h1
theorem num_flushL {m : FSm} {g : LgM} (h : NumOk m) (hg : GNum g) : NumOk (flushL m g).2.1 ∧ GNum (flushL m g).2.2 := by
  unfold flushL
  split
  · exact ⟨h, hg⟩
  split
  · exact ⟨h, hg⟩
  rename_i s hs
  have hn := hg s (List.mem_of_getLast? hs)
  split
  · refine ⟨num_sync h hn, ?_⟩
    show GNum (if _ then _ else _)
    split <;> exact hg
  · exact ⟨h, hg⟩
theorem num_expireL {m : FSm} {g : LgM} (h : NumOk m) (hg : GNum g) : NumOk (expireL m g).2.1 ∧ GNum (expireL m g).2.2 := by
  unfold expireL
  split
  · exact ⟨h, hg⟩
  split
  · exact ⟨h, hg⟩
  rename_i s r hs
  have hn := hg s (by rw [hs]; exact List.mem_cons_self ..)
  have hr : ∀ x ∈ r, x.n < 4294967296 := fun x hx => hg x (by rw [hs]; exact List.mem_cons_of_mem _ hx)
  split
  · exact ⟨h, hg⟩
  · refine ⟨?_, ?_⟩
    · show NumOk (takeL m s.n).1
      unfold takeL
      split
      · exact num_remove h hn
      · exact num_sync (num_remove h hn) hn
    · show GNum (if _ then _ else _)
      split <;> exact hr
theorem num_openF {m : FSm} (h : NumOk m) (keep room : Int) : NumOk (openF m keep room).2.1 ∧ ∀ s ∈ (openF m keep room).2.2, s.n < 4294967296 := by
  have hno : NumOk m ∧ ∀ s ∈ ([] : List SgM), s.n < 4294967296 := ⟨h, fun _ h => absurd h (by simp)⟩
  have hm : ∀ n, n < 4294967296 → NumOk (mendF m keep.toNat n).2.1 ∧ ∀ s ∈ (mendF m keep.toNat n).2.2, s.n < 4294967296 := fun n hn => by
    have h1 : ∀ s ∈ [sgOf m keep.toNat n], s.n < 4294967296 := fun s hs => by
      have hs : s = sgOf m keep.toNat n := by simpa using hs
      rw [hs]; exact hn
    unfold mendF
    split
    · split
      · exact ⟨num_remove h hn, fun _ h => absurd h (by simp)⟩
      · exact ⟨num_sync (num_remove h hn) hn, fun _ h => absurd h (by simp)⟩
    · split
      · exact hno
      · split
        · split
          · exact ⟨num_trunc h hn _, fun _ h => absurd h (by simp)⟩
          · exact ⟨num_sync (num_trunc h hn _) hn, h1⟩
        · split
          · exact ⟨num_sync h hn, h1⟩
          · exact ⟨h, h1⟩
  unfold openF
  split
  · exact hno
  split
  · exact hno
  split
  · exact hno
  split
  · exact hno
  split
  · exact hno
  split
  · exact hno
  · rename_i n hn
    have hN : n < 4294967296 := nums_lt h (List.mem_of_getLast? hn)
    obtain ⟨h1, h2⟩ := hm n hN
    refine ⟨h1, fun s hs => ?_⟩
    rcases List.mem_append.1 hs with hs | hs
    · obtain ⟨x, hx, rfl⟩ := List.mem_map.1 hs
      exact nums_lt h (List.dropLast_subset _ hx)
    · exact h2 s hs
end Go.Proofs.YthbgnkkepfbmjaaGreat

