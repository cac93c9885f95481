import Derived.Test.YthfhmohbfoolnaaFb
namespace Go.Proofs.Ythfhmohbfoolnaa
open Go Go.RowKit

/-! The document's file system, as plain functions: files in a row that rises by their numbers. -/
def hasF (y : Fl) : Bool := y.there || y.kept
def stepF (x : Fl) (s : List Fl × Bool) (y : Fl) : List Fl × Bool :=
  let s1 := if x.n < y.n ∧ s.2 = false then (s.1 ++ [x], true) else s
  if y.n = x.n then s1 else (s1.1 ++ [y], s1.2)
def walkF (x : Fl) (L : List Fl) : List Fl × Bool := L.foldl (stepF x) ([], false)
theorem walkF_succ {x : Fl} {L : List Fl} {k : Nat} (h : k < L.length) : walkF x (L.take (k + 1)) = stepF x (walkF x (L.take k)) L[k] := by
  unfold walkF; rw [List.take_succ_eq_append_getElem h, List.foldl_append]; rfl
theorem stepF_le (x : Fl) (s : List Fl × Bool) (y : Fl) (n : Nat) (h : s.1.length ≤ n + (if s.2 = true then 1 else 0)) : (stepF x s y).1.length ≤ n + 1 + (if (stepF x s y).2 = true then 1 else 0) := by
  obtain ⟨l, b⟩ := s
  unfold stepF
  simp only at *
  by_cases h1 : x.n < y.n ∧ b = false
  · obtain ⟨h1, rfl⟩ := h1
    simp only [h1, and_self, if_true]
    split
    · omega
    · simp at h ⊢; omega
  · rw [if_neg h1]
    split
    · simp only; split at h <;> simp_all <;> omega
    · simp only [List.length_append, List.length_cons, List.length_nil]; omega
theorem walkF_le (x : Fl) (L : List Fl) : ∀ k, k ≤ L.length → (walkF x (L.take k)).1.length ≤ k + (if (walkF x (L.take k)).2 = true then 1 else 0)
  | 0, _ => by simp [walkF]
  | k + 1, h => by
    rw [walkF_succ (by omega)]
    exact stepF_le x _ _ k (walkF_le x L k (by omega))
def insF (L : List Fl) (x : Fl) : List Fl := if (walkF x L).2 = true then (walkF x L).1 else (walkF x L).1 ++ [x]
def putF (L : List Fl) (x : Fl) : List Fl := (insF L x).filter hasF
theorem insF_le (L : List Fl) (x : Fl) : (insF L x).length ≤ L.length + 1 := by
  have h := walkF_le x L L.length (Nat.le_refl _)
  rw [List.take_length] at h
  unfold insF
  split
  · rename_i hb; rw [hb] at h; simpa using h
  · rename_i hb; rw [if_neg hb] at h; simp; omega
theorem putF_le (L : List Fl) (x : Fl) : (putF L x).length ≤ L.length + 1 := Nat.le_trans (List.length_filter_le _ _) (insF_le L x)
/-- Rising by their numbers. -/
def SdF (L : List Fl) : Prop := L.Pairwise fun x y => x.n < y.n
theorem fold_laid (x : Fl) : ∀ (L : List Fl) (acc : List Fl), (∀ y ∈ L, y.n ≠ x.n) → L.foldl (stepF x) (acc, true) = (acc ++ L, true)
  | [], acc, _ => by simp
  | y :: r, acc, h => by
    have hy := h y (by simp)
    rw [List.foldl_cons]
    have e : stepF x (acc, true) y = (acc ++ [y], true) := by simp [stepF, hy]
    rw [e, fold_laid x r _ (fun z hz => h z (by simp [hz])), List.append_assoc]; rfl
theorem fold_sorted (x : Fl) : ∀ (L : List Fl) (acc : List Fl), SdF L →
    L.foldl (stepF x) (acc, false) = (acc ++ (L.filter fun y => decide (y.n < x.n)) ++ (if (L.all fun y => decide (y.n ≤ x.n)) = true then [] else x :: (L.filter fun y => decide (x.n < y.n))), !(L.all fun y => decide (y.n ≤ x.n)))
  | [], acc, _ => by simp
  | y :: r, acc, h => by
    obtain ⟨h1, h2⟩ := List.pairwise_cons.1 h
    rw [List.foldl_cons]
    by_cases hlt : x.n < y.n
    · have hgt : ∀ z ∈ r, x.n < z.n := fun z hz => by have := h1 z hz; omega
      have e : stepF x (acc, false) y = (acc ++ [x] ++ [y], true) := by
        have : ¬ y.n = x.n := by omega
        simp [stepF, hlt, this]
      rw [e, fold_laid x r _ (fun z hz => by have := hgt z hz; omega)]
      have f1 : (r.filter fun y => decide (y.n < x.n)) = [] := List.filter_eq_nil_iff.2 (fun z hz => by have := hgt z hz; simp; omega)
      have f2 : (r.filter fun y => decide (x.n < y.n)) = r := List.filter_eq_self.2 (fun z hz => by have := hgt z hz; simp; omega)
      have a1 : decide (y.n ≤ x.n) = false := by simp; omega
      have a2 : decide (y.n < x.n) = false := by simp; omega
      simp [f1, f2, a1, a2, hlt]
    · by_cases heq : y.n = x.n
      · have hgt : ∀ z ∈ r, x.n < z.n := fun z hz => by have := h1 z hz; omega
        have e : stepF x (acc, false) y = (acc, false) := by simp [stepF, heq]
        rw [e, fold_sorted x r acc h2]
        simp [heq]
      · have hl : y.n < x.n := by omega
        have e : stepF x (acc, false) y = (acc ++ [y], false) := by simp [stepF, heq, hlt]
        rw [e, fold_sorted x r _ h2]
        have a1 : decide (y.n ≤ x.n) = true := by simp; omega
        simp [hl, a1, hlt]
theorem insF_sorted {L : List Fl} (h : SdF L) (x : Fl) : insF L x = (L.filter fun y => decide (y.n < x.n)) ++ x :: (L.filter fun y => decide (x.n < y.n)) := by
  unfold insF walkF
  rw [fold_sorted x L [] h]
  by_cases ha : (L.all fun y => decide (y.n ≤ x.n)) = true
  · have f : (L.filter fun y => decide (x.n < y.n)) = [] := List.filter_eq_nil_iff.2 (fun z hz => by have := List.all_eq_true.1 ha z hz; simp at this ⊢; omega)
    simp [ha, f]
  · simp only [Bool.not_eq_true] at ha
    simp [ha]
theorem mem_insF {L : List Fl} (h : SdF L) {x y : Fl} : y ∈ insF L x ↔ y = x ∨ (y ∈ L ∧ y.n ≠ x.n) := by
  rw [insF_sorted h]
  simp only [List.mem_append, List.mem_cons, List.mem_filter, decide_eq_true_eq]
  constructor
  · rintro (⟨a, b⟩ | rfl | ⟨a, b⟩)
    · exact .inr ⟨a, by omega⟩
    · exact .inl rfl
    · exact .inr ⟨a, by omega⟩
  · rintro (rfl | ⟨a, b⟩)
    · exact .inr (.inl rfl)
    · rcases Nat.lt_or_ge y.n x.n with h | h
      · exact .inl ⟨a, h⟩
      · exact .inr (.inr ⟨a, by omega⟩)
theorem insF_SdF {L : List Fl} (h : SdF L) (x : Fl) : SdF (insF L x) := by
  rw [insF_sorted h]
  unfold SdF at *
  rw [List.pairwise_append]
  refine ⟨h.filter _, List.pairwise_cons.2 ⟨fun y hy => by simpa using (List.mem_filter.1 hy).2, h.filter _⟩, fun a ha b hb => ?_⟩
  have h1 : a.n < x.n := by simpa using (List.mem_filter.1 ha).2
  rcases List.mem_cons.1 hb with rfl | hb
  · exact h1
  · have h2 : x.n < b.n := by simpa using (List.mem_filter.1 hb).2
    omega
theorem mem_putF {L : List Fl} (h : SdF L) {x y : Fl} : y ∈ putF L x ↔ hasF y = true ∧ (y = x ∨ (y ∈ L ∧ y.n ≠ x.n)) := by
  unfold putF; rw [List.mem_filter, mem_insF h]; exact ⟨fun ⟨a, b⟩ => ⟨b, a⟩, fun ⟨a, b⟩ => ⟨b, a⟩⟩
theorem putF_SdF {L : List Fl} (h : SdF L) (x : Fl) : SdF (putF L x) := List.Pairwise.filter _ (insF_SdF h x)
theorem getF_n (L : List Fl) (n : Nat) : (getF L n).n = n := by
  unfold getF
  cases h : L.find? fun x => decide (x.n = n) with
  | none => rfl
  | some x => simpa using List.find?_some h
theorem SdF_one {L : List Fl} (h : SdF L) {x y : Fl} (hx : x ∈ L) (hy : y ∈ L) (e : x.n = y.n) : x = y := by
  induction L with
  | nil => cases hx
  | cons z r ih =>
    obtain ⟨h1, h2⟩ := List.pairwise_cons.1 h
    rcases List.mem_cons.1 hx with e1 | hx' <;> rcases List.mem_cons.1 hy with e2 | hy'
    · rw [e1, e2]
    · have := h1 y hy'; rw [← e1] at this; omega
    · have := h1 x hx'; rw [← e2] at this; omega
    · exact ih h2 hx' hy'
theorem getF_mem {L : List Fl} (h : SdF L) {x : Fl} (hx : x ∈ L) : getF L x.n = x := by
  unfold getF
  cases hf : L.find? fun y => decide (y.n = x.n) with
  | none => have := List.find?_eq_none.1 hf x hx; simp at this
  | some y => exact SdF_one h (List.mem_of_find?_eq_some hf) hx (by simpa using List.find?_some hf)
theorem getF_or (L : List Fl) (n : Nat) : (getF L n ∈ L) ∨ (getF L n = noF n ∧ ∀ x ∈ L, x.n ≠ n) := by
  by_cases h : ∃ x ∈ L, x.n = n
  · left
    unfold getF
    cases hf : L.find? fun y => decide (y.n = n) with
    | none => obtain ⟨x, hx, he⟩ := h; have := List.find?_eq_none.1 hf x hx; simp [he] at this
    | some y => exact List.mem_of_find?_eq_some hf
  · right
    have h' : ∀ x ∈ L, x.n ≠ n := fun x hx e => h ⟨x, hx, e⟩
    exact ⟨getF_none h', h'⟩
theorem hasF_no (n : Nat) : hasF (noF n) = false := rfl
/-- What is told of a number behind a file was put. -/
theorem getF_put {L : List Fl} (h : SdF L) (hh : ∀ y ∈ L, hasF y = true) (x : Fl) (n : Nat) : getF (putF L x) n = if n = x.n then (if hasF x = true then x else noF n) else getF L n := by
  have hs := putF_SdF h x
  by_cases hn : n = x.n
  · rw [if_pos hn]
    subst hn
    by_cases hx : hasF x = true
    · rw [if_pos hx]
      exact getF_mem hs ((mem_putF h).2 ⟨hx, .inl rfl⟩)
    · rw [if_neg hx]
      refine getF_none fun y hy e => ?_
      obtain ⟨h1, h2 | ⟨_, h2⟩⟩ := (mem_putF h).1 hy
      · subst h2; exact hx h1
      · exact h2 e
  · rw [if_neg hn]
    rcases getF_or L n with hm | ⟨e, hno⟩
    · have hgn := getF_n L n
      have := getF_mem hs ((mem_putF h).2 ⟨hh _ hm, .inr ⟨hm, by omega⟩⟩)
      rw [hgn] at this
      exact this
    · rw [e]
      refine getF_none fun y hy he => ?_
      obtain ⟨_, h2 | ⟨h2, _⟩⟩ := (mem_putF h).1 hy
      · subst h2; exact hn he.symm
      · exact hno y h2 he
/-- What each file keeps: it is there or kept; of what isn't there there are no bytes. -/
def OkF (y : Fl) : Prop := hasF y = true ∧ (y.there = false → y.now = ByteArray.empty) ∧ (y.kept = false → y.safe = ByteArray.empty)
structure FSm where
  files : List Fl
  fuse : Int
  down : Bool
def FSm.Ok (m : FSm) : Prop := SdF m.files ∧ (∀ y ∈ m.files, OkF y) ∧ -1 ≤ m.fuse ∧ m.fuse ≤ 9223372036854775807
def newF : FSm := ⟨[], -1, false⟩
def actF (m : FSm) (x : Fl) (sync : Bool) : FSm × Int :=
  if m.fuse = 0 then (⟨if sync = true then m.files else putF m.files x, m.fuse, true⟩, 7)
  else (⟨putF m.files x, if 0 < m.fuse then m.fuse - 1 else m.fuse, m.down⟩, 0)
def createF (m : FSm) (n : Nat) : FSm × Int :=
  if m.down = true then (m, 7)
  else if (getF m.files n).there = true ∨ looseF (getF m.files n) = true then (m, 9)
  else if 63 < (numsF false m.files).length then (m, 6)
  else actF m ⟨n, true, false, ByteArray.empty, ByteArray.empty⟩ false
def appF (x : Fl) (b : ByteArray) : Fl := { x with now := x.now ++ b }
def appendF (m : FSm) (n : Nat) (b : ByteArray) : FSm × Int :=
  if m.down = true then (m, 7)
  else if (getF m.files n).there = false then (m, 5)
  else actF m (appF (getF m.files n) b) false
def cutF (x : Fl) (k : Nat) : Fl := { x with now := x.now.extract 0 k }
def truncF (m : FSm) (n : Nat) (size : Int) : FSm × Int :=
  if m.down = true then (m, 7)
  else if (getF m.files n).there = false then (m, 5)
  else if size < 0 ∨ ((getF m.files n).now.size : Int) < size then (m, 4)
  else actF m (cutF (getF m.files n) size.toNat) false
def syncedF (x : Fl) : Fl := { x with kept := x.there, safe := if x.there = true then x.now else ByteArray.empty }
def syncF (m : FSm) (n : Nat) : FSm × Int :=
  if m.down = true then (m, 7)
  else if (getF m.files n).there = false ∧ looseF (getF m.files n) = false then (m, 5)
  else actF m (syncedF (getF m.files n)) true
def goneF (x : Fl) : Fl := { x with there := false, now := ByteArray.empty }
def removeF (m : FSm) (n : Nat) : FSm × Int :=
  if m.down = true then (m, 7)
  else if (getF m.files n).there = false then (m, 5)
  else actF m (goneF (getF m.files n)) false
def readF (m : FSm) (n : Nat) : ByteArray × Int := if (getF m.files n).there = true then ((getF m.files n).now, 0) else (ByteArray.empty, 5)
/-- Bytes, made one with some. -/
def xorL : List UInt8 → List UInt8 → List UInt8
  | x :: xs, y :: ys => (x ^^^ y) :: xorL xs ys
  | xs, _ => xs
def partF (s : List UInt8) (base : Nat) (count : Int) (g : List UInt8) : List UInt8 :=
  let l := s.take (base + min (max count 0).toNat (s.length - base))
  l.take (max (l.length - 16) base) ++ xorL (l.drop (max (l.length - 16) base)) g
def commonF : List UInt8 → List UInt8 → Nat
  | x :: xs, y :: ys => if x = y then commonF xs ys + 1 else 0
  | _, _ => 0
/-- A fate: with where its bytes lie. -/
structure Ft where
  keep : Bool
  bytes : Int
  ga : Option Addr
  gc : Nat
  g : List UInt8
def zeroT : Ft := ⟨false, 0, none, 0, []⟩
def leftF (x : Fl) (t : Ft) : Fl :=
  let r : Bool × ByteArray :=
    if x.kept = false then (t.keep, bs (partF x.now.data.toList 0 t.bytes t.g))
    else if x.there = false then (!t.keep, x.safe)
    else if commonF x.now.data.toList x.safe.data.toList < x.safe.size ∧ t.keep = false then (true, x.safe)
    else (true, bs (partF x.now.data.toList (commonF x.now.data.toList x.safe.data.toList) t.bytes t.g))
  let now := if r.1 = true then r.2 else ByteArray.empty
  ⟨x.n, r.1, r.1, now, now⟩
def crashTo (L : List Fl) (T : List Ft) (N : List Nat) : Nat → List Fl
  | 0 => L
  | k + 1 => putF (crashTo L T N k) (leftF (getF (crashTo L T N k) (N.getD k 0)) (T.getD k zeroT))
def crashF (m : FSm) (T : List Ft) : FSm := ⟨crashTo m.files T (numsF true m.files) (numsF true m.files).length, -1, false⟩
end Go.Proofs.Ythfhmohbfoolnaa
