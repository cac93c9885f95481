import Derived.Test.YtkaafjcfcknbpaaNf
namespace Go.Proofs.Ytkaafjcfcknbpaa
open Go Go.RowKit

/-! Frames, as plain functions: no program. -/
def mayF (n : Nat) : Bool := decide (1 ≤ n) && decide (n ≤ 2406)
theorem mayF_iff {n : Nat} : mayF n = true ↔ 1 ≤ n ∧ n ≤ 2406 := by simp [mayF]
theorem mayF_no {n : Nat} (h : mayF n = false) : n = 0 ∨ 2406 < n := by simp [mayF] at h; omega
/-- A body's sum, behind the bytes of its length. -/
def sumF (h b : List UInt8) : Nat := moreL 0 (h ++ b)
theorem sumF_lt (h b : List UInt8) : sumF h b < 4294967296 := moreL_lt _ _
/-- A body's frame. -/
def frL (b : List UInt8) : List UInt8 := putL b.length 2 ++ (putL (sumF (putL b.length 2) b) 4 ++ b)
theorem frL_length (b : List UInt8) : (frL b).length = 6 + b.length := by simp [frL, putL_length]; omega
/-- The body of the frame with which bytes begin, or the error's number. -/
def firstF (s : List UInt8) : Except Nat (List UInt8) :=
  if s.length < 6 then .error 2
  else if mayF (gN s 0 2) = false then .error 3
  else if s.length < 6 + gN s 0 2 then .error 2
  else if sumF (s.take 2) ((s.drop 6).take (gN s 0 2)) = gN s 2 4 then .ok ((s.drop 6).take (gN s 0 2)) else .error 8
def gotF (l : List UInt8) (p : Int) : Except Nat (List UInt8) := if p < 0 ∨ (l.length : Int) ≤ p then .error 5 else firstF (l.drop p.toNat)
theorem firstF_short {s : List UInt8} (h : s.length < 6) : firstF s = .error 2 := if_pos h
theorem firstF_form {s : List UInt8} (h : 6 ≤ s.length) (h2 : mayF (gN s 0 2) = false) : firstF s = .error 3 := by
  unfold firstF; rw [if_neg (by omega), if_pos h2]
theorem firstF_less {s : List UInt8} (h : 6 ≤ s.length) (h2 : mayF (gN s 0 2) = true) (h3 : s.length < 6 + gN s 0 2) : firstF s = .error 2 := by
  unfold firstF; rw [if_neg (by omega), if_neg (by simp [h2]), if_pos h3]
theorem firstF_sum {s : List UInt8} (h2 : mayF (gN s 0 2) = true) (h3 : 6 + gN s 0 2 ≤ s.length) (h4 : sumF (s.take 2) ((s.drop 6).take (gN s 0 2)) ≠ gN s 2 4) : firstF s = .error 8 := by
  unfold firstF; rw [if_neg (by omega), if_neg (by simp [h2]), if_neg (by omega), if_neg h4]
theorem firstF_ok {s : List UInt8} (h2 : mayF (gN s 0 2) = true) (h3 : 6 + gN s 0 2 ≤ s.length) (h4 : sumF (s.take 2) ((s.drop 6).take (gN s 0 2)) = gN s 2 4) : firstF s = .ok ((s.drop 6).take (gN s 0 2)) := by
  unfold firstF; rw [if_neg (by omega), if_neg (by simp [h2]), if_neg (by omega), if_pos h4]
/-- Its parts, read back. -/
theorem frL_len {s b : List UInt8} (h : s.take (6 + b.length) = frL b) (hb : b.length ≤ 2406) : gN s 0 2 = b.length := by
  have h1 : (s.drop 0).take 2 = putL b.length 2 := by
    have := congrArg (List.take 2) h
    rw [List.take_take, Nat.min_eq_left (by omega), frL, takeA] at this
    rw [List.drop_zero]; exact this
  rw [gN_slab h1]; omega
theorem frL_sum {s b : List UInt8} (h : s.take (6 + b.length) = frL b) : gN s 2 4 = sumF (putL b.length 2) b := by
  have h1 : (s.drop 2).take 4 = putL (sumF (putL b.length 2) b) 4 := by
    have := congrArg (fun x => (List.drop 2 x).take 4) h
    simp only [List.drop_take, List.take_take, frL] at this
    rw [dropA _ _ _ _ (Nat.le_refl _), Nat.sub_self, List.drop_zero, takeA, Nat.min_eq_left (by omega)] at this
    exact this
  rw [gN_slab h1]; have := sumF_lt (putL b.length 2) b; omega
theorem frL_body {s b : List UInt8} (h : s.take (6 + b.length) = frL b) : (s.drop 6).take b.length = b := by
  have := congrArg (List.drop 6) h
  rw [List.drop_take, frL, dropA _ _ _ _ (by omega), dropA _ _ _ _ (by omega), List.drop_zero] at this
  rw [show 6 + b.length - 6 = b.length by omega] at this
  exact this
theorem frL_head {s b : List UInt8} (h : s.take (6 + b.length) = frL b) : s.take 2 = putL b.length 2 := by
  have := congrArg (List.take 2) h
  rw [List.take_take, Nat.min_eq_left (by omega), frL, takeA] at this
  exact this
theorem frL_fits {s b : List UInt8} (h : s.take (6 + b.length) = frL b) : 6 + b.length ≤ s.length := by
  have := congrArg List.length h
  rw [List.length_take, frL_length] at this; omega
/-- What begins with a body's frame is read as it. -/
theorem firstF_of {s b : List UInt8} (h : s.take (6 + b.length) = frL b) (hb : mayF b.length = true) : firstF s = .ok b := by
  have hb' := mayF_iff.1 hb
  have e1 := frL_len h (by omega)
  have e2 := frL_body h
  have e3 := firstF_ok (s := s) (by rw [e1]; exact hb) (by rw [e1]; exact frL_fits h) (by rw [e1, e2, frL_head h, frL_sum h])
  rw [e3, e1, e2]
/-- What is read has that frame. -/
theorem firstF_back {s b : List UInt8} (h : firstF s = .ok b) : s.take (6 + b.length) = frL b ∧ mayF b.length = true ∧ 6 + b.length ≤ s.length := by
  unfold firstF at h
  split at h
  · cases h
  split at h
  · cases h
  split at h
  · cases h
  split at h
  case isFalse => cases h
  rename_i h1 h2 h3 h4
  injection h with h
  have hm : mayF (gN s 0 2) = true := by simpa using h2
  have hl : b.length = gN s 0 2 := by rw [← h, List.length_take, List.length_drop]; omega
  rw [h] at h4
  rw [← hl] at hm h3
  refine ⟨?_, hm, by omega⟩
  have e2 := putL_gN s 0 2 (by omega)
  rw [← hl, List.drop_zero] at e2
  have e4 := putL_gN s 2 4 (by omega)
  rw [← h4, ← e2] at e4
  rw [← hl] at h
  have hh : s.take (6 + b.length) = s.take 2 ++ ((s.drop 2).take 4 ++ (s.drop 6).take b.length) := by
    rw [show 6 + b.length = 2 + (4 + b.length) by omega, List.take_add, List.take_add, List.drop_drop]
  rw [hh, ← e2, ← e4, h]
  rfl
theorem firstF_cut {b : List UInt8} (hb : b.length ≤ 2406) {r : Nat} (hr : r < (frL b).length) : ∃ e, firstF ((frL b).take r) = .error e := by
  rw [frL_length] at hr
  cases he : firstF ((frL b).take r) with
  | error e => exact ⟨e, rfl⟩
  | ok c =>
    exfalso
    obtain ⟨h1, h2, h3⟩ := firstF_back he
    rw [List.length_take, frL_length] at h3
    have h4 : r ≥ 6 + c.length := by omega
    have e1 := frL_head h1
    rw [List.take_take, Nat.min_eq_left (by omega), frL, takeA] at e1
    have e2 : gN (putL b.length 2) 0 2 = gN (putL c.length 2) 0 2 := by rw [e1]
    have g : ∀ n, n < 65536 → gN (putL n 2) 0 2 = n := fun n hn => by
      have := gN_slab (l := putL n 2) (p := 0) (n := n) (k := 2) (by rw [List.drop_zero, List.take_of_length_le (by rw [putL_length]; omega)])
      rw [this]; omega
    have := mayF_iff.1 h2
    rw [g _ (by omega), g _ (by omega)] at e2
    omega
theorem firstF_err {s : List UInt8} {n : Nat} (h : firstF s = .error n) : n = 2 ∨ n = 3 ∨ n = 8 := by
  unfold firstF at h
  split at h
  · injection h with h; omega
  split at h
  · injection h with h; omega
  split at h
  · injection h with h; omega
  split at h
  · cases h
  · injection h with h; omega
theorem gotF_none {l : List UInt8} {p : Int} (h : p < 0 ∨ (l.length : Int) ≤ p) : gotF l p = .error 5 := if_pos h
theorem gotF_at {l : List UInt8} {q : Nat} (h : q < l.length) : gotF l (q : Int) = firstF (l.drop q) := by
  unfold gotF; rw [if_neg (by omega), Int.toNat_natCast]
theorem gotF_err {l : List UInt8} {p : Int} {n : Nat} (h : gotF l p = .error n) : n ≠ 0 ∧ n < 9 := by
  unfold gotF at h
  split at h
  · injection h with h; omega
  · have := firstF_err h; omega
theorem gotF_fits {l b : List UInt8} {p : Int} (h : gotF l p = .ok b) : 0 ≤ p ∧ p + 6 + b.length ≤ l.length ∧ 1 ≤ b.length ∧ b.length ≤ 2406 := by
  unfold gotF at h
  split at h
  · cases h
  · obtain ⟨_, h2, h3⟩ := firstF_back h
    have := mayF_iff.1 h2
    rw [List.length_drop] at h3
    omega

/-- The bodies from a place on, m of them at most; the place behind bodies. -/
def allF (l : List UInt8) : Nat → Int → List (List UInt8)
  | 0, _ => []
  | m + 1, p => match gotF l p with
    | .error _ => []
    | .ok b => b :: allF l m (p + ((6 + b.length : Nat) : Int))
def endF (p : Int) : List (List UInt8) → Int
  | [] => p
  | b :: L => endF (p + ((6 + b.length : Nat) : Int)) L
theorem endF_snoc (b : List UInt8) : ∀ (L : List (List UInt8)) (p : Int), endF p (L ++ [b]) = endF p L + ((6 + b.length : Nat) : Int)
  | [], _ => rfl
  | _ :: L, _ => endF_snoc b L _
/-- L's bodies have been found, from p on, of m at most. -/
def Found (l : List UInt8) (m : Nat) (p : Int) (L : List (List UInt8)) : Prop := L.length ≤ m ∧ allF l m p = L ++ allF l (m - L.length) (endF p L) ∧ (L ≠ [] → 0 ≤ p ∧ endF p L ≤ l.length ∧ 0 ≤ endF p L) ∧ ∀ b ∈ L, 1 ≤ b.length ∧ b.length ≤ 2406
theorem Found.start (l : List UInt8) (m : Nat) (p : Int) : Found l m p [] := ⟨Nat.zero_le _, rfl, fun h => absurd rfl h, fun _ h => absurd h (by simp)⟩
theorem Found.next {l b : List UInt8} {m : Nat} {p : Int} {L : List (List UInt8)} (h : Found l m p L) (hm : L.length < m) (hg : gotF l (endF p L) = .ok b) : Found l m p (L ++ [b]) := by
  obtain ⟨h1, h2, h3, h4⟩ := h
  have hf := gotF_fits hg
  refine ⟨by rw [List.length_append]; simp; omega, ?_, fun _ => ?_, fun c hc => ?_⟩
  · rw [h2, List.append_assoc, endF_snoc, List.length_append, List.length_singleton]
    congr 1
    obtain ⟨k, hk⟩ : ∃ k, m - L.length = k + 1 := ⟨m - L.length - 1, by omega⟩
    rw [hk, allF, hg, show m - (L.length + 1) = k by omega]
    rfl
  · rw [endF_snoc]
    have : 0 ≤ p := by
      by_cases h0 : L = []
      · subst h0; exact hf.1
      · exact (h3 h0).1
    omega
  · rcases List.mem_append.1 hc with hc | hc
    · exact h4 c hc
    · rw [List.mem_singleton] at hc; subst hc; omega
theorem Found.stop {l : List UInt8} {m : Nat} {p : Int} {L : List (List UInt8)} {e : Nat} (h : Found l m p L) (hg : gotF l (endF p L) = .error e) : allF l m p = L := by
  obtain ⟨_, h2, _⟩ := h
  rw [h2]
  cases m - L.length with
  | zero => exact List.append_nil _
  | succ k => rw [allF, hg]; exact List.append_nil _
theorem Found.full {l : List UInt8} {m : Nat} {p : Int} {L : List (List UInt8)} (h : Found l m p L) (hm : m ≤ L.length) : allF l m p = L := by
  obtain ⟨_, h2, _⟩ := h
  rw [h2, Nat.sub_eq_zero_of_le hm]
  exact List.append_nil _
theorem endF_more : ∀ (L : List (List UInt8)) (p : Int), (∀ b ∈ L, 1 ≤ b.length ∧ b.length ≤ 2406) → p + 7 * (L.length : Int) ≤ endF p L
  | [], p, _ => by simp [endF]
  | b :: L, p, h => by
    have ih := endF_more L (p + ((6 + b.length : Nat) : Int)) fun c hc => h c (List.mem_cons_of_mem _ hc)
    have := (h b (List.mem_cons_self ..)).1
    rw [endF, List.length_cons]
    omega
theorem Found.few {l : List UInt8} {m : Nat} {p : Int} {L : List (List UInt8)} (h : Found l m p L) : 7 * L.length ≤ l.length := by
  by_cases h0 : L = []
  · subst h0; simp
  · have := endF_more L p h.2.2.2
    have := h.2.2.1 h0
    omega
end Go.Proofs.Ytkaafjcfcknbpaa

