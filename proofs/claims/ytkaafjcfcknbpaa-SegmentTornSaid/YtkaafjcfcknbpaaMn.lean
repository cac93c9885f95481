import Derived.Test.YtkaafjcfcknbpaaMi
import Derived.Test.YtkaafjcfcknbpaaRp
namespace Go.Proofs.Ytkaafjcfcknbpaa
open Go Go.RowKit Go.Sort

/-! SegmentTorn: what is cut off behind a head. -/
theorem gotF_shift (x l : List UInt8) (q : Nat) : gotF (x ++ l) ((x.length + q : Nat) : Int) = gotF l (q : Int) := by
  by_cases h : q < l.length
  · rw [gotF_at h, gotF_at (by rw [List.length_append]; omega), List.drop_append, List.drop_of_length_le (by omega), List.nil_append, Nat.add_sub_cancel_left]
  · rw [gotF_none (.inr (by rw [List.length_append]; omega)), gotF_none (.inr (by omega))]
theorem allF_shift (x l : List UInt8) : ∀ (m q : Nat), allF (x ++ l) m ((x.length + q : Nat) : Int) = allF l m (q : Int)
  | 0, _ => rfl
  | m + 1, q => by
    rw [allF, allF, gotF_shift]
    cases gotF l (q : Int) with
    | error e => rfl
    | ok b =>
      dsimp only
      have h := allF_shift x l m (q + (6 + b.length))
      rw [show ((x.length + q : Nat) : Int) + ((6 + b.length : Nat) : Int) = ((x.length + (q + (6 + b.length)) : Nat) : Int) by omega, h]
      rfl
theorem allF_less (l : List UInt8) : ∀ (k m : Nat) (p : Int), k ≤ m → allF l k p = (allF l m p).take k
  | 0, _, _, _ => by simp [allF]
  | k + 1, 0, _, h => absurd h (by omega)
  | k + 1, m + 1, p, h => by
    rw [allF, allF]
    cases gotF l p with
    | error e => rfl
    | ok b => dsimp only; rw [List.take_succ_cons, allF_less l k m _ (by omega)]
theorem endF_shift : ∀ (L : List (List UInt8)) (p q : Int), endF (p + q) L = p + endF q L
  | [], _, _ => rfl
  | b :: L, p, q => by rw [endF, endF, Int.add_assoc, endF_shift L]
theorem endF_eL {L : List (List UInt8)} {i : Nat} (h : i ≤ L.length) : endF 14 (L.take i) = 14 + (eL L i : Int) := by
  have h2 := endF_shift (L.take i) 14 0
  rw [endF_take L i h] at h2
  exact h2
theorem seg_cut {H : List UInt8} (hH : H.length = 14) {L : List (List UInt8)} (hL : ∀ b ∈ L, mayF b.length = true) (hB : ∀ b ∈ L, isB b = true) {c W k : Nat} (h14 : 14 ≤ c) (hc : c ≤ 14 + (catF L).length) (h : Whole L (c - 14) L.length W) :
    segB ((H ++ catF L).take c) k = L.take (min W k) := by
  have e : (H ++ catF L).take c = H ++ (catF L).take (c - 14) := by
    rw [List.take_append, List.take_of_length_le (by omega), hH]
  have e2 : allF ((H ++ catF L).take c) k 14 = L.take (min W k) := by
    have s := allF_shift H ((catF L).take (c - 14)) k 0
    rw [hH] at s
    have s2 := allF_less ((catF L).take (c - 14)) k (k + L.length) 0 (by omega)
    rw [allF_cut (m := k + L.length) hL (by omega) (by omega) h, List.take_take, Nat.min_comm] at s2
    rw [e, ← s2]; exact s
  unfold segB bodiesF
  rw [e2]
  exact while_all fun x hx => hB x (List.mem_of_mem_take hx)
theorem isB_batch {L : List Sp} (h : mayL L = true) (ok : ∀ s ∈ L, s.Ok) : isB (batchL L) = true := by
  unfold isB; rw [getW_batch h ok]; rfl
theorem mayF_batch {L : List Sp} (h : mayL L = true) : mayF (batchL L).length = true := by
  rw [batchL_length h]
  have := mayL_iff.1 h
  exact mayF_iff.2 (by omega)
theorem head_cut (n k : Nat) {R : List UInt8} {c : Nat} (hn : n < 4294967296) (h1 : 1 ≤ k) (h2 : k ≤ 16) (hc : 14 ≤ c) : headOf ((headL n k ++ R).take c) = .ok (n, k) := by
  rw [List.take_append, List.take_of_length_le (by rw [headL_length]; exact hc)]
  exact headOf_head n k _ hn h1 h2
/-- The ends' loop: how many are whole and counted, and where the last of them ends. -/
theorem Whole.count_yes {L : List (List UInt8)} {c i W k : Nat} (h : Whole L c i W) (hi : i < L.length) (he : eL L (i + 1) ≤ c) (hk : min W k < k) : min W k + 1 = min (i + 1) k ∧ eL L (i + 1) = eL L (min (i + 1) k) := by
  obtain ⟨hW, _⟩ := h.yes hi he
  subst hW
  have : W < k := by omega
  exact ⟨by omega, by rw [Nat.min_eq_left (by omega)]⟩
theorem Whole.count_full {L : List (List UInt8)} {c i W k : Nat} (h : Whole L c i W) (hi : i < L.length) (he : eL L (i + 1) ≤ c) (hk : ¬ min W k < k) : min W k = min (i + 1) k := by
  obtain ⟨hW, _⟩ := h.yes hi he
  omega
end Go.Proofs.Ytkaafjcfcknbpaa
