import Derived.Test.YtkaafjcfcknbpaaRn
import Derived.Test.YtkaafjcfcknbpaaGs
import Derived.Deep.DeepMust
namespace Go.Proofs.Ytkaafjcfcknbpaa
open Go Go.RowKit

set_option maxRecDepth 20000
/-! Frames that are laid one behind the other. -/
def catF (L : List (List UInt8)) : List UInt8 := L.flatMap frL
def eL (L : List (List UInt8)) (i : Nat) : Nat := (catF (L.take i)).length
theorem catF_snoc (L : List (List UInt8)) (b : List UInt8) : catF (L ++ [b]) = catF L ++ frL b := by simp [catF]
theorem eL_zero (L : List (List UInt8)) : eL L 0 = 0 := rfl
theorem eL_succ (L : List (List UInt8)) {i : Nat} (h : i < L.length) : eL L (i + 1) = eL L i + (6 + L[i].length) := by
  unfold eL
  rw [← List.take_append_getElem h, catF_snoc, List.length_append, frL_length]
theorem eL_mono (L : List (List UInt8)) {i : Nat} : ∀ d, i + d ≤ L.length → eL L i ≤ eL L (i + d)
  | 0, _ => Nat.le_refl _
  | d + 1, h => by
    have := eL_mono L d (by omega : i + d ≤ L.length)
    rw [← Nat.add_assoc, eL_succ L (by omega)]; omega
theorem eL_all (L : List (List UInt8)) : eL L L.length = (catF L).length := by rw [eL, List.take_length]
theorem eL_le (L : List (List UInt8)) (h3 : ∀ b ∈ L, b.length ≤ 300) : ∀ i, i ≤ L.length → eL L i ≤ 306 * i
  | 0, _ => Nat.le_refl _
  | i + 1, h => by
    have ih := eL_le L h3 i (by omega)
    have := h3 L[i] (List.getElem_mem _)
    rw [eL_succ L (by omega)]; omega
theorem catF_drop (L : List (List UInt8)) {i : Nat} (h : i < L.length) : ∃ R, (catF L).drop (eL L i) = frL L[i] ++ R := by
  refine ⟨catF (L.drop (i + 1)), ?_⟩
  have e : catF L = catF (L.take i) ++ (frL L[i] ++ catF (L.drop (i + 1))) := by
    have h2 : L = L.take i ++ (L[i] :: L.drop (i + 1)) := by rw [← List.drop_eq_getElem_cons h, List.take_append_drop]
    have h3 : catF L = catF (L.take i ++ (L[i] :: L.drop (i + 1))) := by rw [← h2]
    rw [h3]; unfold catF; rw [List.flatMap_append, List.flatMap_cons]
  rw [e, eL, List.drop_left]
/-- How many are whole ahead of k. -/
def Whole (L : List (List UInt8)) (k i W : Nat) : Prop := W ≤ i ∧ eL L W ≤ k ∧ (W < i → k < eL L (W + 1))
theorem Whole.start (L : List (List UInt8)) (k : Nat) : Whole L k 0 0 := ⟨Nat.le_refl _, Nat.zero_le _, fun h => absurd h (by omega)⟩
theorem Whole.yes {L : List (List UInt8)} {k i W : Nat} (h : Whole L k i W) (hi : i < L.length) (he : eL L (i + 1) ≤ k) : W = i ∧ Whole L k (i + 1) (i + 1) := by
  have hW : W = i := by
    rcases Nat.lt_or_ge W i with h1 | h1
    · have h2 := h.2.2 h1
      have h3 := eL_mono L (i := W + 1) (i - W) (by omega)
      rw [show W + 1 + (i - W) = i + 1 by omega] at h3
      omega
    · have := h.1; omega
  exact ⟨hW, Nat.le_refl _, he, fun h => absurd h (by omega)⟩
theorem Whole.no {L : List (List UInt8)} {k i W : Nat} (h : Whole L k i W) (he : k < eL L (i + 1)) : Whole L k (i + 1) W :=
  ⟨by have := h.1; omega, h.2.1, fun _ => by
    rcases Nat.lt_or_ge W i with h1 | h1
    · exact h.2.2 h1
    · have : W = i := by have := h.1; omega
      subst this; exact he⟩
theorem endF_take (L : List (List UInt8)) : ∀ i, i ≤ L.length → endF 0 (L.take i) = (eL L i : Int)
  | 0, _ => by simp [endF, eL_zero]
  | i + 1, h => by
    rw [← List.take_append_getElem (by omega : i < L.length), endF_snoc, endF_take L i (by omega), eL_succ L (by omega)]; omega
/-- Cut off at k, just the whole ones are found. -/
theorem allF_cut {L : List (List UInt8)} (hL : ∀ b ∈ L, mayF b.length = true) {k W m : Nat} (hk : k ≤ (catF L).length) (hm : L.length ≤ m) (h : Whole L k L.length W) : allF ((catF L).take k) m 0 = L.take W := by
  have hlen : ((catF L).take k).length = k := by rw [List.length_take]; omega
  have hf : ∀ j, j ≤ W → Found ((catF L).take k) m 0 (L.take j) := by
    intro j
    induction j with
    | zero => intro _; exact Found.start _ _ _
    | succ j ih =>
      intro hj
      have hjl : j < L.length := by have := h.1; omega
      have hjw : eL L (j + 1) ≤ k := by
        have h3 := eL_mono L (i := j + 1) (W - (j + 1)) (by have := h.1; omega)
        rw [show j + 1 + (W - (j + 1)) = W by omega] at h3
        have := h.2.1; omega
      have hs := eL_succ L hjl
      have ihj := ih (by omega)
      rw [← List.take_append_getElem hjl]
      refine ihj.next (by rw [List.length_take]; omega) ?_
      rw [endF_take L j (by omega), gotF_at (by rw [hlen]; omega), List.drop_take]
      obtain ⟨R, hR⟩ := catF_drop L hjl
      rw [hR]
      refine firstF_of ?_ (hL _ (List.getElem_mem _))
      rw [List.take_take, Nat.min_eq_left (by omega), List.take_append_of_le_length (by rw [frL_length]; omega), ← frL_length, List.take_length]
  have hfw := hf W (Nat.le_refl _)
  have hW := h.1
  cases hg : gotF ((catF L).take k) (endF 0 (L.take W)) with
  | error e => exact hfw.stop hg
  | ok b =>
    exfalso
    rw [endF_take L W hW] at hg
    have hfit := gotF_fits hg
    rw [hlen] at hfit
    rcases Nat.lt_or_ge W L.length with h1 | h1
    · have h2 := h.2.2 h1
      rw [gotF_at (by rw [hlen]; omega), List.drop_take] at hg
      obtain ⟨R, hR⟩ := catF_drop L h1
      have hs := eL_succ L h1
      rw [hR, List.take_append_of_le_length (by rw [frL_length]; omega)] at hg
      obtain ⟨e, he⟩ := firstF_cut (b := L[W]) (mayF_iff.1 (hL _ (List.getElem_mem _))).2 (r := k - eL L W) (by rw [frL_length]; omega)
      rw [he] at hg; cases hg
    · have : W = L.length := by omega
      subst this
      rw [eL_all] at hfit
      omega
theorem By_elem {w : World} {B : Nat} {a : Option Addr} {L : List By} (h : Rd w B a (flatG By.l L)) {i : Nat} (hi : i < L.length) : ∃ b off, a = some ⟨b, off, none⟩ ∧ b < B ∧ w.cell? ⟨b, off + i, none⟩ = some (.slice L[i].a L[i].b.length L[i].c) := by
  obtain ⟨b, off, ha, hb, hc⟩ := Rd.elemG (enc := By.l) (m := 1) (fun _ => rfl) (by omega) h hi
  have := hc 0 _ rfl
  rw [Nat.mul_one, Nat.add_zero] at this
  exact ⟨b, off, ha, hb, this⟩
def iV (L : List Nat) : List Value := L.map fun (n : Nat) => .int .i64 (n : Int)
def endsL (L : List (List UInt8)) (i : Nat) : List Nat := (List.range i).map fun j => eL L (j + 1)
theorem endsL_succ (L : List (List UInt8)) (i : Nat) : endsL L (i + 1) = endsL L i ++ [eL L (i + 1)] := by simp [endsL, List.range_succ]
theorem endsL_length (L : List (List UInt8)) (i : Nat) : (endsL L i).length = i := by simp [endsL]
theorem info_int : (Try.prog.info? 3).map (fun i => (i.zero, i.size, i.bytes)) = some (some (.int .i64 0), 1, 8) := by kernel_rfl
/-- What laid answers. -/
def LaidOut (w : World) (L : List (List UInt8)) (e : Ending) (w' : World) : Prop :=
  ∃ vb ve, e = .returned (.tuple #[vb, ve, .bool true]) ∧ w'.ownsRow w.heap.size 5 1 vb (catF L).length (bV (catF L)) ∧ w'.ownsRow w.heap.size 3 1 ve L.length (iV (endsL L L.length)) ∧ Below w.heap.size w w'
end Go.Proofs.Ytkaafjcfcknbpaa

