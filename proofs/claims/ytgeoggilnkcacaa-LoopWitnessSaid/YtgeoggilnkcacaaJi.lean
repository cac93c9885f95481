import Derived.Test.YtgeoggilnkcacaaIa
import Derived.Test.YtgeoggilnkcacaaGn
import Derived.Test.YtgeoggilnkcacaaPlain
import Derived.Shelf.SlicesQ.Reverse
namespace Go.Proofs.Ytgeoggilnkcacaa
open Go Go.Shelf Go.RowKit Go.Sort

/-! The landed code: slices.Reverse at the last part of a row of edges (stage 16). -/
theorem flatKE_list (L : List Ed) : (flatK edV 6 L.toArray).toList = edsV L := by
  apply List.ext_getElem?
  intro t
  by_cases ht : t < L.length * 6
  · have h1 : (flatK edV 6 L.toArray).toList[t]? = some ((flatK edV 6 L.toArray)[t]!) := by
      rw [Array.getElem?_toList, getElem!_pos _ _ (by simpa using ht), Array.getElem?_eq_getElem (by simpa using ht)]
    rw [h1, get_flatK _ _ _ _ (by simpa using ht)]
    have e : t = t / 6 * 6 + t % 6 := by omega
    have hi : t / 6 < L.length := by omega
    have hl : t % 6 < (edV L[t / 6]).length := by rw [edV_len]; omega
    have e3 : (edsV L)[t]? = (edV L[t / 6])[t % 6]? := by
      have := flatG_get edV_len L (t / 6) hi (t % 6) (by omega)
      rwa [← e] at this
    rw [e3]
    have e2 : L.toArray[t / 6]! = L[t / 6] := by simp [hi]
    rw [e2, getElem!_pos (edV L[t / 6]) (t % 6) hl, List.getElem?_eq_getElem hl]
  · rw [List.getElem?_eq_none (by simp; omega), List.getElem?_eq_none (by rw [edsV_length]; omega)]
theorem edsV_drop (L : List Ed) (i : Nat) : (edsV L).drop (i * 6) = edsV (L.drop i) := by
  by_cases h : i ≤ L.length
  · have e : edsV L = edsV (L.take i) ++ edsV (L.drop i) := by rw [← edsV_append, List.take_append_drop]
    have hl : (edsV (L.take i)).length = i * 6 := by rw [edsV_length, List.length_take, Nat.min_eq_left h]
    rw [e, ← hl, List.drop_left]
  · rw [List.drop_of_length_le (by rw [edsV_length]; omega), List.drop_of_length_le (by omega)]; rfl
theorem reverse_part (B g cap c2 i d : Nat) (L : List Ed) (w : World) (hown : w.ownsRow B 34 6 (.slice (some ⟨g, 0, none⟩) L.length cap) L.length (edsV L)) (hid : i + d = L.length) (hsz : L.length < 4611686018427387904) :
    Calls Try.prog 26 #[.slice (some ⟨g, i * 6, none⟩) d c2] w fun e w' =>
      e = .returned (.tuple #[]) ∧ Rd w' w'.heap.size (some ⟨g, i * 6, none⟩) (edsV (L.drop i).reverse) ∧ w.grownBy w' (some g) := by
  obtain ⟨hB, hgl, -⟩ := own_shape hown (k := g) rfl
  rcases hown.2 with ⟨hv, _⟩ | ⟨g', cap', cur, hv, hb, hg, hnc, hcm, hcs, htk⟩
  · cases hv
  obtain ⟨rfl, rfl⟩ : g = g' ∧ cap = cap' := by injection hv; simp_all
  have hlen : (L.drop i).length = d := by rw [List.length_drop]; omega
  have hH : HoldsK edV 6 w g (i * 6) (L.drop i).toArray := by
    intro j hj
    have hj' : j < d * 6 := by simpa [hlen] using hj
    refine ⟨?_, by simp [World.frozen?, hg]⟩
    have h1 := hown.cellAt (i * 6 + j) (by omega)
    rw [h1, ← List.getElem?_drop, edsV_drop, ← flatKE_list, Array.getElem?_toList, Array.getElem?_eq_getElem hj, getElem!_pos (flatK edV 6 _) j hj]
    rfl
  have hcon := AnyQ.slices_Reverse Try.reverseE 6 Try.isAgg34 Try.sizeOf34 edV edV_len (fun x v hv => edsV_one [x] v (by simpa [edsV, flatG] using hv)) g (i * 6) c2 (L.drop i).toArray w hH (by simp; omega)
  rw [show (L.drop i).toArray.size = d by simp [hlen]] at hcon
  change Calls Try.prog 26 _ _ _ at hcon
  refine hcon.mono ?_
  rintro e w' ⟨he, n, hw⟩
  have hH' : HoldsK edV 6 w' g (i * 6) (L.drop i).toArray.reverse := by
    rw [hw]; exact holdsK_putRowK edV 6 _ g (i * 6) (L.drop i).toArray _ (holdsK_ahead edV 6 w n g (i * 6) _ hH) (by simp)
  rw [List.reverse_toArray] at hH' hw
  refine ⟨he, fun _ => ⟨g, i * 6, rfl, ?_, fun j u hu => ?_⟩, ?_⟩
  · rw [hw]; simpa [putRowK, putRow, mapBlock, Sort.ahead] using hgl
  · have hj : j < (flatK edV 6 (L.drop i).reverse.toArray).size := by
      have := (List.getElem?_eq_some_iff.1 hu).1
      rw [edsV_length] at this; simpa using this
    have h2 := (hH' j hj).1
    rw [h2, ← hu, ← flatKE_list, Array.getElem?_toList, Array.getElem?_eq_getElem hj, getElem!_pos (flatK edV 6 _) j hj]
    rfl
  · rw [hw]; unfold putRowK
    refine ⟨rfl, rfl, rfl, by simp [putRow, mapBlock, Sort.ahead], fun k hk hne => ?_⟩
    have : g ≠ k := fun e => hne (by rw [e])
    simp [putRow, mapBlock, Sort.ahead, Array.getElem?_modify, this]
end Go.Proofs.Ytgeoggilnkcacaa
