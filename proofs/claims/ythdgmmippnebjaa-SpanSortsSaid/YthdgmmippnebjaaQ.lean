import Derived.Test.YthdgmmippnebjaaP
import Derived.Test.YthdgmmippnebjaaL
import Derived.Shelf.SlSortCmp.WholeK
import Derived.Test.YthdgmmippnebjaaPlain
import Derived.Sort.OwnSorted
namespace Go.Proofs.Ythdgmmippnebjaa
open Go.Shelf Go.RowKit Go.Sort

def encS (s : Sp) : List Value := s.c.toList
def leS (x y : Sp) : Bool := decide (cmpI x y ≤ 0)
def sortL (L : List Sp) : List Sp := L.mergeSort leS
theorem leS_total (x y : Sp) : (leS x y || leS y x) = true := by
  have := cmpI_neg x y; simp [leS]; omega
theorem leS_trans (x y z : Sp) (h1 : leS x y = true) (h2 : leS y z = true) : leS x z = true := by
  have := cmpI_tri x y z; simp [leS] at *; unfold Tri at this; omega
theorem leS_anti (x y : Sp) (h1 : leS x y = true) (h2 : leS y x = true) : x = y := by
  have := cmpI_neg x y; simp [leS] at *; exact cmpI_zero (by omega)
theorem sortL_unique {L R : List Sp} (hp : R.Perm L) (hs : R.Pairwise fun x y => leS x y = true) : R = sortL L :=
  List.Perm.eq_of_pairwise (le := fun a b => leS a b = true) (fun a b _ _ h1 h2 => leS_anti a b h1 h2) hs (List.pairwise_mergeSort leS_trans leS_total L) (hp.trans (List.mergeSort_perm L leS).symm)
theorem sortL_length (L : List Sp) : (sortL L).length = L.length := by simp [sortL]
theorem sortL_perm (L : List Sp) : (sortL L).Perm L := List.mergeSort_perm L leS

theorem swo_cmp : SWO (ltOf cmpI) where
  irrefl x := by simp [ltOf, cmpI_refl]
  trans x y z h1 h2 := by have := cmpI_tri x y z; simp [ltOf] at *; unfold Tri at this; omega
  ntrans x y z h1 h2 := by have := cmpI_tri x y z; simp [ltOf] at *; unfold Tri at this; omega

theorem flatK_list (L : List Sp) : (flatK encS 8 L.toArray).toList = flatL L := by
  apply List.ext_getElem?
  intro t
  by_cases ht : t < L.length * 8
  · have h1 : (flatK encS 8 L.toArray).toList[t]? = some ((flatK encS 8 L.toArray)[t]!) := by
      rw [Array.getElem?_toList, getElem!_pos _ _ (by simpa using ht), Array.getElem?_eq_getElem (by simpa using ht)]
    rw [h1, get_flatK _ _ _ _ (by simpa using ht)]
    have e : t = t / 8 * 8 + t % 8 := by omega
    have hi : t / 8 < L.length := by omega
    rw [e, flatL_get L (t / 8) hi (t % 8) (by omega), ← e]
    have e2 : L.toArray[t / 8]! = L[t / 8] := by simp [hi]
    rw [e2]
    have hl : t % 8 < (L[t / 8]).c.size := by show _ < 8; omega
    have : (encS L[t / 8])[t % 8]! = (L[t / 8]).c[t % 8] := by
      unfold encS; rw [getElem!_pos _ _ (by simpa using hl)]; simp
    rw [this]; simp [hl]
  · rw [List.getElem?_eq_none (by simp; omega), List.getElem?_eq_none (by rw [flatL_length]; omega)]

theorem cmpLays (blk off size : Nat) (w : World) : CmpLays Try.prog 14 #[] encS 8 cmpI blk off size w := by
  intro m os dk _ x y
  refine (cmp_lay x y _).mono ?_
  rintro e w' ⟨he, hl⟩
  obtain ⟨os', h⟩ := hl.grow
  exact ⟨he, 0, os', by rw [h]; rfl⟩

theorem sortFunc_own (B g cap : Nat) (L : List Sp) (w : World) (hown : w.ownsRow B 26 8 (.slice (some ⟨g, 0, none⟩) L.length cap) L.length (flatL L)) (hsz : L.length < 4611686018427387904) :
    Calls Try.prog 33 #[.slice (some ⟨g, 0, none⟩) L.length cap, .func (.func 14) #[] #[]] w fun e w' =>
      e = .returned (.tuple #[]) ∧ w'.ownsRow B 26 8 (.slice (some ⟨g, 0, none⟩) L.length cap) L.length (flatL (sortL L)) ∧ w.grownBy w' (some g) := by
  have eg : ∀ args w, (callFunc 14 args).run Try.prog w = .ok (.enter 14 args) w := enters_of Try.func14 (by kernel_rfl) rfl
  rcases hown.2 with ⟨hv, _⟩ | ⟨g', cap', cur, hv, hb, hg, hnc, hcm, hcs, htk⟩
  · cases hv
  obtain ⟨rfl, rfl⟩ : g = g' ∧ cap = cap' := by injection hv; simp_all
  have hH : HoldsK encS 8 w g 0 L.toArray := by
    intro j hj
    have hj' : j < L.length * 8 := by simpa using hj
    refine ⟨?_, by simp [World.frozen?, hg]⟩
    have h1 := hown.cellAt j hj'
    rw [Nat.zero_add, h1, ← flatK_list, Array.getElem?_toList, Array.getElem?_eq_getElem hj, getElem!_pos (flatK encS 8 L.toArray) j hj]
    rfl
  have hcon := AnyQ.slices_SortFunc Try.sortF 8 Try.isAgg26 Try.sizeOf26 encS (fun _ => rfl) (fun x v hv => flatL_one [x] v (by simpa [flatL, encS] using hv)) cmpI swo_cmp 14 #[] g 0 cap L.toArray w eg (cmpLays g 0 _ w) hH (Array.getElem?_eq_some_iff.1 hg).1 (by simpa using hsz)
  change Calls Try.prog 33 _ _ _ at hcon
  refine hcon.mono ?_
  rintro e w' ⟨he, d', n, os, hp, hs, hw⟩
  obtain ⟨R, rfl⟩ : ∃ R : List Sp, d' = R.toArray := ⟨d'.toList, by simp⟩
  have hlen : R.length = L.length := by simpa using hp.1
  have hperm : R.Perm L := by
    have := hp.2.2
    rw [Array.extract_eq_self_of_le (by simp; omega), Array.extract_eq_self_of_le (by simp)] at this
    simpa using this
  have hsort : R = sortL L := by
    refine sortL_unique hperm (List.pairwise_iff_getElem.2 fun i j hi hj hij => ?_)
    have := hs i j (Nat.zero_le _) hij (by simp [← hlen]; exact hj)
    simp [hi, hj, ltOf] at this
    have h2 := cmpI_neg R[i] R[j]
    simp [leS]; omega
  subst hsort
  have hF : (flatK encS 8 (sortL L).toArray).size = L.length * 8 := by simp [sortL_length]
  have hheap : w'.heap[g]? = some (.cells (putCells id 0 (flatK encS 8 (sortL L).toArray) cur) 26 (0, 0)) := by
    have hg' : g < w.heap.size := (Array.getElem?_eq_some_iff.1 hg).1
    rw [hw]; unfold sortWorldK putRowK
    rw [heap_grow_old _ _ (by simpa using hg')]
    simp [putRow, mapBlock, Sort.ahead, Array.getElem?_modify, hg, onCells]
  refine ⟨he, ⟨by rw [flatL_length, sortL_length], .inr ⟨g, cap, _, rfl, hb, hheap, hnc, hcm, by simp [putCells, hcs], ?_⟩⟩, ?_⟩
  · rw [← flatK_list]
    generalize flatK encS 8 (sortL L).toArray = F at hF
    apply List.ext_getElem?
    intro j
    have hfit : L.length * 8 ≤ cur.size := by rw [hcs]; omega
    by_cases hj : j < L.length * 8
    · rw [List.getElem?_take_of_lt hj, Array.getElem?_toList, Array.getElem?_toList]
      simp [putCells, hF, hj, show j < cur.size by omega]
    · rw [List.getElem?_take_eq_none (by omega), List.getElem?_eq_none (by simp [hF]; omega)]
  · rw [hw]; unfold sortWorldK putRowK
    refine ⟨rfl, rfl, rfl, by simp, fun k hk hne => ?_⟩
    rw [heap_grow_old _ _ (by simpa using hk)]
    have : g ≠ k := fun e => hne (by rw [e])
    simp [putRow, mapBlock, Sort.ahead, Array.getElem?_modify, this]
end Go.Proofs.Ythdgmmippnebjaa
