import Derived.Test.YthpdaimeaomnkaaOb
import Derived.Test.YthpdaimeaomnkaaSe
import Derived.Shelf.SlSortCmp.WholeK
import Derived.Test.YthpdaimeaomnkaaPlain
import Derived.Sort.OwnSorted
namespace Go.Proofs.Ythpdaimeaomnkaa
open Go.Shelf Go.RowKit Go.Sort
def encS (s : Sp) : List Value := s.c.toList
def leS (x y : Sp) : Bool := decide (cmpI x y ≤ 0)
def sortL (L : List Sp) : List Sp := L.mergeSort leS
theorem leS_total (x y : Sp) : (leS x y || leS y x) = true := by
  have := cmpI_neg x y; simp [leS]; omega
theorem leS_trans (x y z : Sp) (h1 : leS x y = true) (h2 : leS y z = true) : leS x z = true := by
  have := cmpI_tri x y z; simp [leS] at *; unfold Tri at this; omega
theorem leS_anti (x y : Sp) (h1 : leS x y = true) (h2 : leS y x = true) : x = y := by
  have := cmpI_neg x y; simp [leS] at *; exact cmpI_zero (by omega)
theorem sortL_unique {L R : List Sp} (hp : R.Perm L) (hs : R.Pairwise fun x y => leS x y = true) : R = sortL L :=
  List.Perm.eq_of_pairwise (le := fun a b => leS a b = true) (fun a b _ _ h1 h2 => leS_anti a b h1 h2) hs (List.pairwise_mergeSort leS_trans leS_total L) (hp.trans (List.mergeSort_perm L leS).symm)
theorem sortL_length (L : List Sp) : (sortL L).length = L.length := by simp [sortL]
theorem sortL_perm (L : List Sp) : (sortL L).Perm L := List.mergeSort_perm L leS

theorem swo_cmp : SWO (ltOf cmpI) where
  irrefl x := by simp [ltOf, cmpI_refl]
  trans x y z h1 h2 := by have := cmpI_tri x y z; simp [ltOf] at *; unfold Tri at this; omega
  ntrans x y z h1 h2 := by have := cmpI_tri x y z; simp [ltOf] at *; unfold Tri at this; omega

theorem flatK_list (L : List Sp) : (flatK encS 8 L.toArray).toList = flatL L := by
  apply List.ext_getElem?
  intro t
  by_cases ht : t < L.length * 8
  · have h1 : (flatK encS 8 L.toArray).toList[t]? = some ((flatK encS 8 L.toArray)[t]!) := by
      rw [Array.getElem?_toList, getElem!_pos _ _ (by simpa using ht), Array.getElem?_eq_getElem (by simpa using ht)]
    rw [h1, get_flatK _ _ _ _ (by simpa using ht)]
    have e : t = t / 8 * 8 + t % 8 := by omega
    have hi : t / 8 < L.length := by omega
    rw [e, flatL_get L (t / 8) hi (t % 8) (by omega), ← e]
    have e2 : L.toArray[t / 8]! = L[t / 8] := by simp [hi]
    rw [e2]
    have hl : t % 8 < (L[t / 8]).c.size := by show _ < 8; omega
    have : (encS L[t / 8])[t % 8]! = (L[t / 8]).c[t % 8] := by
      unfold encS; rw [getElem!_pos _ _ (by simpa using hl)]; simp
    rw [this]; simp [hl]
  · rw [List.getElem?_eq_none (by simp; omega), List.getElem?_eq_none (by rw [flatL_length]; omega)]

theorem cmpLays (blk off size : Nat) (w : World) : CmpLays Try.prog 20 #[] encS 8 cmpI blk off size w := by
  intro m os dk _ x y
  refine (cmp_lay x y _).mono ?_
  rintro e w' ⟨he, hl⟩
  obtain ⟨os', h⟩ := hl.grow
  exact ⟨he, 0, os', by rw [h]; rfl⟩

theorem sortFunc_own (B g cap : Nat) (L : List Sp) (w : World) (hown : w.ownsRow B 29 8 (.slice (some ⟨g, 0, none⟩) L.length cap) L.length (flatL L)) (hsz : L.length < 4611686018427387904) :
    Calls Try.prog 39 #[.slice (some ⟨g, 0, none⟩) L.length cap, .func (.func 20) #[] #[]] w fun e w' =>
      e = .returned (.tuple #[]) ∧ w'.ownsRow B 29 8 (.slice (some ⟨g, 0, none⟩) L.length cap) L.length (flatL (sortL L)) ∧ w.grownBy w' (some g) := by
  have eg : ∀ args w, (callFunc 20 args).run Try.prog w = .ok (.enter 20 args) w := enters_of Try.func20 (by kernel_rfl) rfl
  rcases hown.2 with ⟨hv, _⟩ | ⟨g', cap', cur, hv, hb, hg, hnc, hcm, hcs, htk⟩
  · cases hv
  obtain ⟨rfl, rfl⟩ : g = g' ∧ cap = cap' := by injection hv; simp_all
  have hH : HoldsK encS 8 w g 0 L.toArray := by
    intro j hj
    have hj' : j < L.length * 8 := by simpa using hj
    refine ⟨?_, by simp [World.frozen?, hg]⟩
    have h1 := hown.cellAt j hj'
    rw [Nat.zero_add, h1, ← flatK_list, Array.getElem?_toList, Array.getElem?_eq_getElem hj, getElem!_pos (flatK encS 8 L.toArray) j hj]
    rfl
  have hcon := AnyQ.slices_SortFunc Try.sortF 8 Try.isAgg29 Try.sizeOf29 encS (fun _ => rfl) (fun x v hv => flatL_one [x] v (by simpa [flatL, encS] using hv)) cmpI swo_cmp 20 #[] g 0 cap L.toArray w eg (cmpLays g 0 _ w) hH (Array.getElem?_eq_some_iff.1 hg).1 (by simpa using hsz)
  change Calls Try.prog 39 _ _ _ at hcon
  refine hcon.mono ?_
  rintro e w' ⟨he, d', n, os, hp, hs, hw⟩
  obtain ⟨R, rfl⟩ : ∃ R : List Sp, d' = R.toArray := ⟨d'.toList, by simp⟩
  have hlen : R.length = L.length := by simpa using hp.1
  have hperm : R.Perm L := by
    have := hp.2.2
    rw [Array.extract_eq_self_of_le (by simp; omega), Array.extract_eq_self_of_le (by simp)] at this
    simpa using this
  have hsort : R = sortL L := by
    refine sortL_unique hperm (List.pairwise_iff_getElem.2 fun i j hi hj hij => ?_)
    have := hs i j (Nat.zero_le _) hij (by simp [← hlen]; exact hj)
    simp [hi, hj, ltOf] at this
    have h2 := cmpI_neg R[i] R[j]
    simp [leS]; omega
  subst hsort
  have hF : (flatK encS 8 (sortL L).toArray).size = L.length * 8 := by simp [sortL_length]
  have hheap : w'.heap[g]? = some (.cells (putCells id 0 (flatK encS 8 (sortL L).toArray) cur) 29 (0, 0)) := by
    have hg' : g < w.heap.size := (Array.getElem?_eq_some_iff.1 hg).1
    rw [hw]; unfold sortWorldK putRowK
    rw [heap_grow_old _ _ (by simpa using hg')]
    simp [putRow, mapBlock, Sort.ahead, Array.getElem?_modify, hg, onCells]
  refine ⟨he, ⟨by rw [flatL_length, sortL_length], .inr ⟨g, cap, _, rfl, hb, hheap, hnc, hcm, by simp [putCells, hcs], ?_⟩⟩, ?_⟩
  · rw [← flatK_list]
    generalize flatK encS 8 (sortL L).toArray = F at hF
    apply List.ext_getElem?
    intro j
    have hfit : L.length * 8 ≤ cur.size := by rw [hcs]; omega
    by_cases hj : j < L.length * 8
    · rw [List.getElem?_take_of_lt hj, Array.getElem?_toList, Array.getElem?_toList]
      simp [putCells, hF, hj, show j < cur.size by omega]
    · rw [List.getElem?_take_eq_none (by omega), List.getElem?_eq_none (by simp [hF]; omega)]
  · rw [hw]; unfold sortWorldK putRowK
    refine ⟨rfl, rfl, rfl, by simp, fun k hk hne => ?_⟩
    rw [heap_grow_old _ _ (by simpa using hk)]
    have : g ≠ k := fun e => hne (by rw [e])
    simp [putRow, mapBlock, Sort.ahead, Array.getElem?_modify, this]
theorem info_sp : (Try.prog.info? 29).map (fun i => (i.zero, i.size, i.bytes)) = some (some (.agg #[.int .u64 0, .int .u64 0, .int .u64 0, .int .u8 0, .string ⟨#[]⟩, .string ⟨#[]⟩, .int .i64 0, .int .i64 0]), 8, 80) := by kernel_rfl

set_option maxHeartbeats 1000000 in
theorem sort_any (a : Option Addr) (c : Nat) (L : List Sp) (w : World) (ha : Rd w w.heap.size a (flatL L)) (hl : L.length ≤ 1000000) :
    Calls Try.prog 21 #[.slice a L.length c] w fun e w' => ∃ v, e = .returned v ∧ w'.ownsRow w.heap.size 29 8 v L.length (flatL (sortL L)) ∧ Below w.heap.size w w' := by
  obtain ⟨i0, hi0, hz0, hz1, hz2⟩ := info_parts info_sp
  have HZ2 := Lib.hid hz2; clear hz2
  have HA := Lib.hid ha; clear ha
  go_enter Try.func21, Try.ntmps21
  go_wp2_with (first
    | (at_make
       refine wpList_make_full _ rfl (.tmp 5) (.tmp 5) 22 rfl w.heap.size 29 i0 _ 8 Try.underlying22 hi0 hz0 hz1 .i64 .i64 _ _ L.length rfl rfl rfl rfl (by rw [HZ2.out]; omega) (by unfold maxLen; omega) (Nat.le_refl _) ?_
       intro w1 hown1 hg1
       have hb1 : RowKit.Below w.heap.size w w1 := (RowKit.Below.refl _ _).grown hg1 (Nat.le_refl _) (by simp)
       have HO1 := Lib.hid hown1; have HB1 := Lib.hid hb1; clear hown1 hg1 hb1)
    | (refine wpList_copy_all rfl (.tmp 7) (.tmp 8) 22 rfl w.heap.size 29 i0 8 Try.underlying22 hi0 hz1 w.heap.size L.length L.length _ rfl HO1.out w.heap.size a c (flatL L) rfl (flatL_length L) (by omega) (HA.out.below HB1.out) (flatL_one L) ?_
       intro w2 hown2 hg2
       have HB2 := Lib.hid (HB1.out.grown hg2 HB1.out.size (by simp)); have HO2 := Lib.hid hown2; clear hown2 hg2)
    | (go_at_call 39
       refine (sortFunc_own w.heap.size w.heap.size L.length L _ HO2.out (by omega)).mono ?_
       rintro e w3 ⟨rfl, hown3, hg3⟩))
  go_ret
  exact ⟨_, rfl, hown3, HB2.out.grown hg3 HB2.out.size (by simp)⟩
end Go.Proofs.Ythpdaimeaomnkaa
