import Derived.Test.YteaafjkgopmmdaaDe
import Derived.Test.YteaafjkgopmmdaaPlain
import Derived.Test.YteaafjkgopmmdaaSe
import Derived.Test.YteaafjkgopmmdaaGe
import Derived.Deep.DeepMust
import Derived.Deep.DeepCutAuto
import Derived.Shelf.SortM.Plain
import Derived.Shelf.SlicesG.CompactS
namespace Go.Proofs.Yteaafjkgopmmdaa
open Go Go.RowKit Go.Sort Go.Shelf
set_option linter.unusedVariables false

theorem sortS_own (B g cap : Nat) (ss : List Tx) (w : World) (hown : w.ownsRow B 9 1 (.slice (some ⟨g, 0, none⟩) ss.length cap) ss.length (strV ss)) (hsz : ss.length < 4611686018427387904) :
    Calls Try.prog 42 #[.slice (some ⟨g, 0, none⟩) ss.length cap] w fun e w' =>
      e = .returned (.tuple #[]) ∧ w'.ownsRow B 9 1 (.slice (some ⟨g, 0, none⟩) ss.length cap) ss.length (strV (ss.mergeSort fun x y => decide (x ≤ y))) ∧ w.grownBy w' (some g) := by
  have hcon := AnyM.slices_Sort_string Try.sortS g 0 cap ss w (own_holds hown) (own_shape hown rfl).2.1 hsz
  change Calls Try.prog 42 _ _ _ at hcon
  refine hcon.mono ?_
  rintro e w' ⟨he, q, os, hw⟩
  have h := own_putRow hown (d := (ss.mergeSort fun x y => decide (x ≤ y)).toArray) (by simp) hw
  rw [List.toList_toArray] at h
  exact ⟨he, h.1, h.2⟩
theorem compactS_own (B g cap : Nat) (ss : List Tx) (w : World) (hown : w.ownsRow B 9 1 (.slice (some ⟨g, 0, none⟩) ss.length cap) ss.length (strV ss)) (hsz : ss.length < 4611686018427387904) :
    Calls Try.prog 43 #[.slice (some ⟨g, 0, none⟩) ss.length cap] w fun e w' =>
      e = .returned (.slice (some ⟨g, 0, none⟩) (Lib.compact ss).length cap) ∧ w'.ownsRow B 9 1 (.slice (some ⟨g, 0, none⟩) (Lib.compact ss).length cap) (Lib.compact ss).length (strV (Lib.compact ss)) ∧ w.grownBy w' (some g) := by
  obtain ⟨_, _, cap', hv, hnc, _⟩ := own_shape hown rfl
  obtain rfl : cap = cap' := by injection hv
  have hcon := AnyG.slices_Compact_string Try.compactS g 0 cap ss w (own_holds hown) (by omega) hnc
  change Calls Try.prog 43 _ _ _ at hcon
  refine hcon.mono ?_
  rintro e w' ⟨he, q, hw⟩
  have hle := Lib.compact_length_le ss
  have h := own_putRow (w' := w') hown (d := (Lib.compact ss ++ List.replicate (ss.length - (Lib.compact ss).length) []).toArray) (q := q) (os := #[]) (by simp; omega) (by rw [hw, grow_empty])
  rw [List.toList_toArray] at h
  have h2 := own_take h.1 (k := (Lib.compact ss).length) hle
  rw [Nat.mul_one, strV_take, List.take_left' rfl] at h2
  exact ⟨he, h2, h.2⟩
def hostT (s : Sp) : Tx := txt s.host
/-- The hosts of spans, each once, in order. -/
def hostsL (L : List Sp) : List Tx := onceL (L.map hostT)
def rowAt (L : List Sp) (k : Nat) : List Tx := (L.take k).map hostT ++ List.replicate (L.length - k) []
theorem rowAt_length (L : List Sp) {k : Nat} (h : k ≤ L.length) : (rowAt L k).length = L.length := by simp [rowAt]; omega
theorem rowAt_zero (L : List Sp) : rowAt L 0 = List.replicate L.length [] := by simp [rowAt]
theorem rowAt_all (L : List Sp) : rowAt L L.length = L.map hostT := by simp [rowAt]
theorem rowAt_set {L : List Sp} {k : Nat} (h : k < L.length) : (strV (rowAt L k)).set k (encStr (hostT L[k])) = strV (rowAt L (k + 1)) := by
  unfold strV rowAt
  rw [List.take_succ_eq_append_getElem h, List.map_append, List.map_append, List.map_append, List.set_append_right _ _ (by simp; omega)]
  have e1 : k - (List.map encStr (List.map hostT (List.take k L))).length = 0 := by simp; omega
  have e2 : L.length - k = (L.length - (k + 1)) + 1 := by omega
  rw [e1, e2, List.replicate_succ, List.map_cons, List.set_cons_zero]
  simp
theorem hosts_length (L : List Sp) : (hostsL L).length ≤ L.length := by
  have := onceL_length (L.map hostT); rwa [List.length_map] at this
theorem info_str : (Try.prog.info? 9).map (fun i => (i.zero, i.size, i.bytes)) = some (some (.string ⟨#[]⟩), 1, 16) := by kernel_rfl

set_option maxHeartbeats 4000000 in
theorem hosts_any (a : Option Addr) (c : Nat) (L : List Sp) (w : World) (ha : Rd w w.heap.size a (flatL L)) (hl : L.length ≤ 100000) :
    Calls Try.prog 39 #[.slice a L.length c] w fun e w' => ∃ v, e = .returned v ∧ w'.ownsRow w.heap.size 9 1 v (hostsL L).length (strV (hostsL L)) ∧ Below w.heap.size w w' := by
  obtain ⟨i0, hi0, hz0, hz1, hz2⟩ := info_parts info_str
  have HZ2 := Lib.hid hz2; clear hz2
  have HA := Lib.hid ha; clear ha
  go_enter Try.func39, Try.ntmps39
  go_wp2_with (at_make
               refine wpList_make_full _ rfl (.tmp 7) (.tmp 7) 56 rfl w.heap.size 9 i0 _ 1 Try.underlying56 hi0 hz0 hz1 .i64 .i64 _ _ L.length rfl rfl rfl rfl (by rw [HZ2.out]; omega) (by unfold maxLen; omega) (Nat.le_refl _) ?_
               intro w1 hown1 hg1
               have HB1 := Lib.hid ((RowKit.Below.refl w.heap.size w).grown hg1 (Nat.le_refl _) (by simp))
               have HO1 := Lib.hid hown1; clear hown1 hg1)
  have HO0 : Hid (w1.ownsRow w.heap.size 9 1 (.slice (some ⟨w.heap.size, 0, none⟩) L.length L.length) L.length (strV (rowAt L 0))) := by
    have h := HO1.out
    rw [rowAt_zero]
    have e : strV (List.replicate L.length []) = (madeCells (Value.string ⟨#[]⟩).cells (L.length * 1)).toList := by
      simp [strV, toList_madeCells_one, Value.cells]
    rw [e]; exact h
  clear HO1
  go_wp2_with fail
  go_loopw [11] (fun i wr => ∃ k : Nat, k ≤ L.length ∧ i = .int .i64 k ∧ wr.ownsRow w.heap.size 9 1 (.slice (some ⟨w.heap.size, 0, none⟩) L.length L.length) L.length (strV (rowAt L k)) ∧ Below w.heap.size w wr) (fun i _ => L.length - (intOf i).toNat)
  case atStart => exact ⟨0, Nat.zero_le _, rfl, HO0.out, HB1.out⟩
  case round =>
    obtain ⟨k, hk, rfl, hown, hb⟩ := hrel
    have HO := Lib.hid hown; have HB := Lib.hid hb; clear hown hb
    generalize wr = W1 at *
    by_cases hlt : k < L.length
    · obtain ⟨b2, o2, hb1, hB2', f0, f1, f2, f3, f4, f5, f6, f7⟩ := (HA.out.below HB.out).elem hlt
      subst hb1
      have HST := Lib.hid ((HO.out.alloc (.cells (L[k]).c 42)).stored k (.string (L[k]).host))
      have HRS := Lib.hid (rowAt_set hlt)
      have hcl : (W1.alloc (.cells (L[k]).c 42)).cell? ⟨w.heap.size, k, none⟩ = (strV (rowAt L k))[k]? := (HO.out.alloc _).cellAt k (by omega)
      rw [strV_get (by rw [rowAt_length L hk]; exact hlt)] at hcl
      have hfr : (W1.alloc (.cells (L[k]).c 42)).frozen? ⟨w.heap.size, k, none⟩ = false := (HO.out.alloc _).frozenAt k
      have i3 : (k : Int) < (L.length : Int) := by omega
      have i4 : (0 : Int) ≤ (k : Int) := by omega
      rw [show encStr (hostT L[k]) = .string (L[k]).host from enc_txt _] at HRS
      generalize L[k] = s at *
      unfold Sp.c at hcl hfr
      go_wp2_with fail
      go_roundw
      case rel => exact ⟨k + 1, by omega, by go_num, by rw [← HRS.out]; exact HST.out.1, (HB.out.alloc HB.out.size _).grown HST.out.2 (by have := HB.out.size; simp; omega) (by intro g hg; cases hg; exact Nat.le_refl _)⟩
      case measure => simp [intOf]; omega
    · obtain rfl : k = L.length := by omega
      rw [rowAt_all] at HO
      obtain ⟨ss, hss⟩ : ∃ ss, ss = L.map hostT := ⟨_, rfl⟩
      have hsl : ss.length = L.length := by rw [hss, List.length_map]
      have HHL : Hid (hostsL L = Lib.compact (ss.mergeSort fun x y => decide (x ≤ y))) := by show _ = _; rw [hss]; rfl
      rw [← hss] at HO
      rw [← hsl] at HO
      clear hss
      rw [← hsl]
      have hs1 : ss.length ≤ 100000 := by omega
      obtain ⟨mm, hmm⟩ : ∃ mm, mm = ss.mergeSort fun x y => decide (x ≤ y) := ⟨_, rfl⟩
      have hml : mm.length = ss.length := by rw [hmm]; simp
      rw [← hmm] at HHL
      have HMM := Lib.hid hmm; clear hmm hk hlt
      have hm1 : mm.length ≤ 100000 := by omega
      have HML := Lib.hid hml; clear hml hsl hl
      clear i0 hi0 hz0 hz1 HZ2 HO0 HB1
      go_wp2_with (go_at_call 42
                   refine (sortS_own w.heap.size w.heap.size ss.length ss W1 HO.out (by omega)).mono ?_
                   rintro e w2 ⟨rfl, hown2, hg2⟩
                   rw [← HMM.out] at hown2
                   have HO2 := Lib.hid hown2; have HB2 := Lib.hid (HB.out.grown hg2 HB.out.size (by intro g hg; cases hg; exact Nat.le_refl _)); clear hown2 hg2)
      rw [← HML.out] at HO2
      rw [← HML.out]
      go_wp2_with (go_at_call 43
                   refine (compactS_own w.heap.size w.heap.size mm.length mm w2 HO2.out (by omega)).mono ?_
                   rintro e w3 ⟨rfl, hown3, hg3⟩
                   have HO3 := Lib.hid hown3; have HB3 := Lib.hid (HB2.out.grown hg3 HB2.out.size (by intro g hg; cases hg; exact Nat.le_refl _)); clear hown3 hg3)
      go_ret
      exact ⟨_, rfl, by rw [HHL.out]; exact HO3.out, HB3.out⟩
end Go.Proofs.Yteaafjkgopmmdaa

