import Derived.Test.YthpdaimeaomnkaaOd
import Derived.Test.YthpdaimeaomnkaaOc
import Derived.Deep.RegionLaw
import Derived.IntWalk
namespace Go.Proofs.Ythpdaimeaomnkaa
open Go.Shelf Go.RowKit Go.Sort
theorem insert_sorted {R : List Sp} {s : Sp} {k : Nat} (hk : k ≤ R.length) (hs : R.Pairwise fun x y => leS x y = true) (h1 : ∀ j (h : j < R.length), k ≤ j → 0 < cmpI R[j] s) (h2 : ∀ (h : 0 < k), cmpI (R[k - 1]'(by omega)) s ≤ 0) :
    (R.take k ++ s :: R.drop k).Pairwise fun x y => leS x y = true := by
  have hall : ∀ j (h : j < R.length), j < k → leS R[j] s = true := by
    intro j h hj
    have e : leS (R[k - 1]'(by omega)) s = true := by simp [leS]; exact h2 (by omega)
    by_cases hjk : j = k - 1
    · subst hjk; exact e
    · exact leS_trans _ _ _ (List.pairwise_iff_getElem.1 hs j (k - 1) h (by omega) (by omega)) e
  have hgt : ∀ j (h : j < R.length), k ≤ j → leS s R[j] = true := by
    intro j h hj
    have := cmpI_neg R[j] s; have := h1 j h hj
    simp [leS]; omega
  rw [List.pairwise_append]
  refine ⟨hs.sublist (List.take_sublist _ _), List.pairwise_cons.2 ⟨fun y hy => ?_, hs.sublist (List.drop_sublist _ _)⟩, fun x hx y hy => ?_⟩
  · obtain ⟨j, hj, rfl⟩ := List.mem_iff_getElem.1 hy
    rw [List.getElem_drop]; exact hgt _ _ (by omega)
  · obtain ⟨i, hi, rfl⟩ := List.mem_iff_getElem.1 hx
    rw [List.getElem_take]
    simp at hi
    rcases List.mem_cons.1 hy with rfl | hy
    · exact hall i (by omega) (by omega)
    · obtain ⟨j, hj, rfl⟩ := List.mem_iff_getElem.1 hy
      rw [List.getElem_drop]
      exact List.pairwise_iff_getElem.1 hs i _ (by omega) _ (by omega)
theorem insert_is {L : List Sp} {n : Nat} (hn : n < L.length) {k : Nat} (hk : k ≤ n) (h1 : ∀ j (h : j < (sortL (L.take n)).length), k ≤ j → 0 < cmpI (sortL (L.take n))[j] L[n]) (h2 : ∀ (h : 0 < k), cmpI ((sortL (L.take n))[k - 1]'(by rw [sortL_length]; simp; omega)) L[n] ≤ 0) :
    (sortL (L.take n)).take k ++ L[n] :: (sortL (L.take n)).drop k = sortL (L.take (n + 1)) := by
  refine sortL_unique ?_ (insert_sorted (by rw [sortL_length]; simp; omega) (List.pairwise_mergeSort leS_trans leS_total _) h1 h2)
  rw [List.take_succ_eq_append_getElem hn]
  refine List.perm_middle.trans ?_
  rw [List.take_append_drop]
  exact ((sortL_perm _).cons _).trans (List.perm_append_singleton _ _).symm

theorem insert_at {L : List Sp} {n : Nat} (hn : n < L.length) {R : List Sp} (hR : R = sortL (L.take n)) {k : Nat} (hk : k ≤ n) (h1 : ∀ j (h : j < R.length), k ≤ j → 0 < cmpI R[j] L[n]) (h2 : ∀ j (h : j < R.length), j + 1 = k → cmpI R[j] L[n] ≤ 0) :
    R.take k ++ L[n] :: R.drop k = sortL (L.take (n + 1)) := by
  subst hR
  exact insert_is hn hk h1 fun h => h2 (k - 1) _ (by omega)

theorem insert_at' {L : List Sp} {n : Nat} (hn : n < L.length) {s : Sp} (hs : L[n] = s) {R : List Sp} (hR : R = sortL (L.take n)) {k : Nat} (hk : k ≤ n) (h1 : ∀ j (h : j < R.length), k ≤ j → 0 < cmpI R[j] s) (h2 : ∀ j (h : j < R.length), j + 1 = k → cmpI R[j] s ≤ 0) :
    R.take k ++ s :: R.drop k = sortL (L.take (n + 1)) := by
  subst hs; exact insert_at hn hR hk h1 h2

set_option maxHeartbeats 2000000 in
theorem refSort_any (a : Option Addr) (c : Nat) (L : List Sp) (w : World) (ha : Rd w w.heap.size a (flatL L)) (hl : L.length ≤ 1000000) (hok : ∀ s ∈ L, s.Ok) :
    Calls Try.prog 22 #[.slice a L.length c] w fun e w' => ∃ v, e = .returned v ∧ w'.ownsRow w.heap.size 29 8 v L.length (flatL (sortL L)) ∧ Below w.heap.size w w' := by
  obtain ⟨i0, hi0, hz0, hz1, hz2⟩ := info_parts info_sp
  have HZ2 := Lib.hid hz2; clear hz2
  have HA := Lib.hid ha; have HOK := Lib.hid hok; clear ha hok
  go_enter Try.func22, Try.ntmps22
  go_wp2
  go_loopw [3, 4] (fun v i wr => ∃ n g cap : Nat, n ≤ L.length ∧ i = .int .i64 n ∧ v = .slice (some ⟨g, 0, none⟩) n cap ∧ wr.ownsRow w.heap.size 29 8 v n (flatL (sortL (L.take n))) ∧ RowKit.Below w.heap.size w wr) (fun _ i _ => L.length - (intOf i).toNat)
  case atStart =>
    exact ⟨0, _, _, Nat.zero_le _, rfl, rfl, by have := World.ownsRow_made (base := w.heap.size) (e := 29) (size := 8) w #[] 0 (Nat.le_refl _) (by decide) rfl; simpa [sortL, flatL] using this, (RowKit.Below.refl _ _).alloc (Nat.le_refl _) _⟩
  case round =>
    obtain ⟨n, g, cap, hn, rfl, rfl, hown, hb⟩ := hrel
    have HO := Lib.hid hown; have HB := Lib.hid hb; clear hown hb
    generalize wr = W1 at *
    by_cases hlt : n < L.length
    · have hRl : Hid ((sortL (L.take n)).length = n) := by show _ = _; rw [sortL_length]; simp; omega
      obtain ⟨R, hR⟩ : ∃ R, R = sortL (L.take n) := ⟨_, rfl⟩
      have HR := Lib.hid hR
      rw [← hR] at HO hRl
      clear hR
      go_wp2
      go_loopw [5] (fun k wr2 => ∃ k' : Nat, k' ≤ n ∧ k = .int .i64 k' ∧ (∀ j (h : j < R.length), k' ≤ j → 0 < cmpI R[j] L[n]) ∧ RowKit.Below W1.heap.size W1 wr2) (fun k _ => (intOf k).toNat)
      case atStart => exact ⟨n, Nat.le_refl _, rfl, fun j h hj => by have := hRl.out; omega, RowKit.Below.refl _ _⟩
      case round =>
        obtain ⟨k', hk', rfl, hgt, hb2⟩ := hrel
        have HG := Lib.hid hgt; have HB2 := Lib.hid hb2; clear hgt hb2
        generalize wr = W2 at *
        by_cases hpos : 0 < k'
        case neg =>
          have hp0 : decide ((0 : Int) < (k' : Int)) = false := by simp; omega
          generalize hs : L[n] = s at *
          have hle : ∀ j (h : j < R.length), j + 1 = k' → cmpI R[j] s ≤ 0 := fun j h e => by omega
          go_wp2
          refine wp_region_quiet_below (by kernel_rfl) (by kernel_rfl) ?_
          iterate 15 (first | go_big_quiet_step (fail) | fail)
          refine wpQuiet_nil ?_
          intro W3 hw3
          obtain ⟨⟨d, os⟩, hw3'⟩ := hw3
          have hb3 := below_regrown W2 d os
          rw [← hw3'] at hb3
          clear hw3'
          have hx := True.intro
          have HLE := Lib.hid (insert_at' hlt hs HR.out hk' HG.out hle)
          have HO3 := Lib.hid (own_below HO.out (HB2.out.trans (hb3.mono HB2.out.size)))
          have HB3 := Lib.hid (HB.out.trans ((HB2.out.trans (hb3.mono HB2.out.size)).mono HB.out.size))
          clear hb3 hle
          have i1 : (0 : Int) ≤ (k' : Int) := by omega
          have i2 : (k' : Int) ≤ (n : Int) := by omega
          have hnc : n ≤ cap := by
            obtain ⟨_, _, cap', hv, h1, _⟩ := own_shape HO3.out rfl
            obtain rfl : cap = cap' := by injection hv
            exact h1
          have hkc : k' ≤ cap := by omega
          by_cases hcap : cap = k'
          · subst hcap
            have hnk : n = cap := by omega
            have HR3 : Hid (Rd (W3.alloc (.cells #[] 29)) (W3.heap.size + 1) (some ⟨g, 0, none⟩) (flatL (R.drop cap))) := by
              show Rd _ _ _ _
              rw [List.drop_of_length_le (by have := hRl.out; omega)]
              exact Rd.nil _ _ _
            have HNK := Lib.hid hnk; clear hnk
            go_wp2_with (at_builtin
                         refine wpList_append_rd _ rfl (.tmp 33) (.tmp 36) 22 rfl w.heap.size 29 i0 _ 8 80 Try.underlying22 hi0 hz0 hz1 HZ2.out rfl (by omega) (.slice (some ⟨W3.heap.size, 0, none⟩) 0 0) 0 [] rfl (World.ownsRow_made W3 #[] 0 HB3.out.size (by decide) rfl) (W3.heap.size + 1) _ 0 _ (flatL (R.drop cap)) rfl (by rw [flatL_length, List.length_drop, hRl.out]; omega) (by simpa using HR3.out) (flatL_one _) (by unfold maxLen; omega) (by omega) (by have := HB3.out.size; simp; omega) ?_
                         intro v4 w4 hown4 hg4 hat4
                         obtain ⟨g4, hv4⟩ : ∃ g4, v4.ownBlock = some g4 := by rcases hat4 with h | h <;> exact ⟨_, h⟩
                         have hg4' : W3.heap.size ≤ g4 := by rcases hat4 with h | h <;> (rw [h] at hv4; simp [Value.ownBlock] at hv4; omega)
                         obtain ⟨_, hg4s, cap4, rfl, _, _⟩ := own_shape hown4 hv4
                         have hb4 : RowKit.Below W3.heap.size W3 w4 := ((RowKit.Below.refl _ _).alloc (Nat.le_refl _) _).grown hg4 (by simp) (by intro k hk; simp [Value.ownBlock] at hk; omega)
                         have HO4r := Lib.hid hown4
                         have HG4 := Lib.hid hg4'
                         clear hown4 hg4 hat4 hv4 hg4')
            have HO4 := Lib.hid (own_take (own_below HO3.out hb4) (k := cap) (by omega))
            rw [flatL_take] at HO4
            have hgl : Hid (g < W3.heap.size) := by
              exact (HO3.out.lt g rfl).2
            obtain ⟨b2, o2, hb1, hB2', f0, f1, f2, f3, f4, f5, f6, f7⟩ := ((HA.out.below HB3.out).below (hb4.mono HB3.out.size)).elem hlt
            rw [hs] at f0 f1 f2 f3 f4 f5 f6 f7
            subst hb1
            have HB4 := Lib.hid (HB3.out.trans (hb4.mono HB3.out.size)); clear hb4
            have i3 : (n : Int) < (L.length : Int) := by omega
            have i4 : (0 : Int) ≤ (n : Int) := by omega
            go_wp2
            go_region_law (first
              | (refine step_append_rd _ rfl (.tmp 40) (.tmp 45) 22 rfl w.heap.size 29 i0 _ 8 80 Try.underlying22 hi0 hz0 hz1 HZ2.out rfl (by omega) (.slice (some ⟨g, 0, none⟩) cap cap) cap (flatL (R.take cap)) (by simp [Act.eval]) (HO4.out.drew.alloc _) _ _ 1 1 (flatL [s]) (by simp [Act.eval]) rfl (Rd.own (World.ownsRow_lit (base := 0) (e := 29) (size := 8) _ s.c 1 (Nat.zero_le _) (by decide) rfl)) (flatL_one _) (by unfold maxLen; omega) (by omega) (by simp; exact Nat.le_succ_of_le HB4.out.size) ?_
                 intro v5 w5 hown5 hg5 hat5
                 have HO5 := Lib.hid hown5; have HG5 := Lib.hid hg5; have HA5 := Lib.hid hat5; clear hown5 hg5 hat5)
              | (have hs5 : w4.heap.size + 1 ≤ w5.heap.size := by have := HG5.out.size; simpa using this
                 have hbs6 : w.heap.size ≤ w5.heap.size := by have := HB4.out.size; omega
                 have hne : g4 ≠ g := by have := HG4.out; have := hgl.out; omega
                 have hrow : w5.ownsRow w.heap.size 29 8 (.slice (some ⟨g4, 0, none⟩) 0 cap4) 0 (flatL (R.drop cap)) := by
                   have := (HO4r.out.drew.alloc (.cells s.c 29)).kept HG5.out (.inr (by simp [Value.ownBlock]; exact hne))
                   simpa using this
                 have HROW := Lib.hid hrow
                 clear hrow hne hs5
                 refine step_append_rd _ rfl (.tmp 46) (.tmp 47) 22 rfl w.heap.size 29 i0 _ 8 80 Try.underlying22 hi0 hz0 hz1 HZ2.out rfl (by omega) v5 (cap + 1) (flatL (R.take cap) ++ flatL [s]) (by simp [Act.eval]) HO5.out w5.heap.size (some ⟨g4, 0, none⟩) 0 cap4 (flatL (R.drop cap)) (by simp [Act.eval]) (by rw [flatL_length, List.length_drop, hRl.out]; omega) (Rd.own HROW.out) (flatL_one _) (by unfold maxLen; omega) (by omega) hbs6 ?_
                 intro v6 w6 hown6 hg6 hat6
                 have HO6 := Lib.hid hown6; have HG6 := Lib.hid hg6; have HA6 := Lib.hid hat6; clear hown6 hg6 hat6))
            have hfin : ∃ g6 cap6, v6 = .slice (some ⟨g6, 0, none⟩) (n + 1) cap6 ∧ w6.ownsRow w.heap.size 29 8 v6 (n + 1) (flatL (sortL (L.take (n + 1)))) ∧ RowKit.Below w.heap.size w w6 := by
              have e1 : cap + 1 + 0 = n + 1 := by have := HNK.out; omega
              have e2 : (flatL (R.take cap) ++ flatL [s]) ++ flatL (R.drop cap) = flatL (sortL (L.take (n + 1))) := by
                rw [← HLE.out]; simp [flatL]
              have hown := HO6.out
              rw [e1, e2] at hown
              obtain ⟨g5, h5⟩ : ∃ g5, v5.ownBlock = some g5 := by rcases HA5.out with h | h <;> exact ⟨_, h⟩
              obtain ⟨g6, h6⟩ : ∃ g6, v6.ownBlock = some g6 := by
                rcases HA6.out with h | h
                · exact ⟨g5, by rw [h, h5]⟩
                · exact ⟨_, h⟩
              obtain ⟨_, _, cap6, hv, _, _⟩ := own_shape hown h6
              refine ⟨g6, cap6, hv, hown, ?_⟩
              have b5 : RowKit.Below w.heap.size w w5 := ((HB4.out.alloc HB4.out.size _).drew).grown HG5.out (by simp; exact Nat.le_succ_of_le HB4.out.size) (by intro k hk; exact (HO4.out.lt k hk).1)
              exact b5.grown HG6.out b5.size (by intro k hk; exact (HO5.out.lt k hk).1)
            clear HO6 HG6 HA6 HO5 HG5 HA5 HROW hbs6
            obtain ⟨g6, cap6, rfl, hown6, hb6⟩ := hfin
            have HOF := Lib.hid hown6; have HBF := Lib.hid hb6; clear hown6 hb6
            clear f0 f1 f2 f3 f4 f5 f6 f7
            go_wp2
            go_roundw
            case rel => exact ⟨n + 1, g6, cap6, by omega, by go_num, rfl, HOF.out, HBF.out⟩
            case measure => simp [intOf]; omega
          · have hcap' : ((cap : Int) == (k' : Int)) = false := by simp; omega
            have HR3 : Hid (Rd (W3.alloc (.cells #[] 29)) (W3.heap.size + 1) (some ⟨g, 0 + k' * 8, none⟩) (flatL (R.drop k'))) := by
              show Rd _ _ _ _
              rw [← flatL_drop]
              exact (((Rd.own HO3.out).below ((RowKit.Below.refl _ _).alloc (Nat.le_refl _) _)).more (by omega)).drop _
            go_wp2_with (at_builtin
                         refine wpList_append_rd _ rfl (.tmp 33) (.tmp 36) 22 rfl w.heap.size 29 i0 _ 8 80 Try.underlying22 hi0 hz0 hz1 HZ2.out rfl (by omega) (.slice (some ⟨W3.heap.size, 0, none⟩) 0 0) 0 [] rfl (World.ownsRow_made W3 #[] 0 HB3.out.size (by decide) rfl) (W3.heap.size + 1) _ (n - k') _ (flatL (R.drop k')) rfl (by rw [flatL_length, List.length_drop, hRl.out]) (by simpa using HR3.out) (flatL_one _) (by unfold maxLen; omega) (by omega) (by have := HB3.out.size; simp; omega) ?_
                         intro v4 w4 hown4 hg4 hat4
                         obtain ⟨g4, hv4⟩ : ∃ g4, v4.ownBlock = some g4 := by rcases hat4 with h | h <;> exact ⟨_, h⟩
                         have hg4' : W3.heap.size ≤ g4 := by rcases hat4 with h | h <;> (rw [h] at hv4; simp [Value.ownBlock] at hv4; omega)
                         obtain ⟨_, hg4s, cap4, rfl, _, _⟩ := own_shape hown4 hv4
                         have hb4 : RowKit.Below W3.heap.size W3 w4 := ((RowKit.Below.refl _ _).alloc (Nat.le_refl _) _).grown hg4 (by simp) (by intro k hk; simp [Value.ownBlock] at hk; omega)
                         have HO4r := Lib.hid hown4
                         have HG4 := Lib.hid hg4'
                         clear hown4 hg4 hat4 hv4 hg4')
            have HO4 := Lib.hid (own_take (own_below HO3.out hb4) (k := k') (by omega))
            rw [flatL_take] at HO4
            have hgl : Hid (g < W3.heap.size) := by
              exact (HO3.out.lt g rfl).2
            obtain ⟨b2, o2, hb1, hB2', f0, f1, f2, f3, f4, f5, f6, f7⟩ := ((HA.out.below HB3.out).below (hb4.mono HB3.out.size)).elem hlt
            rw [hs] at f0 f1 f2 f3 f4 f5 f6 f7
            subst hb1
            have HB4 := Lib.hid (HB3.out.trans (hb4.mono HB3.out.size)); clear hb4
            have i3 : (n : Int) < (L.length : Int) := by omega
            have i4 : (0 : Int) ≤ (n : Int) := by omega
            go_wp2
            go_region_law (first
              | (refine step_append_rd _ rfl (.tmp 40) (.tmp 45) 22 rfl w.heap.size 29 i0 _ 8 80 Try.underlying22 hi0 hz0 hz1 HZ2.out rfl (by omega) (.slice (some ⟨g, 0, none⟩) k' cap) k' (flatL (R.take k')) (by simp [Act.eval]) (HO4.out.drew.alloc _) _ _ 1 1 (flatL [s]) (by simp [Act.eval]) rfl (Rd.own (World.ownsRow_lit (base := 0) (e := 29) (size := 8) _ s.c 1 (Nat.zero_le _) (by decide) rfl)) (flatL_one _) (by unfold maxLen; omega) (by omega) (by simp; exact Nat.le_succ_of_le HB4.out.size) ?_
                 intro v5 w5 hown5 hg5 hat5
                 have HO5 := Lib.hid hown5; have HG5 := Lib.hid hg5; have HA5 := Lib.hid hat5; clear hown5 hg5 hat5)
              | (have hs5 : w4.heap.size + 1 ≤ w5.heap.size := by have := HG5.out.size; simpa using this
                 have hbs6 : w.heap.size ≤ w5.heap.size := by have := HB4.out.size; omega
                 have hne : g4 ≠ g := by have := HG4.out; have := hgl.out; omega
                 have hrow : w5.ownsRow w.heap.size 29 8 (.slice (some ⟨g4, 0, none⟩) (n - k') cap4) (n - k') (flatL (R.drop k')) := by
                   have := (HO4r.out.drew.alloc (.cells s.c 29)).kept HG5.out (.inr (by simp [Value.ownBlock]; exact hne))
                   simpa using this
                 have HROW := Lib.hid hrow
                 clear hrow hne hs5
                 refine step_append_rd _ rfl (.tmp 46) (.tmp 47) 22 rfl w.heap.size 29 i0 _ 8 80 Try.underlying22 hi0 hz0 hz1 HZ2.out rfl (by omega) v5 (k' + 1) (flatL (R.take k') ++ flatL [s]) (by simp [Act.eval]) HO5.out w5.heap.size (some ⟨g4, 0, none⟩) (n - k') cap4 (flatL (R.drop k')) (by simp [Act.eval]) (by rw [flatL_length, List.length_drop, hRl.out]) (Rd.own HROW.out) (flatL_one _) (by unfold maxLen; omega) (by omega) hbs6 ?_
                 intro v6 w6 hown6 hg6 hat6
                 have HO6 := Lib.hid hown6; have HG6 := Lib.hid hg6; have HA6 := Lib.hid hat6; clear hown6 hg6 hat6))
            have hfin : ∃ g6 cap6, v6 = .slice (some ⟨g6, 0, none⟩) (n + 1) cap6 ∧ w6.ownsRow w.heap.size 29 8 v6 (n + 1) (flatL (sortL (L.take (n + 1)))) ∧ RowKit.Below w.heap.size w w6 := by
              have e1 : k' + 1 + (n - k') = n + 1 := by omega
              have e2 : (flatL (R.take k') ++ flatL [s]) ++ flatL (R.drop k') = flatL (sortL (L.take (n + 1))) := by
                rw [← HLE.out]; simp [flatL]
              have hown := HO6.out
              rw [e1, e2] at hown
              obtain ⟨g5, h5⟩ : ∃ g5, v5.ownBlock = some g5 := by rcases HA5.out with h | h <;> exact ⟨_, h⟩
              obtain ⟨g6, h6⟩ : ∃ g6, v6.ownBlock = some g6 := by
                rcases HA6.out with h | h
                · exact ⟨g5, by rw [h, h5]⟩
                · exact ⟨_, h⟩
              obtain ⟨_, _, cap6, hv, _, _⟩ := own_shape hown h6
              refine ⟨g6, cap6, hv, hown, ?_⟩
              have b5 : RowKit.Below w.heap.size w w5 := ((HB4.out.alloc HB4.out.size _).drew).grown HG5.out (by simp; exact Nat.le_succ_of_le HB4.out.size) (by intro k hk; exact (HO4.out.lt k hk).1)
              exact b5.grown HG6.out b5.size (by intro k hk; exact (HO5.out.lt k hk).1)
            clear HO6 HG6 HA6 HO5 HG5 HA5 HROW hbs6
            obtain ⟨g6, cap6, rfl, hown6, hb6⟩ := hfin
            have HOF := Lib.hid hown6; have HBF := Lib.hid hb6; clear hown6 hb6
            clear f0 f1 f2 f3 f4 f5 f6 f7
            go_wp2
            go_roundw
            case rel => exact ⟨n + 1, g6, cap6, by omega, by go_num, rfl, HOF.out, HBF.out⟩
            case measure => simp [intOf]; omega
        case pos =>
          have hjR : k' - 1 < R.length := by have := hRl.out; omega
          obtain ⟨b1, o1, ha1, hB1, e0, e1, e2, e3, e4, e5, e6, e7⟩ := (Rd.own (own_below HO.out HB2.out)).elem hjR
          obtain ⟨rfl, rfl⟩ : g = b1 ∧ o1 = 0 := by injection ha1 with h; injection h; simp_all
          clear ha1
          simp only [Nat.zero_add] at e0 e1 e2 e3 e4 e5 e6 e7
          obtain ⟨b2, o2, hb1, hB2', f0, f1, f2, f3, f4, f5, f6, f7⟩ := ((HA.out.below HB.out).below (HB2.out.mono HB.out.size)).elem hlt
          subst hb1
          have hp1 : decide ((0 : Int) < (k' : Int)) = true := by simpa using hpos
          have OKs := Lib.hid (HOK.out L[n] (List.getElem_mem _))
          have OKr : Hid ((R[k' - 1]).Ok) := by
            have hm : R[k' - 1] ∈ sortL (L.take n) := by have h := HR.out; subst h; exact List.getElem_mem _
            exact HOK.out _ (List.mem_of_mem_take ((sortL_perm _).mem_iff.1 hm))
          have q1 : g < W2.heap.size := hB1
          have q2 : b2 < W2.heap.size := by have := HB.out.size; have := HB2.out.size; omega
          have i1 : (0 : Int) ≤ (k' : Int) - 1 := by omega
          have i2 : (k' : Int) - 1 < (n : Int) := by omega
          have i3 : (n : Int) < (L.length : Int) := by omega
          have i4 : (0 : Int) ≤ (n : Int) := by omega
          have i5 : IntKind.i64.wrap ((k' : Int) - 1) = (k' : Int) - 1 := IntWalk.i64_in _ (by omega)
          have i6 : ((k' : Int) - 1).toNat = k' - 1 := by omega
          have hcg : ∀ d os m o, m < W2.heap.size → (grow (redrawn W2 d) os).cell? ⟨m, o, none⟩ = W2.cell? ⟨m, o, none⟩ := fun d os m o h => (below_regrown W2 d os).cell h
          go_wp2
          refine wp_region_quiet_below (by kernel_rfl) (by kernel_rfl) ?_
          generalize hr : R[k' - 1] = r at *
          generalize hs : L[n] = s at *
          iterate 15 (first | go_big_quiet_step ((go_at_call 13; exact Calls.regrown_of (refCmp_any r s _ OKr.out.host OKs.out.host OKr.out.name OKs.out.name))) | fail)
          refine wpQuiet_nil ?_
          intro W3 hw3
          obtain ⟨⟨d, os⟩, hw3'⟩ := hw3
          have hb3 := below_regrown W2 d os
          rw [← hw3'] at hb3
          clear hw3' hcg
          by_cases hx : 0 < cmpI r s
          · have HX : Hid (∀ j (h : j < R.length), k' - 1 ≤ j → 0 < cmpI R[j] s) := by
              intro j h hj
              by_cases e : j = k' - 1
              · subst e; rw [hr]; exact hx
              · exact HG.out j h (by omega)
            clear e0 e1 e2 e3 e4 e5 e6 e7 f0 f1 f2 f3 f4 f5 f6 f7
            go_wp2
            go_roundw
            case rel => exact ⟨k' - 1, by omega, by congr 1; omega, (by intro j h hj; rw [hs]; exact HX.out j h hj), HB2.out.trans (hb3.mono HB2.out.size)⟩
            case measure => simp [intOf]; omega
          have hle : ∀ j (h : j < R.length), j + 1 = k' → cmpI R[j] s ≤ 0 := fun j h e => by
            have e2 : j = k' - 1 := by omega
            subst e2; rw [hr]; omega
          clear e0 e1 e2 e3 e4 e5 e6 e7 f0 f1 f2 f3 f4 f5 f6 f7 q1 q2 i1 i2 i3 i4 i5 i6 hB1 hB2' hr hjR OKs OKr
          have HLE := Lib.hid (insert_at' hlt hs HR.out hk' HG.out hle)
          have HO3 := Lib.hid (own_below HO.out (HB2.out.trans (hb3.mono HB2.out.size)))
          have HB3 := Lib.hid (HB.out.trans ((HB2.out.trans (hb3.mono HB2.out.size)).mono HB.out.size))
          clear hb3 hle
          have i1 : (0 : Int) ≤ (k' : Int) := by omega
          have i2 : (k' : Int) ≤ (n : Int) := by omega
          have hnc : n ≤ cap := by
            obtain ⟨_, _, cap', hv, h1, _⟩ := own_shape HO3.out rfl
            obtain rfl : cap = cap' := by injection hv
            exact h1
          have hkc : k' ≤ cap := by omega
          by_cases hcap : cap = k'
          · subst hcap
            have hnk : n = cap := by omega
            have HR3 : Hid (Rd (W3.alloc (.cells #[] 29)) (W3.heap.size + 1) (some ⟨g, 0, none⟩) (flatL (R.drop cap))) := by
              show Rd _ _ _ _
              rw [List.drop_of_length_le (by have := hRl.out; omega)]
              exact Rd.nil _ _ _
            have HNK := Lib.hid hnk; clear hnk
            go_wp2_with (at_builtin
                         refine wpList_append_rd _ rfl (.tmp 33) (.tmp 36) 22 rfl w.heap.size 29 i0 _ 8 80 Try.underlying22 hi0 hz0 hz1 HZ2.out rfl (by omega) (.slice (some ⟨W3.heap.size, 0, none⟩) 0 0) 0 [] rfl (World.ownsRow_made W3 #[] 0 HB3.out.size (by decide) rfl) (W3.heap.size + 1) _ 0 _ (flatL (R.drop cap)) rfl (by rw [flatL_length, List.length_drop, hRl.out]; omega) (by simpa using HR3.out) (flatL_one _) (by unfold maxLen; omega) (by omega) (by have := HB3.out.size; simp; omega) ?_
                         intro v4 w4 hown4 hg4 hat4
                         obtain ⟨g4, hv4⟩ : ∃ g4, v4.ownBlock = some g4 := by rcases hat4 with h | h <;> exact ⟨_, h⟩
                         have hg4' : W3.heap.size ≤ g4 := by rcases hat4 with h | h <;> (rw [h] at hv4; simp [Value.ownBlock] at hv4; omega)
                         obtain ⟨_, hg4s, cap4, rfl, _, _⟩ := own_shape hown4 hv4
                         have hb4 : RowKit.Below W3.heap.size W3 w4 := ((RowKit.Below.refl _ _).alloc (Nat.le_refl _) _).grown hg4 (by simp) (by intro k hk; simp [Value.ownBlock] at hk; omega)
                         have HO4r := Lib.hid hown4
                         have HG4 := Lib.hid hg4'
                         clear hown4 hg4 hat4 hv4 hg4')
            have HO4 := Lib.hid (own_take (own_below HO3.out hb4) (k := cap) (by omega))
            rw [flatL_take] at HO4
            have hgl : Hid (g < W3.heap.size) := by
              exact (HO3.out.lt g rfl).2
            obtain ⟨b2, o2, hb1, hB2', f0, f1, f2, f3, f4, f5, f6, f7⟩ := ((HA.out.below HB3.out).below (hb4.mono HB3.out.size)).elem hlt
            rw [hs] at f0 f1 f2 f3 f4 f5 f6 f7
            (injection hb1 with hb1; injection hb1 with hy1 hy2; subst hy1 hy2)
            have HB4 := Lib.hid (HB3.out.trans (hb4.mono HB3.out.size)); clear hb4
            have i3 : (n : Int) < (L.length : Int) := by omega
            have i4 : (0 : Int) ≤ (n : Int) := by omega
            go_wp2
            go_region_law (first
              | (refine step_append_rd _ rfl (.tmp 40) (.tmp 45) 22 rfl w.heap.size 29 i0 _ 8 80 Try.underlying22 hi0 hz0 hz1 HZ2.out rfl (by omega) (.slice (some ⟨g, 0, none⟩) cap cap) cap (flatL (R.take cap)) (by simp [Act.eval]) (HO4.out.drew.alloc _) _ _ 1 1 (flatL [s]) (by simp [Act.eval]) rfl (Rd.own (World.ownsRow_lit (base := 0) (e := 29) (size := 8) _ s.c 1 (Nat.zero_le _) (by decide) rfl)) (flatL_one _) (by unfold maxLen; omega) (by omega) (by simp; exact Nat.le_succ_of_le HB4.out.size) ?_
                 intro v5 w5 hown5 hg5 hat5
                 have HO5 := Lib.hid hown5; have HG5 := Lib.hid hg5; have HA5 := Lib.hid hat5; clear hown5 hg5 hat5)
              | (have hs5 : w4.heap.size + 1 ≤ w5.heap.size := by have := HG5.out.size; simpa using this
                 have hbs6 : w.heap.size ≤ w5.heap.size := by have := HB4.out.size; omega
                 have hne : g4 ≠ g := by have := HG4.out; have := hgl.out; omega
                 have hrow : w5.ownsRow w.heap.size 29 8 (.slice (some ⟨g4, 0, none⟩) 0 cap4) 0 (flatL (R.drop cap)) := by
                   have := (HO4r.out.drew.alloc (.cells s.c 29)).kept HG5.out (.inr (by simp [Value.ownBlock]; exact hne))
                   simpa using this
                 have HROW := Lib.hid hrow
                 clear hrow hne hs5
                 refine step_append_rd _ rfl (.tmp 46) (.tmp 47) 22 rfl w.heap.size 29 i0 _ 8 80 Try.underlying22 hi0 hz0 hz1 HZ2.out rfl (by omega) v5 (cap + 1) (flatL (R.take cap) ++ flatL [s]) (by simp [Act.eval]) HO5.out w5.heap.size (some ⟨g4, 0, none⟩) 0 cap4 (flatL (R.drop cap)) (by simp [Act.eval]) (by rw [flatL_length, List.length_drop, hRl.out]; omega) (Rd.own HROW.out) (flatL_one _) (by unfold maxLen; omega) (by omega) hbs6 ?_
                 intro v6 w6 hown6 hg6 hat6
                 have HO6 := Lib.hid hown6; have HG6 := Lib.hid hg6; have HA6 := Lib.hid hat6; clear hown6 hg6 hat6))
            have hfin : ∃ g6 cap6, v6 = .slice (some ⟨g6, 0, none⟩) (n + 1) cap6 ∧ w6.ownsRow w.heap.size 29 8 v6 (n + 1) (flatL (sortL (L.take (n + 1)))) ∧ RowKit.Below w.heap.size w w6 := by
              have e1 : cap + 1 + 0 = n + 1 := by have := HNK.out; omega
              have e2 : (flatL (R.take cap) ++ flatL [s]) ++ flatL (R.drop cap) = flatL (sortL (L.take (n + 1))) := by
                rw [← HLE.out]; simp [flatL]
              have hown := HO6.out
              rw [e1, e2] at hown
              obtain ⟨g5, h5⟩ : ∃ g5, v5.ownBlock = some g5 := by rcases HA5.out with h | h <;> exact ⟨_, h⟩
              obtain ⟨g6, h6⟩ : ∃ g6, v6.ownBlock = some g6 := by
                rcases HA6.out with h | h
                · exact ⟨g5, by rw [h, h5]⟩
                · exact ⟨_, h⟩
              obtain ⟨_, _, cap6, hv, _, _⟩ := own_shape hown h6
              refine ⟨g6, cap6, hv, hown, ?_⟩
              have b5 : RowKit.Below w.heap.size w w5 := ((HB4.out.alloc HB4.out.size _).drew).grown HG5.out (by simp; exact Nat.le_succ_of_le HB4.out.size) (by intro k hk; exact (HO4.out.lt k hk).1)
              exact b5.grown HG6.out b5.size (by intro k hk; exact (HO5.out.lt k hk).1)
            clear HO6 HG6 HA6 HO5 HG5 HA5 HROW hbs6
            obtain ⟨g6, cap6, rfl, hown6, hb6⟩ := hfin
            have HOF := Lib.hid hown6; have HBF := Lib.hid hb6; clear hown6 hb6
            clear f0 f1 f2 f3 f4 f5 f6 f7
            go_wp2
            go_roundw
            case rel => exact ⟨n + 1, g6, cap6, by omega, by go_num, rfl, HOF.out, HBF.out⟩
            case measure => simp [intOf]; omega
          · have hcap' : ((cap : Int) == (k' : Int)) = false := by simp; omega
            have HR3 : Hid (Rd (W3.alloc (.cells #[] 29)) (W3.heap.size + 1) (some ⟨g, 0 + k' * 8, none⟩) (flatL (R.drop k'))) := by
              show Rd _ _ _ _
              rw [← flatL_drop]
              exact (((Rd.own HO3.out).below ((RowKit.Below.refl _ _).alloc (Nat.le_refl _) _)).more (by omega)).drop _
            go_wp2_with (at_builtin
                         refine wpList_append_rd _ rfl (.tmp 33) (.tmp 36) 22 rfl w.heap.size 29 i0 _ 8 80 Try.underlying22 hi0 hz0 hz1 HZ2.out rfl (by omega) (.slice (some ⟨W3.heap.size, 0, none⟩) 0 0) 0 [] rfl (World.ownsRow_made W3 #[] 0 HB3.out.size (by decide) rfl) (W3.heap.size + 1) _ (n - k') _ (flatL (R.drop k')) rfl (by rw [flatL_length, List.length_drop, hRl.out]) (by simpa using HR3.out) (flatL_one _) (by unfold maxLen; omega) (by omega) (by have := HB3.out.size; simp; omega) ?_
                         intro v4 w4 hown4 hg4 hat4
                         obtain ⟨g4, hv4⟩ : ∃ g4, v4.ownBlock = some g4 := by rcases hat4 with h | h <;> exact ⟨_, h⟩
                         have hg4' : W3.heap.size ≤ g4 := by rcases hat4 with h | h <;> (rw [h] at hv4; simp [Value.ownBlock] at hv4; omega)
                         obtain ⟨_, hg4s, cap4, rfl, _, _⟩ := own_shape hown4 hv4
                         have hb4 : RowKit.Below W3.heap.size W3 w4 := ((RowKit.Below.refl _ _).alloc (Nat.le_refl _) _).grown hg4 (by simp) (by intro k hk; simp [Value.ownBlock] at hk; omega)
                         have HO4r := Lib.hid hown4
                         have HG4 := Lib.hid hg4'
                         clear hown4 hg4 hat4 hv4 hg4')
            have HO4 := Lib.hid (own_take (own_below HO3.out hb4) (k := k') (by omega))
            rw [flatL_take] at HO4
            have hgl : Hid (g < W3.heap.size) := by
              exact (HO3.out.lt g rfl).2
            obtain ⟨b2, o2, hb1, hB2', f0, f1, f2, f3, f4, f5, f6, f7⟩ := ((HA.out.below HB3.out).below (hb4.mono HB3.out.size)).elem hlt
            rw [hs] at f0 f1 f2 f3 f4 f5 f6 f7
            (injection hb1 with hb1; injection hb1 with hy1 hy2; subst hy1 hy2)
            have HB4 := Lib.hid (HB3.out.trans (hb4.mono HB3.out.size)); clear hb4
            have i3 : (n : Int) < (L.length : Int) := by omega
            have i4 : (0 : Int) ≤ (n : Int) := by omega
            go_wp2
            go_region_law (first
              | (refine step_append_rd _ rfl (.tmp 40) (.tmp 45) 22 rfl w.heap.size 29 i0 _ 8 80 Try.underlying22 hi0 hz0 hz1 HZ2.out rfl (by omega) (.slice (some ⟨g, 0, none⟩) k' cap) k' (flatL (R.take k')) (by simp [Act.eval]) (HO4.out.drew.alloc _) _ _ 1 1 (flatL [s]) (by simp [Act.eval]) rfl (Rd.own (World.ownsRow_lit (base := 0) (e := 29) (size := 8) _ s.c 1 (Nat.zero_le _) (by decide) rfl)) (flatL_one _) (by unfold maxLen; omega) (by omega) (by simp; exact Nat.le_succ_of_le HB4.out.size) ?_
                 intro v5 w5 hown5 hg5 hat5
                 have HO5 := Lib.hid hown5; have HG5 := Lib.hid hg5; have HA5 := Lib.hid hat5; clear hown5 hg5 hat5)
              | (have hs5 : w4.heap.size + 1 ≤ w5.heap.size := by have := HG5.out.size; simpa using this
                 have hbs6 : w.heap.size ≤ w5.heap.size := by have := HB4.out.size; omega
                 have hne : g4 ≠ g := by have := HG4.out; have := hgl.out; omega
                 have hrow : w5.ownsRow w.heap.size 29 8 (.slice (some ⟨g4, 0, none⟩) (n - k') cap4) (n - k') (flatL (R.drop k')) := by
                   have := (HO4r.out.drew.alloc (.cells s.c 29)).kept HG5.out (.inr (by simp [Value.ownBlock]; exact hne))
                   simpa using this
                 have HROW := Lib.hid hrow
                 clear hrow hne hs5
                 refine step_append_rd _ rfl (.tmp 46) (.tmp 47) 22 rfl w.heap.size 29 i0 _ 8 80 Try.underlying22 hi0 hz0 hz1 HZ2.out rfl (by omega) v5 (k' + 1) (flatL (R.take k') ++ flatL [s]) (by simp [Act.eval]) HO5.out w5.heap.size (some ⟨g4, 0, none⟩) (n - k') cap4 (flatL (R.drop k')) (by simp [Act.eval]) (by rw [flatL_length, List.length_drop, hRl.out]) (Rd.own HROW.out) (flatL_one _) (by unfold maxLen; omega) (by omega) hbs6 ?_
                 intro v6 w6 hown6 hg6 hat6
                 have HO6 := Lib.hid hown6; have HG6 := Lib.hid hg6; have HA6 := Lib.hid hat6; clear hown6 hg6 hat6))
            have hfin : ∃ g6 cap6, v6 = .slice (some ⟨g6, 0, none⟩) (n + 1) cap6 ∧ w6.ownsRow w.heap.size 29 8 v6 (n + 1) (flatL (sortL (L.take (n + 1)))) ∧ RowKit.Below w.heap.size w w6 := by
              have e1 : k' + 1 + (n - k') = n + 1 := by omega
              have e2 : (flatL (R.take k') ++ flatL [s]) ++ flatL (R.drop k') = flatL (sortL (L.take (n + 1))) := by
                rw [← HLE.out]; simp [flatL]
              have hown := HO6.out
              rw [e1, e2] at hown
              obtain ⟨g5, h5⟩ : ∃ g5, v5.ownBlock = some g5 := by rcases HA5.out with h | h <;> exact ⟨_, h⟩
              obtain ⟨g6, h6⟩ : ∃ g6, v6.ownBlock = some g6 := by
                rcases HA6.out with h | h
                · exact ⟨g5, by rw [h, h5]⟩
                · exact ⟨_, h⟩
              obtain ⟨_, _, cap6, hv, _, _⟩ := own_shape hown h6
              refine ⟨g6, cap6, hv, hown, ?_⟩
              have b5 : RowKit.Below w.heap.size w w5 := ((HB4.out.alloc HB4.out.size _).drew).grown HG5.out (by simp; exact Nat.le_succ_of_le HB4.out.size) (by intro k hk; exact (HO4.out.lt k hk).1)
              exact b5.grown HG6.out b5.size (by intro k hk; exact (HO5.out.lt k hk).1)
            clear HO6 HG6 HA6 HO5 HG5 HA5 HROW hbs6
            obtain ⟨g6, cap6, rfl, hown6, hb6⟩ := hfin
            have HOF := Lib.hid hown6; have HBF := Lib.hid hb6; clear hown6 hb6
            clear f0 f1 f2 f3 f4 f5 f6 f7
            go_wp2
            go_roundw
            case rel => exact ⟨n + 1, g6, cap6, by omega, by go_num, rfl, HOF.out, HBF.out⟩
            case measure => simp [intOf]; omega
    · have HNN : n = L.length := by omega
      subst HNN
      have hown := HO.out
      rw [List.take_length] at hown
      have HF := Lib.hid hown; clear hown
      go_wp2
      go_ret
      exact ⟨_, rfl, HF.out, HB.out⟩
end Go.Proofs.Ythpdaimeaomnkaa
