import Derived.Test.YteaafjkgopmmdaaDf
import Derived.Test.YteaafjkgopmmdaaDg
import Derived.Test.YteaafjkgopmmdaaOc
import Derived.Deep.RegionLaw
import Derived.IntWalk
namespace Go.Proofs.Yteaafjkgopmmdaa
open Go Go.RowKit Go.Sort Go.Shelf
set_option maxRecDepth 20000
set_option linter.unusedVariables false

theorem refPlace_is (a : Option Addr) (c m : Nat) (K : List Tx) (s : ByteArray) (w : World) (hm : K.length = m) (ha : Rd w w.heap.size a (strV K)) (hl : m ≤ maxLen) :
    Calls Try.prog 30 #[.slice a m c, .string s] w fun e w' => e = .returned (.int .i64 (placeL K (txt s))) ∧ Below w.heap.size w w' := by
  subst hm; exact refPlace_any a c K s w ha hl
theorem Once.len {K l : List Tx} (h : Once K (· ∈ l)) : K.length ≤ l.length := by rw [h.is]; exact onceL_length l
theorem map_take {L : List Sp} {n : Nat} (h : n < L.length) : (L.take (n + 1)).map hostT = (L.take n).map hostT ++ [hostT L[n]] := by
  rw [List.take_succ_eq_append_getElem h, List.map_append]; rfl

set_option maxHeartbeats 4000000 in
theorem refHosts_any (a : Option Addr) (c : Nat) (L : List Sp) (w : World) (ha : Rd w w.heap.size a (flatL L)) (hl : L.length ≤ 100000) (hok : ∀ s ∈ L, s.Ok) :
    Calls Try.prog 29 #[.slice a L.length c] w fun e w' => ∃ v, e = .returned v ∧ w'.ownsRow w.heap.size 9 1 v (hostsL L).length (strV (hostsL L)) ∧ Below w.heap.size w w' := by
  obtain ⟨i0, hi0, hz0, hz1, hz2⟩ := info_parts info_str
  have HZ2 := Lib.hid hz2; clear hz2
  have HA := Lib.hid ha; have HOK := Lib.hid hok; clear ha hok
  go_enter Try.func29, Try.ntmps29
  go_wp2_with fail
  go_loopw [3, 4] (fun v i wr => ∃ (n m g cap : Nat) (K : List Tx), n ≤ L.length ∧ i = .int .i64 n ∧ v = .slice (some ⟨g, 0, none⟩) m cap ∧ Hid (K.length = m) ∧ Once K (· ∈ (L.take n).map hostT) ∧ wr.ownsRow w.heap.size 9 1 v m (strV K) ∧ Below w.heap.size w wr) (fun _ i _ => L.length - (intOf i).toNat)
  case atStart =>
    exact ⟨0, 0, _, _, [], Nat.zero_le _, rfl, rfl, Lib.hid rfl, ⟨.nil, by simp⟩, World.ownsRow_made w #[] 0 (Nat.le_refl _) (by decide) rfl, box1 _ _⟩
  case round =>
    obtain ⟨n, m, g, cap, K, hn, rfl, rfl, HKm, hon, hown, hb⟩ := hrel
    have hmn : m ≤ n := by have h := hon.len; have := HKm.out; rw [List.length_map, List.length_take] at h; omega
    have HON := Lib.hid hon; have HO := Lib.hid hown; have HB := Lib.hid hb; clear hon hown hb
    generalize wr = W0 at *
    by_cases hlt : n < L.length
    · have HMT := Lib.hid (map_take hlt)
      obtain ⟨b2, o2, hb1, hB2', f0, f1, f2, f3, f4, f5, f6, f7⟩ := (HA.out.below HB.out).elem hlt
      subst hb1
      have OKs := Lib.hid (HOK.out L[n] (List.getElem_mem _))
      generalize hs : L[n] = s at *
      have HS := Lib.hid hs; clear hs
      have HMT : Hid ((L.take (n + 1)).map hostT = (L.take n).map hostT ++ [txt s.host]) := HMT
      have i3 : (n : Int) < (L.length : Int) := by omega
      have i4 : (0 : Int) ≤ (n : Int) := by omega
      go_wp2_with fail
      refine (refPlace_is _ cap m K s.host W0 HKm.out (Rd.own HO.out) (by unfold maxLen; omega)).mono ?_
      rintro e W1 ⟨rfl, hb1⟩
      have HO1 := Lib.hid (own_below HO.out hb1); have HB1 := Lib.hid (bel2 HB.out hb1); clear hb1 f0 f1 f2 f3 f4 f5 f6 f7
      by_cases hin : txt s.host ∈ K
      · have hp : ¬ placeL K (txt s.host) < 0 := fun h => (placeL_neg _ _).1 h hin
        have hp2 : (0 : Int) ≤ placeL K (txt s.host) := by omega
        have HNX : Hid (Once K (· ∈ (L.take (n + 1)).map hostT)) := by
          refine ⟨HON.out.1, fun y => (HON.out.2 y).trans ?_⟩
          show y ∈ _ ↔ y ∈ _
          rw [HMT.out, List.mem_append, List.mem_singleton]
          exact ⟨.inl, fun h => h.elim id fun e => by rw [e]; exact (HON.out.2 _).1 hin⟩
        clear hin hp
        generalize placeL K (txt s.host) = pl at *
        go_wp2_with fail
        go_roundw
        case rel => exact ⟨n + 1, m, g, cap, K, by omega, by go_num, rfl, HKm, HNX.out, HO1.out, HB1.out⟩
        case measure => simp [intOf]; omega
      · have hp : placeL K (txt s.host) < 0 := (placeL_neg _ _).2 hin
        have hp2 : ¬ (0 : Int) ≤ placeL K (txt s.host) := by omega
        have HIN := Lib.hid hin
        clear hin
        generalize placeL K (txt s.host) = pl at *
        go_wp2_with fail
        go_loopw [5] (fun k wr2 => ∃ k' : Nat, k' ≤ m ∧ k = .int .i64 k' ∧ (∀ j (h : j < K.length), k' ≤ j → 0 < lexI K[j] (txt s.host)) ∧ RowKit.Below W1.heap.size W1 wr2) (fun k _ => (intOf k).toNat)
        case atStart => exact ⟨m, Nat.le_refl _, rfl, fun j h hj => by have := HKm.out; omega, RowKit.Below.refl _ _⟩
        case round =>
          obtain ⟨k', hk', rfl, hgt, hb2⟩ := hrel
          have HG := Lib.hid hgt; have HB2 := Lib.hid hb2; clear hgt hb2 hp hp2
          generalize wr = W2 at *
          by_cases hpos : 0 < k'
          case neg =>
            have hp0 : decide ((0 : Int) < (k' : Int)) = false := by simp; omega
            have hle : ∀ j (h : j < K.length), j + 1 = k' → lexI K[j] (txt s.host) ≤ 0 := fun j h e => by omega
            go_wp2
            refine wp_region_quiet_below (by kernel_rfl) (by kernel_rfl) ?_
            iterate 16 (first | go_big_quiet_step (fail) | fail)
            refine wpQuiet_nil ?_
            intro W3 hw3
            obtain ⟨⟨d, os⟩, hw3'⟩ := hw3
            have hb3 := below_regrown W2 d os
            rw [← hw3'] at hb3
            clear hw3'
            have HLE := Lib.hid (HON.out.insert HIN.out (by have := HKm.out; omega) HG.out hle)
            have HO3 := Lib.hid (own_below HO1.out (HB2.out.trans (hb3.mono HB2.out.size)))
            have HB3 := Lib.hid (HB1.out.trans ((HB2.out.trans (hb3.mono HB2.out.size)).mono HB1.out.size))
            clear hb3 hle
            have i1 : (0 : Int) ≤ (k' : Int) := by omega
            have i2 : (k' : Int) ≤ (m : Int) := by omega
            have hnc : m ≤ cap := by
              obtain ⟨_, _, cap', hv, h1, _⟩ := own_shape HO3.out rfl
              obtain rfl : cap = cap' := by injection hv
              exact h1
            have hkc : k' ≤ cap := by omega
            by_cases hcap : cap = k'
            · subst hcap
              have hnk : m = cap := by omega
              have HR3 : Hid (Rd (W3.alloc (.cells #[] 9)) (W3.heap.size + 1) (some ⟨g, 0, none⟩) (strV (K.drop cap))) := by
                show Rd _ _ _ _
                rw [List.drop_of_length_le (by have := HKm.out; omega)]
                exact Rd.nil _ _ _
              have HNK := Lib.hid hnk; clear hnk
              go_wp2_with (at_builtin
                           refine wpList_append_rd _ rfl (.tmp 42) (.tmp 45) 56 rfl w.heap.size 9 i0 _ 1 16 Try.underlying56 hi0 hz0 hz1 HZ2.out rfl (by omega) (.slice (some ⟨W3.heap.size, 0, none⟩) 0 0) 0 [] rfl (World.ownsRow_made W3 #[] 0 HB3.out.size (by decide) rfl) (W3.heap.size + 1) _ (0) _ (strV (K.drop cap)) rfl (by have := HNK.out; rw [strV_length, List.length_drop, HKm.out]; omega) (by simpa using HR3.out) (strV_one _) (by unfold maxLen; omega) (by omega) (by have := HB3.out.size; simp; omega) ?_
                           intro v4 w4 hown4 hg4 hat4
                           obtain ⟨g4, hv4⟩ : ∃ g4, v4.ownBlock = some g4 := by rcases hat4 with h | h <;> exact ⟨_, h⟩
                           have hg4' : W3.heap.size ≤ g4 := by rcases hat4 with h | h <;> (rw [h] at hv4; simp [Value.ownBlock] at hv4; omega)
                           obtain ⟨_, hg4s, cap4, rfl, _, _⟩ := own_shape hown4 hv4
                           have hb4 : RowKit.Below W3.heap.size W3 w4 := ((RowKit.Below.refl _ _).alloc (Nat.le_refl _) _).grown hg4 (by simp) (by intro k hk; simp [Value.ownBlock] at hk; omega)
                           have HO4r := Lib.hid hown4
                           have HG4 := Lib.hid hg4'
                           clear hown4 hg4 hat4 hv4 hg4')
              have HO4 := Lib.hid (own_take (own_below HO3.out hb4) (k := cap) (by omega))
              rw [strV_take, Nat.mul_one] at HO4
              have hgl : Hid (g < W3.heap.size) := (HO3.out.lt g rfl).2
              obtain ⟨b3, o3, hb5, hB3', f0, f1, f2, f3, f4, f5, f6, f7⟩ := ((HA.out.below HB3.out).below (hb4.mono HB3.out.size)).elem hlt
              rw [HS.out] at f0 f1 f2 f3 f4 f5 f6 f7
              (injection hb5 with hb5; injection hb5 with hy1 hy2; subst hy1 hy2)
              have HB4 := Lib.hid (HB3.out.trans (hb4.mono HB3.out.size)); clear hb4
              have i3 : (n : Int) < (L.length : Int) := by omega
              have i4 : (0 : Int) ≤ (n : Int) := by omega
              go_wp2
              go_region_law (first
                | (refine step_append_rd _ rfl (.tmp 49) (.tmp 55) 56 rfl w.heap.size 9 i0 _ 1 16 Try.underlying56 hi0 hz0 hz1 HZ2.out rfl (by omega) (.slice (some ⟨g, 0, none⟩) cap cap) cap (strV (K.take cap)) (by simp [Act.eval]) (HO4.out.drew.alloc _) _ _ 1 1 [.string s.host] (by simp [Act.eval]) rfl (Rd.own (World.ownsRow_lit (base := 0) (e := 9) (size := 1) _ #[.string s.host] 1 (Nat.zero_le _) (by decide) rfl)) (by intro u hu; obtain rfl := List.mem_singleton.1 hu; rfl) (by unfold maxLen; omega) (by omega) (by simp; exact Nat.le_succ_of_le HB4.out.size) ?_
                   intro v5 w5 hown5 hg5 hat5
                   have HO5 := Lib.hid hown5; have HG5 := Lib.hid hg5; have HA5 := Lib.hid hat5; clear hown5 hg5 hat5)
                | (have hs5 : w4.heap.size + 1 ≤ w5.heap.size := by have := HG5.out.size; simpa using this
                   have hbs6 : w.heap.size ≤ w5.heap.size := by have := HB4.out.size; omega
                   have hne : g4 ≠ g := by have := HG4.out; have := hgl.out; omega
                   have hrow : w5.ownsRow w.heap.size 9 1 (.slice (some ⟨g4, 0, none⟩) (0) cap4) (0) (strV (K.drop cap)) := by
                     have := (HO4r.out.drew.alloc (.cells #[.string s.host] 9)).kept HG5.out (.inr (by simp [Value.ownBlock]; exact hne))
                     simpa using this
                   have HROW := Lib.hid hrow
                   clear hrow hne hs5
                   refine step_append_rd _ rfl (.tmp 56) (.tmp 57) 56 rfl w.heap.size 9 i0 _ 1 16 Try.underlying56 hi0 hz0 hz1 HZ2.out rfl (by omega) v5 (cap + 1) (strV (K.take cap) ++ [.string s.host]) (by simp [Act.eval]) HO5.out w5.heap.size (some ⟨g4, 0, none⟩) (0) cap4 (strV (K.drop cap)) (by simp [Act.eval]) (by have := HNK.out; rw [strV_length, List.length_drop, HKm.out]; omega) (Rd.own HROW.out) (strV_one _) (by unfold maxLen; omega) (by omega) hbs6 ?_
                   intro v6 w6 hown6 hg6 hat6
                   have HO6 := Lib.hid hown6; have HG6 := Lib.hid hg6; have HA6 := Lib.hid hat6; clear hown6 hg6 hat6))
              have hfin : ∃ g6 cap6, v6 = .slice (some ⟨g6, 0, none⟩) (m + 1) cap6 ∧ w6.ownsRow w.heap.size 9 1 v6 (m + 1) (strV (K.take cap ++ txt s.host :: K.drop cap)) ∧ RowKit.Below w.heap.size w w6 := by
                have e1 : cap + 1 + (0) = m + 1 := by have := HNK.out; omega
                have e2 : (strV (K.take cap) ++ [.string s.host]) ++ strV (K.drop cap) = strV (K.take cap ++ txt s.host :: K.drop cap) := by
                  simp [strV, txt]
                have hown := HO6.out
                rw [e1, e2] at hown
                obtain ⟨g5, h5⟩ : ∃ g5, v5.ownBlock = some g5 := by rcases HA5.out with h | h <;> exact ⟨_, h⟩
                obtain ⟨g6, h6⟩ : ∃ g6, v6.ownBlock = some g6 := by
                  rcases HA6.out with h | h
                  · exact ⟨g5, by rw [h, h5]⟩
                  · exact ⟨_, h⟩
                obtain ⟨_, _, cap6, hv, _, _⟩ := own_shape hown h6
                refine ⟨g6, cap6, hv, hown, ?_⟩
                have b5 : RowKit.Below w.heap.size w w5 := ((HB4.out.alloc HB4.out.size _).drew).grown HG5.out (by simp; exact Nat.le_succ_of_le HB4.out.size) (by intro k hk; exact (HO4.out.lt k hk).1)
                exact b5.grown HG6.out b5.size (by intro k hk; exact (HO5.out.lt k hk).1)
              have HLF : Hid (Once (K.take cap ++ txt s.host :: K.drop cap) (· ∈ (L.take (n + 1)).map hostT)) := by
                have h := HLE.out
                rw [← HMT.out] at h
                exact h
              have HLL : Hid ((K.take cap ++ txt s.host :: K.drop cap).length = m + 1) := by
                show _ = _; have := HKm.out; have := HNK.out; simp; omega
              clear HO6 HG6 HA6 HO5 HG5 HA5 HROW hbs6
              obtain ⟨g6, cap6, rfl, hown6, hb6⟩ := hfin
              have HOF := Lib.hid hown6; have HBF := Lib.hid hb6; clear hown6 hb6
              clear f0 f1 f2 f3 f4 f5 f6 f7
              go_wp2
              go_roundw
              case rel => exact ⟨n + 1, m + 1, g6, cap6, _, by omega, by go_num, rfl, HLL, HLF.out, HOF.out, HBF.out⟩
              case measure => simp [intOf]; omega
            · have hcap' : ((cap : Int) == (k' : Int)) = false := by simp; omega
              have HR3 : Hid (Rd (W3.alloc (.cells #[] 9)) (W3.heap.size + 1) (some ⟨g, 0 + k', none⟩) (strV (K.drop k'))) := by
                show Rd _ _ _ _
                rw [← strV_drop]
                exact (((Rd.own HO3.out).below ((RowKit.Below.refl _ _).alloc (Nat.le_refl _) _)).more (by omega)).drop _
              go_wp2_with (at_builtin
                           refine wpList_append_rd _ rfl (.tmp 42) (.tmp 45) 56 rfl w.heap.size 9 i0 _ 1 16 Try.underlying56 hi0 hz0 hz1 HZ2.out rfl (by omega) (.slice (some ⟨W3.heap.size, 0, none⟩) 0 0) 0 [] rfl (World.ownsRow_made W3 #[] 0 HB3.out.size (by decide) rfl) (W3.heap.size + 1) _ (m - k') _ (strV (K.drop k')) rfl (by rw [strV_length, List.length_drop, HKm.out]; omega) (by simpa using HR3.out) (strV_one _) (by unfold maxLen; omega) (by omega) (by have := HB3.out.size; simp; omega) ?_
                           intro v4 w4 hown4 hg4 hat4
                           obtain ⟨g4, hv4⟩ : ∃ g4, v4.ownBlock = some g4 := by rcases hat4 with h | h <;> exact ⟨_, h⟩
                           have hg4' : W3.heap.size ≤ g4 := by rcases hat4 with h | h <;> (rw [h] at hv4; simp [Value.ownBlock] at hv4; omega)
                           obtain ⟨_, hg4s, cap4, rfl, _, _⟩ := own_shape hown4 hv4
                           have hb4 : RowKit.Below W3.heap.size W3 w4 := ((RowKit.Below.refl _ _).alloc (Nat.le_refl _) _).grown hg4 (by simp) (by intro k hk; simp [Value.ownBlock] at hk; omega)
                           have HO4r := Lib.hid hown4
                           have HG4 := Lib.hid hg4'
                           clear hown4 hg4 hat4 hv4 hg4')
              have HO4 := Lib.hid (own_take (own_below HO3.out hb4) (k := k') (by omega))
              rw [strV_take, Nat.mul_one] at HO4
              have hgl : Hid (g < W3.heap.size) := (HO3.out.lt g rfl).2
              obtain ⟨b3, o3, hb5, hB3', f0, f1, f2, f3, f4, f5, f6, f7⟩ := ((HA.out.below HB3.out).below (hb4.mono HB3.out.size)).elem hlt
              rw [HS.out] at f0 f1 f2 f3 f4 f5 f6 f7
              (injection hb5 with hb5; injection hb5 with hy1 hy2; subst hy1 hy2)
              have HB4 := Lib.hid (HB3.out.trans (hb4.mono HB3.out.size)); clear hb4
              have i3 : (n : Int) < (L.length : Int) := by omega
              have i4 : (0 : Int) ≤ (n : Int) := by omega
              go_wp2
              go_region_law (first
                | (refine step_append_rd _ rfl (.tmp 49) (.tmp 55) 56 rfl w.heap.size 9 i0 _ 1 16 Try.underlying56 hi0 hz0 hz1 HZ2.out rfl (by omega) (.slice (some ⟨g, 0, none⟩) k' cap) k' (strV (K.take k')) (by simp [Act.eval]) (HO4.out.drew.alloc _) _ _ 1 1 [.string s.host] (by simp [Act.eval]) rfl (Rd.own (World.ownsRow_lit (base := 0) (e := 9) (size := 1) _ #[.string s.host] 1 (Nat.zero_le _) (by decide) rfl)) (by intro u hu; obtain rfl := List.mem_singleton.1 hu; rfl) (by unfold maxLen; omega) (by omega) (by simp; exact Nat.le_succ_of_le HB4.out.size) ?_
                   intro v5 w5 hown5 hg5 hat5
                   have HO5 := Lib.hid hown5; have HG5 := Lib.hid hg5; have HA5 := Lib.hid hat5; clear hown5 hg5 hat5)
                | (have hs5 : w4.heap.size + 1 ≤ w5.heap.size := by have := HG5.out.size; simpa using this
                   have hbs6 : w.heap.size ≤ w5.heap.size := by have := HB4.out.size; omega
                   have hne : g4 ≠ g := by have := HG4.out; have := hgl.out; omega
                   have hrow : w5.ownsRow w.heap.size 9 1 (.slice (some ⟨g4, 0, none⟩) (m - k') cap4) (m - k') (strV (K.drop k')) := by
                     have := (HO4r.out.drew.alloc (.cells #[.string s.host] 9)).kept HG5.out (.inr (by simp [Value.ownBlock]; exact hne))
                     simpa using this
                   have HROW := Lib.hid hrow
                   clear hrow hne hs5
                   refine step_append_rd _ rfl (.tmp 56) (.tmp 57) 56 rfl w.heap.size 9 i0 _ 1 16 Try.underlying56 hi0 hz0 hz1 HZ2.out rfl (by omega) v5 (k' + 1) (strV (K.take k') ++ [.string s.host]) (by simp [Act.eval]) HO5.out w5.heap.size (some ⟨g4, 0, none⟩) (m - k') cap4 (strV (K.drop k')) (by simp [Act.eval]) (by rw [strV_length, List.length_drop, HKm.out]; omega) (Rd.own HROW.out) (strV_one _) (by unfold maxLen; omega) (by omega) hbs6 ?_
                   intro v6 w6 hown6 hg6 hat6
                   have HO6 := Lib.hid hown6; have HG6 := Lib.hid hg6; have HA6 := Lib.hid hat6; clear hown6 hg6 hat6))
              have hfin : ∃ g6 cap6, v6 = .slice (some ⟨g6, 0, none⟩) (m + 1) cap6 ∧ w6.ownsRow w.heap.size 9 1 v6 (m + 1) (strV (K.take k' ++ txt s.host :: K.drop k')) ∧ RowKit.Below w.heap.size w w6 := by
                have e1 : k' + 1 + (m - k') = m + 1 := by omega
                have e2 : (strV (K.take k') ++ [.string s.host]) ++ strV (K.drop k') = strV (K.take k' ++ txt s.host :: K.drop k') := by
                  simp [strV, txt]
                have hown := HO6.out
                rw [e1, e2] at hown
                obtain ⟨g5, h5⟩ : ∃ g5, v5.ownBlock = some g5 := by rcases HA5.out with h | h <;> exact ⟨_, h⟩
                obtain ⟨g6, h6⟩ : ∃ g6, v6.ownBlock = some g6 := by
                  rcases HA6.out with h | h
                  · exact ⟨g5, by rw [h, h5]⟩
                  · exact ⟨_, h⟩
                obtain ⟨_, _, cap6, hv, _, _⟩ := own_shape hown h6
                refine ⟨g6, cap6, hv, hown, ?_⟩
                have b5 : RowKit.Below w.heap.size w w5 := ((HB4.out.alloc HB4.out.size _).drew).grown HG5.out (by simp; exact Nat.le_succ_of_le HB4.out.size) (by intro k hk; exact (HO4.out.lt k hk).1)
                exact b5.grown HG6.out b5.size (by intro k hk; exact (HO5.out.lt k hk).1)
              have HLF : Hid (Once (K.take k' ++ txt s.host :: K.drop k') (· ∈ (L.take (n + 1)).map hostT)) := by
                have h := HLE.out
                rw [← HMT.out] at h
                exact h
              have HLL : Hid ((K.take k' ++ txt s.host :: K.drop k').length = m + 1) := by
                show _ = _; have := HKm.out; simp; omega
              clear HO6 HG6 HA6 HO5 HG5 HA5 HROW hbs6
              obtain ⟨g6, cap6, rfl, hown6, hb6⟩ := hfin
              have HOF := Lib.hid hown6; have HBF := Lib.hid hb6; clear hown6 hb6
              clear f0 f1 f2 f3 f4 f5 f6 f7
              go_wp2
              go_roundw
              case rel => exact ⟨n + 1, m + 1, g6, cap6, _, by omega, by go_num, rfl, HLL, HLF.out, HOF.out, HBF.out⟩
              case measure => simp [intOf]; omega
          case pos =>
            have hjR : k' - 1 < K.length := by have := HKm.out; omega
            obtain ⟨b1, o1, X, ha1, hB1, e0, hX⟩ := (Rd.own (own_below HO1.out HB2.out)).str hjR
            obtain ⟨rfl, rfl⟩ : g = b1 ∧ o1 = 0 := by injection ha1 with h; injection h; simp_all
            clear ha1
            simp only [Nat.zero_add] at e0
            have HXS : Hid (X.size ≤ maxLen) := by
              have h := (HON.out.2 K[k' - 1]).1 (List.getElem_mem hjR)
              obtain ⟨z, hz, e⟩ := List.mem_map.1 h
              have : z.host = X := txt_inj (by rw [← hX]; exact e)
              show X.size ≤ maxLen
              rw [← this]; exact (HOK.out z (List.mem_of_mem_take hz)).host
            obtain ⟨b3, o3, hb5, hB2', f0, f1, f2, f3, f4, f5, f6, f7⟩ := ((HA.out.below HB1.out).below (HB2.out.mono HB1.out.size)).elem hlt
            rw [HS.out] at f0 f1 f2 f3 f4 f5 f6 f7
            (injection hb5 with hb5; injection hb5 with hy1 hy2; subst hy1 hy2)
            have hp1 : decide ((0 : Int) < (k' : Int)) = true := by simpa using hpos
            have q1 : g < W2.heap.size := hB1
            have q2 : b2 < W2.heap.size := by have := HB1.out.size; have := HB2.out.size; omega
            have i1 : (0 : Int) ≤ (k' : Int) - 1 := by omega
            have i2 : (k' : Int) - 1 < (m : Int) := by omega
            have i5 : IntKind.i64.wrap ((k' : Int) - 1) = (k' : Int) - 1 := IntWalk.i64_in _ (by omega)
            have i6 : ((k' : Int) - 1).toNat = k' - 1 := by omega
            have hcg : ∀ d os m o, m < W2.heap.size → (grow (redrawn W2 d) os).cell? ⟨m, o, none⟩ = W2.cell? ⟨m, o, none⟩ := fun d os m o h => (below_regrown W2 d os).cell h
            have HX := Lib.hid hX; clear hX
            go_wp2
            refine wp_region_quiet_below (by kernel_rfl) (by kernel_rfl) ?_
            iterate 16 (first | go_big_quiet_step ((go_at_call 38; exact Calls.regrown_of (refText_any X s.host _ HXS.out OKs.out.host))) | fail)
            refine wpQuiet_nil ?_
            intro W3 hw3
            obtain ⟨⟨d, os⟩, hw3'⟩ := hw3
            have hb3 := below_regrown W2 d os
            rw [← hw3'] at hb3
            clear hw3' hcg
            have HXL : Hid (lexI (K[k' - 1]) (txt s.host) = lexS X s.host) := by show _ = _; rw [HX.out]; rfl
            by_cases hx : 0 < lexS X s.host
            · have HGN : Hid (∀ j (h : j < K.length), k' - 1 ≤ j → 0 < lexI K[j] (txt s.host)) := by
                intro j h hj
                by_cases e : j = k' - 1
                · subst e; rw [HXL.out]; exact hx
                · exact HG.out j h (by omega)
              clear e0 f0 f1 f2 f3 f4 f5 f6 f7
              go_wp2
              go_roundw
              case rel => exact ⟨k' - 1, by omega, by congr 1; omega, HGN.out, HB2.out.trans (hb3.mono HB2.out.size)⟩
              case measure => simp [intOf]; omega
            have hle : ∀ j (h : j < K.length), j + 1 = k' → lexI K[j] (txt s.host) ≤ 0 := fun j h e => by
              have e2 : j = k' - 1 := by omega
              subst e2; rw [HXL.out]; omega
            clear e0 f0 f1 f2 f3 f4 f5 f6 f7 q1 q2 i1 i2 i3 i4 i5 i6 hB1 hB2' HXL hjR HX
            have HLE := Lib.hid (HON.out.insert HIN.out (by have := HKm.out; omega) HG.out hle)
            have HO3 := Lib.hid (own_below HO1.out (HB2.out.trans (hb3.mono HB2.out.size)))
            have HB3 := Lib.hid (HB1.out.trans ((HB2.out.trans (hb3.mono HB2.out.size)).mono HB1.out.size))
            clear hb3 hle
            have i1 : (0 : Int) ≤ (k' : Int) := by omega
            have i2 : (k' : Int) ≤ (m : Int) := by omega
            have hnc : m ≤ cap := by
              obtain ⟨_, _, cap', hv, h1, _⟩ := own_shape HO3.out rfl
              obtain rfl : cap = cap' := by injection hv
              exact h1
            have hkc : k' ≤ cap := by omega
            by_cases hcap : cap = k'
            · subst hcap
              have hnk : m = cap := by omega
              have HR3 : Hid (Rd (W3.alloc (.cells #[] 9)) (W3.heap.size + 1) (some ⟨g, 0, none⟩) (strV (K.drop cap))) := by
                show Rd _ _ _ _
                rw [List.drop_of_length_le (by have := HKm.out; omega)]
                exact Rd.nil _ _ _
              have HNK := Lib.hid hnk; clear hnk
              go_wp2_with (at_builtin
                           refine wpList_append_rd _ rfl (.tmp 42) (.tmp 45) 56 rfl w.heap.size 9 i0 _ 1 16 Try.underlying56 hi0 hz0 hz1 HZ2.out rfl (by omega) (.slice (some ⟨W3.heap.size, 0, none⟩) 0 0) 0 [] rfl (World.ownsRow_made W3 #[] 0 HB3.out.size (by decide) rfl) (W3.heap.size + 1) _ (0) _ (strV (K.drop cap)) rfl (by have := HNK.out; rw [strV_length, List.length_drop, HKm.out]; omega) (by simpa using HR3.out) (strV_one _) (by unfold maxLen; omega) (by omega) (by have := HB3.out.size; simp; omega) ?_
                           intro v4 w4 hown4 hg4 hat4
                           obtain ⟨g4, hv4⟩ : ∃ g4, v4.ownBlock = some g4 := by rcases hat4 with h | h <;> exact ⟨_, h⟩
                           have hg4' : W3.heap.size ≤ g4 := by rcases hat4 with h | h <;> (rw [h] at hv4; simp [Value.ownBlock] at hv4; omega)
                           obtain ⟨_, hg4s, cap4, rfl, _, _⟩ := own_shape hown4 hv4
                           have hb4 : RowKit.Below W3.heap.size W3 w4 := ((RowKit.Below.refl _ _).alloc (Nat.le_refl _) _).grown hg4 (by simp) (by intro k hk; simp [Value.ownBlock] at hk; omega)
                           have HO4r := Lib.hid hown4
                           have HG4 := Lib.hid hg4'
                           clear hown4 hg4 hat4 hv4 hg4')
              have HO4 := Lib.hid (own_take (own_below HO3.out hb4) (k := cap) (by omega))
              rw [strV_take, Nat.mul_one] at HO4
              have hgl : Hid (g < W3.heap.size) := (HO3.out.lt g rfl).2
              obtain ⟨b3, o3, hb5, hB3', f0, f1, f2, f3, f4, f5, f6, f7⟩ := ((HA.out.below HB3.out).below (hb4.mono HB3.out.size)).elem hlt
              rw [HS.out] at f0 f1 f2 f3 f4 f5 f6 f7
              (injection hb5 with hb5; injection hb5 with hy1 hy2; subst hy1 hy2)
              have HB4 := Lib.hid (HB3.out.trans (hb4.mono HB3.out.size)); clear hb4
              have i3 : (n : Int) < (L.length : Int) := by omega
              have i4 : (0 : Int) ≤ (n : Int) := by omega
              go_wp2
              go_region_law (first
                | (refine step_append_rd _ rfl (.tmp 49) (.tmp 55) 56 rfl w.heap.size 9 i0 _ 1 16 Try.underlying56 hi0 hz0 hz1 HZ2.out rfl (by omega) (.slice (some ⟨g, 0, none⟩) cap cap) cap (strV (K.take cap)) (by simp [Act.eval]) (HO4.out.drew.alloc _) _ _ 1 1 [.string s.host] (by simp [Act.eval]) rfl (Rd.own (World.ownsRow_lit (base := 0) (e := 9) (size := 1) _ #[.string s.host] 1 (Nat.zero_le _) (by decide) rfl)) (by intro u hu; obtain rfl := List.mem_singleton.1 hu; rfl) (by unfold maxLen; omega) (by omega) (by simp; exact Nat.le_succ_of_le HB4.out.size) ?_
                   intro v5 w5 hown5 hg5 hat5
                   have HO5 := Lib.hid hown5; have HG5 := Lib.hid hg5; have HA5 := Lib.hid hat5; clear hown5 hg5 hat5)
                | (have hs5 : w4.heap.size + 1 ≤ w5.heap.size := by have := HG5.out.size; simpa using this
                   have hbs6 : w.heap.size ≤ w5.heap.size := by have := HB4.out.size; omega
                   have hne : g4 ≠ g := by have := HG4.out; have := hgl.out; omega
                   have hrow : w5.ownsRow w.heap.size 9 1 (.slice (some ⟨g4, 0, none⟩) (0) cap4) (0) (strV (K.drop cap)) := by
                     have := (HO4r.out.drew.alloc (.cells #[.string s.host] 9)).kept HG5.out (.inr (by simp [Value.ownBlock]; exact hne))
                     simpa using this
                   have HROW := Lib.hid hrow
                   clear hrow hne hs5
                   refine step_append_rd _ rfl (.tmp 56) (.tmp 57) 56 rfl w.heap.size 9 i0 _ 1 16 Try.underlying56 hi0 hz0 hz1 HZ2.out rfl (by omega) v5 (cap + 1) (strV (K.take cap) ++ [.string s.host]) (by simp [Act.eval]) HO5.out w5.heap.size (some ⟨g4, 0, none⟩) (0) cap4 (strV (K.drop cap)) (by simp [Act.eval]) (by have := HNK.out; rw [strV_length, List.length_drop, HKm.out]; omega) (Rd.own HROW.out) (strV_one _) (by unfold maxLen; omega) (by omega) hbs6 ?_
                   intro v6 w6 hown6 hg6 hat6
                   have HO6 := Lib.hid hown6; have HG6 := Lib.hid hg6; have HA6 := Lib.hid hat6; clear hown6 hg6 hat6))
              have hfin : ∃ g6 cap6, v6 = .slice (some ⟨g6, 0, none⟩) (m + 1) cap6 ∧ w6.ownsRow w.heap.size 9 1 v6 (m + 1) (strV (K.take cap ++ txt s.host :: K.drop cap)) ∧ RowKit.Below w.heap.size w w6 := by
                have e1 : cap + 1 + (0) = m + 1 := by have := HNK.out; omega
                have e2 : (strV (K.take cap) ++ [.string s.host]) ++ strV (K.drop cap) = strV (K.take cap ++ txt s.host :: K.drop cap) := by
                  simp [strV, txt]
                have hown := HO6.out
                rw [e1, e2] at hown
                obtain ⟨g5, h5⟩ : ∃ g5, v5.ownBlock = some g5 := by rcases HA5.out with h | h <;> exact ⟨_, h⟩
                obtain ⟨g6, h6⟩ : ∃ g6, v6.ownBlock = some g6 := by
                  rcases HA6.out with h | h
                  · exact ⟨g5, by rw [h, h5]⟩
                  · exact ⟨_, h⟩
                obtain ⟨_, _, cap6, hv, _, _⟩ := own_shape hown h6
                refine ⟨g6, cap6, hv, hown, ?_⟩
                have b5 : RowKit.Below w.heap.size w w5 := ((HB4.out.alloc HB4.out.size _).drew).grown HG5.out (by simp; exact Nat.le_succ_of_le HB4.out.size) (by intro k hk; exact (HO4.out.lt k hk).1)
                exact b5.grown HG6.out b5.size (by intro k hk; exact (HO5.out.lt k hk).1)
              have HLF : Hid (Once (K.take cap ++ txt s.host :: K.drop cap) (· ∈ (L.take (n + 1)).map hostT)) := by
                have h := HLE.out
                rw [← HMT.out] at h
                exact h
              have HLL : Hid ((K.take cap ++ txt s.host :: K.drop cap).length = m + 1) := by
                show _ = _; have := HKm.out; have := HNK.out; simp; omega
              clear HO6 HG6 HA6 HO5 HG5 HA5 HROW hbs6
              obtain ⟨g6, cap6, rfl, hown6, hb6⟩ := hfin
              have HOF := Lib.hid hown6; have HBF := Lib.hid hb6; clear hown6 hb6
              clear f0 f1 f2 f3 f4 f5 f6 f7
              go_wp2
              go_roundw
              case rel => exact ⟨n + 1, m + 1, g6, cap6, _, by omega, by go_num, rfl, HLL, HLF.out, HOF.out, HBF.out⟩
              case measure => simp [intOf]; omega
            · have hcap' : ((cap : Int) == (k' : Int)) = false := by simp; omega
              have HR3 : Hid (Rd (W3.alloc (.cells #[] 9)) (W3.heap.size + 1) (some ⟨g, 0 + k', none⟩) (strV (K.drop k'))) := by
                show Rd _ _ _ _
                rw [← strV_drop]
                exact (((Rd.own HO3.out).below ((RowKit.Below.refl _ _).alloc (Nat.le_refl _) _)).more (by omega)).drop _
              go_wp2_with (at_builtin
                           refine wpList_append_rd _ rfl (.tmp 42) (.tmp 45) 56 rfl w.heap.size 9 i0 _ 1 16 Try.underlying56 hi0 hz0 hz1 HZ2.out rfl (by omega) (.slice (some ⟨W3.heap.size, 0, none⟩) 0 0) 0 [] rfl (World.ownsRow_made W3 #[] 0 HB3.out.size (by decide) rfl) (W3.heap.size + 1) _ (m - k') _ (strV (K.drop k')) rfl (by rw [strV_length, List.length_drop, HKm.out]; omega) (by simpa using HR3.out) (strV_one _) (by unfold maxLen; omega) (by omega) (by have := HB3.out.size; simp; omega) ?_
                           intro v4 w4 hown4 hg4 hat4
                           obtain ⟨g4, hv4⟩ : ∃ g4, v4.ownBlock = some g4 := by rcases hat4 with h | h <;> exact ⟨_, h⟩
                           have hg4' : W3.heap.size ≤ g4 := by rcases hat4 with h | h <;> (rw [h] at hv4; simp [Value.ownBlock] at hv4; omega)
                           obtain ⟨_, hg4s, cap4, rfl, _, _⟩ := own_shape hown4 hv4
                           have hb4 : RowKit.Below W3.heap.size W3 w4 := ((RowKit.Below.refl _ _).alloc (Nat.le_refl _) _).grown hg4 (by simp) (by intro k hk; simp [Value.ownBlock] at hk; omega)
                           have HO4r := Lib.hid hown4
                           have HG4 := Lib.hid hg4'
                           clear hown4 hg4 hat4 hv4 hg4')
              have HO4 := Lib.hid (own_take (own_below HO3.out hb4) (k := k') (by omega))
              rw [strV_take, Nat.mul_one] at HO4
              have hgl : Hid (g < W3.heap.size) := (HO3.out.lt g rfl).2
              obtain ⟨b3, o3, hb5, hB3', f0, f1, f2, f3, f4, f5, f6, f7⟩ := ((HA.out.below HB3.out).below (hb4.mono HB3.out.size)).elem hlt
              rw [HS.out] at f0 f1 f2 f3 f4 f5 f6 f7
              (injection hb5 with hb5; injection hb5 with hy1 hy2; subst hy1 hy2)
              have HB4 := Lib.hid (HB3.out.trans (hb4.mono HB3.out.size)); clear hb4
              have i3 : (n : Int) < (L.length : Int) := by omega
              have i4 : (0 : Int) ≤ (n : Int) := by omega
              go_wp2
              go_region_law (first
                | (refine step_append_rd _ rfl (.tmp 49) (.tmp 55) 56 rfl w.heap.size 9 i0 _ 1 16 Try.underlying56 hi0 hz0 hz1 HZ2.out rfl (by omega) (.slice (some ⟨g, 0, none⟩) k' cap) k' (strV (K.take k')) (by simp [Act.eval]) (HO4.out.drew.alloc _) _ _ 1 1 [.string s.host] (by simp [Act.eval]) rfl (Rd.own (World.ownsRow_lit (base := 0) (e := 9) (size := 1) _ #[.string s.host] 1 (Nat.zero_le _) (by decide) rfl)) (by intro u hu; obtain rfl := List.mem_singleton.1 hu; rfl) (by unfold maxLen; omega) (by omega) (by simp; exact Nat.le_succ_of_le HB4.out.size) ?_
                   intro v5 w5 hown5 hg5 hat5
                   have HO5 := Lib.hid hown5; have HG5 := Lib.hid hg5; have HA5 := Lib.hid hat5; clear hown5 hg5 hat5)
                | (have hs5 : w4.heap.size + 1 ≤ w5.heap.size := by have := HG5.out.size; simpa using this
                   have hbs6 : w.heap.size ≤ w5.heap.size := by have := HB4.out.size; omega
                   have hne : g4 ≠ g := by have := HG4.out; have := hgl.out; omega
                   have hrow : w5.ownsRow w.heap.size 9 1 (.slice (some ⟨g4, 0, none⟩) (m - k') cap4) (m - k') (strV (K.drop k')) := by
                     have := (HO4r.out.drew.alloc (.cells #[.string s.host] 9)).kept HG5.out (.inr (by simp [Value.ownBlock]; exact hne))
                     simpa using this
                   have HROW := Lib.hid hrow
                   clear hrow hne hs5
                   refine step_append_rd _ rfl (.tmp 56) (.tmp 57) 56 rfl w.heap.size 9 i0 _ 1 16 Try.underlying56 hi0 hz0 hz1 HZ2.out rfl (by omega) v5 (k' + 1) (strV (K.take k') ++ [.string s.host]) (by simp [Act.eval]) HO5.out w5.heap.size (some ⟨g4, 0, none⟩) (m - k') cap4 (strV (K.drop k')) (by simp [Act.eval]) (by rw [strV_length, List.length_drop, HKm.out]; omega) (Rd.own HROW.out) (strV_one _) (by unfold maxLen; omega) (by omega) hbs6 ?_
                   intro v6 w6 hown6 hg6 hat6
                   have HO6 := Lib.hid hown6; have HG6 := Lib.hid hg6; have HA6 := Lib.hid hat6; clear hown6 hg6 hat6))
              have hfin : ∃ g6 cap6, v6 = .slice (some ⟨g6, 0, none⟩) (m + 1) cap6 ∧ w6.ownsRow w.heap.size 9 1 v6 (m + 1) (strV (K.take k' ++ txt s.host :: K.drop k')) ∧ RowKit.Below w.heap.size w w6 := by
                have e1 : k' + 1 + (m - k') = m + 1 := by omega
                have e2 : (strV (K.take k') ++ [.string s.host]) ++ strV (K.drop k') = strV (K.take k' ++ txt s.host :: K.drop k') := by
                  simp [strV, txt]
                have hown := HO6.out
                rw [e1, e2] at hown
                obtain ⟨g5, h5⟩ : ∃ g5, v5.ownBlock = some g5 := by rcases HA5.out with h | h <;> exact ⟨_, h⟩
                obtain ⟨g6, h6⟩ : ∃ g6, v6.ownBlock = some g6 := by
                  rcases HA6.out with h | h
                  · exact ⟨g5, by rw [h, h5]⟩
                  · exact ⟨_, h⟩
                obtain ⟨_, _, cap6, hv, _, _⟩ := own_shape hown h6
                refine ⟨g6, cap6, hv, hown, ?_⟩
                have b5 : RowKit.Below w.heap.size w w5 := ((HB4.out.alloc HB4.out.size _).drew).grown HG5.out (by simp; exact Nat.le_succ_of_le HB4.out.size) (by intro k hk; exact (HO4.out.lt k hk).1)
                exact b5.grown HG6.out b5.size (by intro k hk; exact (HO5.out.lt k hk).1)
              have HLF : Hid (Once (K.take k' ++ txt s.host :: K.drop k') (· ∈ (L.take (n + 1)).map hostT)) := by
                have h := HLE.out
                rw [← HMT.out] at h
                exact h
              have HLL : Hid ((K.take k' ++ txt s.host :: K.drop k').length = m + 1) := by
                show _ = _; have := HKm.out; simp; omega
              clear HO6 HG6 HA6 HO5 HG5 HA5 HROW hbs6
              obtain ⟨g6, cap6, rfl, hown6, hb6⟩ := hfin
              have HOF := Lib.hid hown6; have HBF := Lib.hid hb6; clear hown6 hb6
              clear f0 f1 f2 f3 f4 f5 f6 f7
              go_wp2
              go_roundw
              case rel => exact ⟨n + 1, m + 1, g6, cap6, _, by omega, by go_num, rfl, HLL, HLF.out, HOF.out, HBF.out⟩
              case measure => simp [intOf]; omega
    · obtain rfl : n = L.length := by omega
      have HOF : Hid (K = hostsL L) := by
        show _ = _
        have h := HON.out
        rw [List.take_length] at h
        exact h.is
      go_wp2_with fail
      go_ret
      refine ⟨_, rfl, ?_, HB.out⟩
      have h := HO.out
      rw [← HKm.out, HOF.out] at h
      rw [← HKm.out, HOF.out]
      exact h
end Go.Proofs.Yteaafjkgopmmdaa

