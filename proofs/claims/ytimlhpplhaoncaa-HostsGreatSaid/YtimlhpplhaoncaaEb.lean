import Derived.Test.YtimlhpplhaoncaaEa
namespace Go.Proofs.Ytimlhpplhaoncaa
open Go Go.RowKit Go.Sort Go.Shelf
set_option linter.unusedVariables false

/-! Rows of rows of numbers; the document's Groups (stage 13). -/
structure Rows2 (B : Nat) (w : World) (v : Value) (G : List (List Int)) (vs : List Value) : Prop where
  own : w.ownsRow B 28 1 v G.length vs
  one : ∀ u ∈ vs, u.oneCell' = true
  at_ : ∀ i (h : i < G.length), ∃ u, vs[i]? = some u ∧ w.ownsRow B 3 1 u G[i].length (intV G[i]) ∧ Apart u v
theorem Rows2.below {B : Nat} {w w' : World} {v : Value} {G : List (List Int)} {vs : List Value} (h : Rows2 B w v G vs) (hb : Below w.heap.size w w') : Rows2 B w' v G vs :=
  ⟨own_below h.own hb, h.one, fun i hi => by obtain ⟨u, h1, h2, h3⟩ := h.at_ i hi; exact ⟨u, h1, own_below h2 hb, h3⟩⟩
theorem Rows2.base {B B' : Nat} {w : World} {v : Value} {G : List (List Int)} {vs : List Value} (h : Rows2 B w v G vs) (hb : B' ≤ B) : Rows2 B' w v G vs :=
  ⟨own_base h.own hb, h.one, fun i hi => by obtain ⟨u, h1, h2, h3⟩ := h.at_ i hi; exact ⟨u, h1, own_base h2 hb, h3⟩⟩
theorem Rows2.len {B : Nat} {w : World} {v : Value} {G : List (List Int)} {vs : List Value} (h : Rows2 B w v G vs) : vs.length = G.length := by have := h.own.1; omega
theorem Rows2.push {B : Nat} {w w2 : World} {v v' u : Value} {G : List (List Int)} {vs : List Value} {g : List Int} (h : Rows2 B w v G vs) (hu : w.ownsRow B 3 1 u g.length (intV g)) (hap : Apart u v) (ho1 : u.oneCell' = true) (o : Obj)
    (ho : w2.ownsRow B 28 1 v' (G.length + 1) (vs ++ [u])) (hg : (w.alloc o).grownBy w2 v.ownBlock) (hat : v'.ownBlock = v.ownBlock ∨ v'.ownBlock = some (w.alloc o).heap.size) : Rows2 B w2 v' (G ++ [g]) (vs ++ [u]) := by
  have hl := h.len
  refine ⟨by rw [List.length_append]; exact ho, fun x hx => (List.mem_append.1 hx).elim (h.one x) (fun hx => by rw [List.mem_singleton.1 hx]; exact ho1), fun i hi => ?_⟩
  by_cases e : i < G.length
  · obtain ⟨x, h1, h2, h3⟩ := h.at_ i e
    have h2' := own_below h2 (box1 w o)
    refine ⟨x, by rw [List.getElem?_append_left (by omega)]; exact h1, ?_, h3.next h2' hat⟩
    rw [List.getElem_append_left e]
    exact h2'.kept hg h3.row
  · have e2 : i = G.length := by rw [List.length_append] at hi; simp at hi; omega
    subst e2
    have hu' := own_below hu (box1 w o)
    refine ⟨u, by rw [List.getElem?_append_right (by omega), hl]; simp, ?_, hap.next hu' hat⟩
    simp only [List.getElem_append_right (Nat.le_refl _), Nat.sub_self, List.getElem_cons_zero]
    exact hu'.kept hg hap.row
/-- The places of a host's spans, among the first ones. -/
def grpN (L : List Sp) (h : Tx) (n : Nat) : List Int := ((List.range n).filter fun i => decide ((L.map hostT)[i]? = some h)).map fun (i : Nat) => (i : Int)
def grpL (L : List Sp) (h : Tx) : List Int := grpN L h L.length
def groupsL (L : List Sp) : List (List Int) := (hostsL L).map (grpL L)
theorem grpN_yes {L : List Sp} {h : Tx} {n : Nat} (hn : n < L.length) (e : hostT L[n] = h) : grpN L h (n + 1) = grpN L h n ++ [(n : Int)] := by
  unfold grpN
  rw [List.range_succ, List.filter_append]
  simp [hn, e]
theorem grpN_no {L : List Sp} {h : Tx} {n : Nat} (hn : n < L.length) (e : hostT L[n] ≠ h) : grpN L h (n + 1) = grpN L h n := by
  unfold grpN
  rw [List.range_succ, List.filter_append]
  simp [hn, e]
theorem grpN_le (L : List Sp) (h : Tx) (n : Nat) : (grpN L h n).length ≤ n := by
  unfold grpN
  rw [List.length_map]
  have := List.length_filter_le (fun i => decide ((L.map hostT)[i]? = some h)) (List.range n)
  rwa [List.length_range] at this
theorem groups_take {L : List Sp} {k : Nat} (h : k < (hostsL L).length) : (groupsL L).take (k + 1) = (groupsL L).take k ++ [grpL L (hostsL L)[k]] := by
  have h' : k < (groupsL L).length := by simpa [groupsL] using h
  rw [List.take_succ_eq_append_getElem h']; simp [groupsL]
theorem groups_length (L : List Sp) : (groupsL L).length = (hostsL L).length := by simp [groupsL]
theorem info_slice13 : (Try.prog.info? 28).map (fun i => (i.zero, i.size, i.bytes)) = some (some (.slice none 0 0), 1, 24) := by kernel_rfl
/-- What groups pay. -/
def GroupsPay (F : Nat) : Prop := ∀ (a : Option Addr) (c : Nat) (L : List Sp) (w : World), Rd w w.heap.size a (flatL L) → L.length ≤ 100000 → (∀ s ∈ L, s.Ok) →
  Calls Try.prog F #[.slice a L.length c] w fun e w' => ∃ v vs, e = .returned v ∧ Rows2 w.heap.size w' v (groupsL L) vs ∧ Below w.heap.size w w'
set_option maxHeartbeats 8000000 in
theorem refGroups_any : GroupsPay 9 := by
  intro a c L w ha hl hok
  obtain ⟨i0, hi0, hz0, hz1, hz2⟩ := info_parts info_int13
  obtain ⟨j0, hj0, hy0, hy1, hy2⟩ := info_parts info_slice13
  have HZ2 := Lib.hid hz2; have HY2 := Lib.hid hy2; clear hz2 hy2
  have HA := Lib.hid ha; have HOK := Lib.hid hok; clear ha hok
  have hhl := hosts_length L
  go_enter Try.func9, Try.ntmps9
  go_wp2_with (go_at_call 16
               refine (refHosts_any a c L (w.alloc (.cells #[] 28)) ((HA.out.below (box1 w _)).more (by simp)) hl HOK.out).mono ?_
               rintro e w1 ⟨vh, rfl, hh, hb1⟩
               obtain ⟨ah, ch, rfl, _, _, _⟩ := own_slice hh
               have HO1 := Lib.hid (own_below (World.ownsRow_made w (e := 28) (size := 1) #[] 0 (Nat.le_refl _) (by decide) rfl) hb1)
               have HH := Lib.hid hh; have HB1 := Lib.hid (bel2 (box1 w (.cells #[] 28)) hb1); clear hh hb1)
  have HR1 : Hid (Rows2 w.heap.size w1 (.slice (some ⟨w.heap.size, 0, none⟩) 0 0) ((groupsL L).take 0) []) := by
    rw [List.take_zero]
    exact ⟨HO1.out, (fun u h => by cases h), fun i h => absurd h (Nat.not_lt_zero _)⟩
  have hnl : w.heap.size < w1.heap.size := (own_shape HO1.out rfl).2.1
  -- the hosts' row is told from the groups' by its kind of cells: it is read alone
  clear HO1
  go_loopw [3, 5] (fun v i wr => ∃ (k : Nat) (v' : Value) (vs : List Value), k ≤ (hostsL L).length ∧ i = .int .i64 k ∧ v' = v ∧ Rows2 w.heap.size wr v' ((groupsL L).take k) vs ∧ wr.ownsRow w.heap.size 9 1 (.slice ah (hostsL L).length ch) (hostsL L).length (strV (hostsL L)) ∧ Apart (.slice ah (hostsL L).length ch) v' ∧ Below w.heap.size w wr) (fun _ i _ => (hostsL L).length - (intOf i).toNat)
  case atStart =>
    refine ⟨0, _, [], Nat.zero_le _, rfl, rfl, HR1.out, own_base HH.out (by simp), ?_, HB1.out⟩
    cases hk : (Value.slice ah (hostsL L).length ch).ownBlock with
    | none => exact .inl hk
    | some b =>
      refine .inr (.inr ?_)
      rw [hk]
      intro e
      have e : b = w.heap.size := by simpa [Value.ownBlock] using e
      have h1 := (own_shape HH.out hk).1
      simp at h1; omega
  clear HR1 HH
  case round =>
    obtain ⟨k, v, vs, hk, rfl, hv, hR, hH, hap, hb⟩ := hrel
    subst hv
    have hgl : ((groupsL L).take k).length = k := by rw [List.length_take, groups_length]; omega
    have HGL := Lib.hid hgl; clear hgl
    have hvown := hR.own
    rw [HGL.out] at hvown
    obtain ⟨va, vc, rfl, _, _, _⟩ := own_slice hvown
    have HR := Lib.hid hR; have HH := Lib.hid hH; have HAP := Lib.hid hap; have HB := Lib.hid hb; have HVO := Lib.hid hvown; clear hR hH hap hb hvown
    generalize wr = W1 at *
    by_cases hlt : k < (hostsL L).length
    · have HTK := Lib.hid (groups_take hlt)
      obtain ⟨hh, hhe⟩ : ∃ hh, (hostsL L)[k] = hh := ⟨_, rfl⟩
      rw [hhe] at HTK
      have i3 : (k : Int) < ((hostsL L).length : Int) := by omega
      have i4 : (0 : Int) ≤ (k : Int) := by omega
      have hBW := HB.out.size
      go_wp2_with fail
      go_loopw [6, 7] (fun u i wr2 => ∃ (n : Nat) (u' : Value), n ≤ L.length ∧ i = .int .i64 n ∧ u' = u ∧ wr2.ownsRow W1.heap.size 3 1 u' (grpN L hh n).length (intV (grpN L hh n)) ∧ Below W1.heap.size W1 wr2) (fun _ i _ => L.length - (intOf i).toNat)
      case atStart => exact ⟨0, _, Nat.zero_le _, rfl, rfl, World.ownsRow_made W1 #[] 0 (Nat.le_refl _) (by decide) rfl, box1 _ _⟩
      case round =>
        obtain ⟨n, u, hn, rfl, hu, hown, hb2⟩ := hrel
        subst hu
        obtain ⟨ua, uc, rfl, _, _, _⟩ := own_slice hown
        have HO := Lib.hid hown; have HB2 := Lib.hid hb2; clear hown hb2
        have hgn := grpN_le L hh n
        generalize wr = W2 at *
        by_cases hnl2 : n < L.length
        · obtain ⟨b1, o1, ha2, _, e0, e1, e2, e3, e4, e5, e6, e7⟩ := (HA.out.below (HB.out.trans (HB2.out.mono hBW))).elem hnl2
          subst ha2
          obtain ⟨b2, o2, X, ha3, _, d0, hX⟩ := (Rd.own (own_below HH.out HB2.out)).str hlt
          subst ha3
          rw [hhe] at hX
          have HY := Lib.hid (fun e => grpN_yes (h := hh) hnl2 e)
          have HN := Lib.hid (fun e => grpN_no (h := hh) hnl2 e)
          simp only [hostT] at HY HN
          generalize L[n] = s at *
          have j3 : (n : Int) < (L.length : Int) := by omega
          have j4 : (0 : Int) ≤ (n : Int) := by omega
          clear e0 e1 e2 e3 e5 e6 e7
          by_cases he : txt s.host = txt X
          · have q1 := tx_eq he
            have q2 := tx_nn he
            have HK := Lib.hid (HY.out (by rw [hX]; exact he))
            clear he HY HN
            go_wp2_with fail
            go_quiet (fail)
            have hb3 : Below W2.heap.size W2 (W2.drewN nq) := Below_drewN (Below.refl _ _) nq
            have HO3 := Lib.hid (own_below HO.out hb3); have HB3 := Lib.hid (bel2 HB2.out hb3)
            clear hb3 q1 q2 d0 e4
            generalize W2.drewN nq = W3 at *
            go_wp2_with (at_builtin
                         refine wpList_append_rd _ rfl (.tmp 34) (.tmp 36) 28 rfl W1.heap.size 3 i0 _ 1 8 Try.underlying28 hi0 hz0 hz1 HZ2.out rfl (by omega) (.slice ua (grpN L hh n).length uc) (grpN L hh n).length _ rfl (own_below HO3.out (box1 _ _)) _ _ 1 1 [.int .i64 (n : Int)] rfl rfl (lit_rd W3 #[.int .i64 (n : Int)] _) (by intro u hu; obtain rfl := List.mem_singleton.1 hu; rfl) (by unfold maxLen; omega) (by omega) (by have := HB3.out.size; simp; omega) ?_
                         intro v4 w4 hown4 hg4 _
                         have HO4 := Lib.hid hown4; have HG4 := Lib.hid hg4; clear hown4 hg4)
            go_roundw
            case rel => exact ⟨n + 1, _, by omega, by go_num, rfl, by rw [HK.out, List.length_append, intV_append]; exact HO4.out, (HB3.out.alloc HB3.out.size _).grown HG4.out (by have := HB3.out.size; simp; omega) (fun g hg => (own_shape HO3.out hg).1)⟩
            case measure => simp [intOf]; omega
          · have q1 := tx_ne he
            have q2 := tx_nq he
            have HK := Lib.hid (HN.out (by rw [hX]; exact he))
            clear he HY HN
            go_wp2_with fail
            go_quiet (fail)
            go_wp2_with fail
            go_roundw
            case rel => exact ⟨n + 1, _, by omega, by go_num, rfl, by rw [HK.out]; exact own_below HO.out (Below_drewN (Below.refl _ _) _), Below_drewN HB2.out _⟩
            case measure => simp [intOf]; omega
        · obtain rfl : n = L.length := by omega
          have hap2 : Apart (.slice ua (grpL L hh).length uc) (.slice va k vc) := by
            cases hk1 : (Value.slice ua (grpL L hh).length uc).ownBlock with
            | none => exact .inl hk1
            | some b =>
              refine .inr (.inr ?_)
              rw [hk1]
              intro e
              have h1 := (own_shape HO.out hk1).1
              have h2 := (own_shape HVO.out e.symm).2.1
              omega
          have HAP2 := Lib.hid hap2; clear hap2
          have HR2 := Lib.hid (HR.out.below HB2.out)
          have HV2 := Lib.hid (own_below HVO.out HB2.out)
          have HH2 := Lib.hid (own_below HH.out HB2.out)
          have HB4 := Lib.hid (HB.out.trans (HB2.out.mono hBW))
          have hgn2 : (grpL L hh).length ≤ L.length := grpN_le L hh _
          have HU2 : Hid (W2.ownsRow w.heap.size 3 1 (.slice ua (grpL L hh).length uc) (grpL L hh).length (intV (grpL L hh))) := own_base HO.out hBW
          have hsz4 := HB4.out.size
          go_wp2_with (at_builtin
                       refine wpList_append_rd _ rfl (.tmp 38) (.tmp 40) 25 rfl w.heap.size 28 j0 _ 1 24 Try.underlying25 hj0 hy0 hy1 HY2.out rfl (by omega) (.slice va k vc) k vs rfl (own_below HV2.out (box1 _ _)) _ _ 1 1 [.slice ua (grpL L hh).length uc] rfl rfl (lit_rd W2 #[.slice ua (grpL L hh).length uc] _) (by intro u hu; obtain rfl := List.mem_singleton.1 hu; rfl) (by unfold maxLen; omega) (by omega) (by simp; omega) ?_
                       intro v4 w4 hown4 hg4 hat4
                       have HR4 := Lib.hid (Rows2.push HR2.out HU2.out HAP2.out rfl _ (by rw [HGL.out]; exact hown4) hg4 hat4)
                       have HH4 := Lib.hid ((own_below HH2.out (box1 _ _)).kept hg4 HAP.out.row)
                       have HA4 := Lib.hid (HAP.out.next (own_below HH2.out (box1 _ _)) hat4)
                       have HB5 := Lib.hid ((HB4.out.alloc hsz4 _).grown hg4 (by simp; omega) (fun g hg => (own_shape HV2.out hg).1))
                       clear hown4 hg4 hat4)
          go_roundw
          case rel => exact ⟨k + 1, _, _, by omega, by go_num, rfl, by rw [HTK.out]; exact HR4.out, HH4.out, HA4.out, HB5.out⟩
          case measure => simp [intOf]; omega
    · obtain rfl : k = (hostsL L).length := by omega
      have hr := HR.out
      rw [List.take_of_length_le (by rw [groups_length]; exact Nat.le_refl _)] at hr
      have HF := Lib.hid hr; clear hr
      go_wp2_with fail
      go_ret
      exact ⟨_, _, rfl, HF.out, HB.out⟩
end Go.Proofs.Ytimlhpplhaoncaa

