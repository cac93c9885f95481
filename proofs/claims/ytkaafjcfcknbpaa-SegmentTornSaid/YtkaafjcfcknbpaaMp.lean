import Derived.Test.YtkaafjcfcknbpaaMn
import Derived.Test.YtkaafjcfcknbpaaMo
namespace Go.Proofs.Ytkaafjcfcknbpaa
open Go Go.RowKit Go.Sort

theorem rows_apart2 {W : World} {b1 b2 : Nat} {e1 e2 : TypeId} {s1 s2 k1 k2 : Nat} {v1 v2 : Value} {x1 x2 : List Value} (h1 : W.ownsRow b1 e1 s1 v1 k1 x1) (h2 : W.ownsRow b2 e2 s2 v2 k2 x2) (hne : e1 ≠ e2) : v1.ownBlock = none ∨ v1.ownBlock ≠ v2.ownBlock := rows_apart h1 h2 hne
theorem great7_is {L : List Sp} {b : Bool} (h : greatB L = b) (a : Option Addr) (n c : Nat) (w : World) (hn : n = L.length) (hr : Rd w w.heap.size a (flatL L)) (hl : L.length ≤ maxLen) (ok : ∀ s ∈ L, s.Ok) :
    Calls Try.prog 13 #[.slice a n c] w fun e w' => e = .returned (.bool b) ∧ Below w.heap.size w w' := by
  subst hn; exact great_is h a c w hr hl ok
theorem putW7_is (a : Option Addr) (n c : Nat) (L : List Sp) (w : World) (hn : n = L.length) (hr : Rd w w.heap.size a (flatL L)) (hlc : L.length ≤ c) (hc : c ≤ maxLen) (ok : ∀ s ∈ L, s.Ok) :
    Calls Try.prog 14 #[.slice a n c] w (PutOut w L) := by
  subst hn; exact putW_any a c L w hr hlc hc ok
def bodL (L : List Bt) : List (List UInt8) := L.map fun x => batchL x.l
theorem bodL_length (L : List Bt) : (bodL L).length = L.length := by simp [bodL]
theorem bodL_get {L : List Bt} {j : Nat} (h : j < L.length) : (bodL L)[j]'(by rw [bodL_length]; exact h) = batchL L[j].l := by simp [bodL]
def ends7 (T : List (List UInt8)) (i : Nat) : List Nat := (List.range i).map fun j => 14 + eL T (j + 1)
theorem ends7_succ (T : List (List UInt8)) (i : Nat) : ends7 T (i + 1) = ends7 T i ++ [14 + eL T (i + 1)] := by simp [ends7, List.range_succ]
set_option maxRecDepth 20000 in
set_option maxHeartbeats 4000000 in
theorem law_torn (a : Option Addr) (c : Nat) (L : List Bt) (p q : Nat) (w : World) (hr : Rd w w.heap.size a (flatG Bt.r L)) (hb : ∀ x ∈ L, BtArg w x) (hlc : L.length ≤ c) (hc : c ≤ maxLen) (hp : p < 256) (hq : q < 65536) :
    Calls Try.prog 5 #[.slice a L.length c, .int .u8 (p : Int), .int .u16 (q : Int)] w fun e w' => e = .returned (.bool true) ∧ Below w.heap.size w w' := by
  have HR := Lib.hid hr; have HBT := Lib.hid hb
  unfold maxLen at hc
  clear hr hb
  obtain ⟨n, hn⟩ : ∃ n, n = L.length := ⟨_, rfl⟩
  have HN := Lib.hid hn
  rw [← hn] at hlc ⊢
  clear hn
  by_cases hlong : 8 < n
  · go_enter Try.func5, Try.ntmps5
    go_wp2_with (go_at_call 10; refine (fixed7_any _).mono ?_; rintro e w' ⟨rfl, hb⟩)
    go_ret
    exact ⟨rfl, hb⟩
  obtain ⟨m, hm⟩ : ∃ m, m = p % 16 := ⟨_, rfl⟩
  have hm16 : m < 16 := by have := Nat.mod_lt p (show 0 < 16 by omega); omega
  have hmi : (p : Int) % 16 = (m : Int) := by rw [hm]; simp
  have hmw : IntKind.i64.wrap (m : Int) = (m : Int) := IntWalk.i64_in _ ⟨by omega, by omega⟩
  clear hm
  obtain ⟨k, hk⟩ : ∃ k, k = 1 + m := ⟨_, rfl⟩
  have hki : (1 : Int) + (m : Int) = (k : Int) := by omega
  have hk1 : 1 ≤ k := by omega
  have hk16 : k ≤ 16 := by omega
  clear hk
  obtain ⟨T, hT⟩ : ∃ T, T = bodL L := ⟨_, rfl⟩
  have HT := Lib.hid hT
  have HTL : Hid (T.length = n) := by show _ = _; rw [hT, bodL_length]; exact HN.out.symm
  obtain ⟨H, hH⟩ : ∃ H, H = headL 9 k := ⟨_, rfl⟩
  have HH := Lib.hid hH
  have HHL : Hid (H.length = 14) := by show _ = _; rw [hH, headL_length]
  clear hT hH
  obtain ⟨i0, hi0, hz0, hz1, hz2⟩ := info_parts info_u8
  obtain ⟨j0, hj0, hy0, hy1, hy2⟩ := info_parts info_int
  have HZ2 := Lib.hid hz2; have HY2 := Lib.hid hy2; clear hz2 hy2
  go_enter Try.func5, Try.ntmps5
  go_wp2_with fail
  refine (head_own 9 k w (by omega) hk1 hk16).mono ?_; rintro e w1 ⟨v1, rfl, ho1, hb1⟩
  rw [← HH.out] at ho1
  obtain ⟨ha1, hc1, rfl, _, _, _⟩ := own_slice ho1
  have HO1 := Lib.hid ho1; have HB1 := Lib.hid hb1
  clear ho1 hb1
  go_wp2_with fail
  obtain ⟨w2, hw2⟩ : ∃ w2, w2 = w1.alloc (.cells #[] 3) := ⟨_, rfl⟩
  have HO2 : Hid (w2.ownsRow w.heap.size 5 1 (.slice ha1 14 hc1) 14 (bV H)) := by show World.ownsRow _ _ _ _ _ _ _; rw [hw2]; exact HO1.out.alloc _
  have HE2 : Hid (w2.ownsRow w.heap.size 3 1 (.slice (some ⟨w1.heap.size, 0, none⟩) 0 0) 0 []) := by show World.ownsRow _ _ _ _ _ _ _; rw [hw2]; exact World.ownsRow_made w1 #[] 0 HB1.out.size (by decide) rfl
  have HB2 : Hid (Below w.heap.size w w2) := by show Below _ _ _; rw [hw2]; exact HB1.out.alloc HB1.out.size _
  rw [← hw2]
  clear hw2
  go_loopw [8, 10, 50] (fun vb ve i wr => ∃ j E0 : Nat, j ≤ n ∧ i = .int .i64 j ∧ E0 = eL T j ∧ E0 ≤ 312 * j ∧ (∀ t (ht : t < L.length), t < j → mayL L[t].l = true) ∧ wr.ownsRow w.heap.size 5 1 vb (14 + E0) (bV (H ++ catF (T.take j))) ∧ wr.ownsRow w.heap.size 3 1 ve j (iV (ends7 T j)) ∧ Below w.heap.size w wr) (fun _ _ i _ => n - (intOf i).toNat)
  case atStart => exact ⟨0, 0, Nat.zero_le _, rfl, (eL_zero T).symm, Nat.le_refl _, fun _ _ h => absurd h (by omega), by simpa [catF] using HO2.out, HE2.out, HB2.out⟩
  case round =>
    obtain ⟨j, E0, hj, rfl, hE0, hE312, hall, ho1, ho2, hb⟩ := hrel
    have HE0 := Lib.hid hE0; have HALL := Lib.hid hall; have HO := Lib.hid ho1; have HE := Lib.hid ho2; have HB := Lib.hid hb
    obtain ⟨ba, bc, rfl, _, _, _⟩ := own_slice ho1
    obtain ⟨ea, ec, rfl, _, _, _⟩ := own_slice ho2
    clear hE0 hall ho1 ho2 hb HO1 HB1 HO2 HE2 HB2
    by_cases hlt : j < n
    · have hjL : j < L.length := by rw [← HN.out]; exact hlt
      obtain ⟨b, off, rfl, hbl, hxc⟩ := Bt_elem HR.out hjL
      obtain ⟨x, hx⟩ : ∃ x, L[j] = x := ⟨_, rfl⟩
      rw [hx] at hxc
      have hxm : x ∈ L := by rw [← hx]; exact List.getElem_mem _
      obtain ⟨xr, xlc, xcm, xok⟩ := HBT.out x hxm
      have qx : wr.cell? ⟨b, off + j, none⟩ = some (.slice x.a x.l.length x.c) := by rw [HB.out.cell (p := ⟨b, off + j, none⟩) hbl]; exact hxc
      have XR := Lib.hid ((xr.below HB.out).more HB.out.size); have XLC := Lib.hid xlc; have XCM := Lib.hid xcm; have XOK := Lib.hid xok; have HXE := Lib.hid hx
      obtain ⟨nx, hnx⟩ : ∃ nx, nx = x.l.length := ⟨_, rfl⟩
      have HNX := Lib.hid hnx
      rw [← hnx] at qx
      have HLT := Lib.hid hlt
      have hnxm : nx ≤ maxLen := by rw [hnx]; exact Nat.le_trans xlc xcm
      unfold maxLen at hnxm
      clear hxc xr xlc xcm xok hx hxm hnx hlt
      by_cases h4 : 4 < nx
      · go_wp2_with (go_at_call 10; refine (fixed7_any _).mono ?_; rintro e w' ⟨rfl, hb9⟩)
        go_ret
        exact ⟨rfl, bel2 HB.out hb9⟩
      cases hgr : greatB x.l with
      | true =>
        have HGR := Lib.hid hgr; clear hgr
        go_wp2_with fail
        refine (great7_is HGR.out x.a nx x.c wr HNX.out XR.out (Nat.le_trans XLC.out XCM.out) XOK.out).mono ?_; rintro e w3 ⟨rfl, hb3⟩
        have HB3 := Lib.hid (bel2 HB.out hb3); clear hb3
        go_wp2_with (go_at_call 10; refine (fixed7_any _).mono ?_; rintro e w' ⟨rfl, hb9⟩)
        go_ret
        exact ⟨rfl, bel2 HB3.out hb9⟩
      | false =>
        have HGR := Lib.hid hgr; clear hgr
        go_wp2_with fail
        refine (great7_is HGR.out x.a nx x.c wr HNX.out XR.out (Nat.le_trans XLC.out XCM.out) XOK.out).mono ?_; rintro e w3 ⟨rfl, hb3⟩
        have HB3 := Lib.hid (bel2 HB.out hb3); have XR3 := Lib.hid ((XR.out.below hb3).more hb3.size)
        have HO3 := Lib.hid (own_below HO.out hb3); have HE3 := Lib.hid (own_below HE.out hb3)
        clear hb3
        cases hmy : mayL x.l with
        | false =>
          obtain ⟨p1, p2, _⟩ := putB_no hmy
          have P1 := Lib.hid p1; have P2 := Lib.hid p2
          clear hmy p1 p2
          go_wp2_with fail
          refine (putW7_is x.a nx x.c x.l w3 HNX.out XR3.out XLC.out XCM.out XOK.out).mono ?_; rintro e w4 ⟨a4, c4, rfl, _, _, _, hb4⟩
          rw [P1.out, P2.out]
          have HB4 := Lib.hid (bel2 HB3.out hb4); clear hb4
          go_wp2_with (go_at_call 10; refine (fixed7_any _).mono ?_; rintro e w' ⟨rfl, hb9⟩)
          go_ret
          exact ⟨rfl, bel2 HB4.out hb9⟩
        | true =>
          obtain ⟨p1, p2, _⟩ := putB_yes hmy
          have hbl3 := batchL_length hmy
          have HMF := Lib.hid (mayF_batch hmy)
          have HMY := Lib.hid hmy
          obtain ⟨B, hB⟩ : ∃ B, B = batchL x.l := ⟨_, rfl⟩
          rw [← hB] at p1 hbl3 HMF
          have P1 := Lib.hid p1; have P2 := Lib.hid p2; have HBB := Lib.hid hB
          rw [← HNX.out] at hbl3
          have hBn : B.length ≤ 306 := by omega
          have HBn : Hid (B.length ≤ 306) := hBn
          clear hmy p1 p2 hB hBn hbl3
          go_wp2_with fail
          refine (putW7_is x.a nx x.c x.l w3 HNX.out XR3.out XLC.out XCM.out XOK.out).mono ?_; rintro e w4 ⟨a4, c4, rfl, hc4, hcm4, hr4, hb4⟩
          rw [P1.out] at hc4 hr4 ⊢
          rw [P2.out]
          have HB4 := Lib.hid (bel2 HB3.out hb4); have HR4 := Lib.hid hr4
          have HO4 := Lib.hid (own_below HO3.out hb4); have HE4 := Lib.hid (own_below HE3.out hb4)
          clear hr4 hb4 hcm4 hc4
          obtain ⟨nb, hnb⟩ : ∃ nb, nb = B.length := ⟨_, rfl⟩
          have HNB := Lib.hid hnb
          rw [← hnb]
          clear hnb
          go_wp2_with fail
          obtain ⟨LF, hLF⟩ : ∃ LF, LF = frL B := ⟨_, rfl⟩
          have HLF := Lib.hid hLF
          refine (putR_is a4 nb c4 B LF 0 w4 HNB.out (by rw [HMF.out, HLF.out]; rfl) HR4.out).mono ?_; rintro e w5 ⟨fa, fc, rfl, _, _, hr5, hb5⟩
          have HB5 := Lib.hid (bel2 HB4.out hb5); have HF5 := Lib.hid hr5
          have HO5 := Lib.hid (own_below HO4.out hb5); have HE5 := Lib.hid (own_below HE4.out hb5)
          have hLFl : LF.length ≤ 312 := by rw [hLF, frL_length]; have := HBn.out; omega
          clear hr5 hb5 hLF
          obtain ⟨E1, hE1⟩ : ∃ E1, E1 = E0 + LF.length := ⟨_, rfl⟩
          have HSUM : Hid (14 + E0 + LF.length = 14 + E1) := by show _ = _; omega
          have hE1l : E1 ≤ 312 * (j + 1) := by omega
          have HE1 : Hid (E1 = eL T (j + 1)) := by
            show _ = _
            rw [eL_succ T (by rw [HTL.out]; exact HLT.out), hE1, HE0.out, HLF.out, frL_length]
            have : T[j]'(by rw [HTL.out]; exact HLT.out) = B := by
              have h := HT.out; subst h
              rw [bodL_get hjL, HXE.out, HBB.out]
            rw [this]
          have HCAT : Hid (H ++ catF (T.take j) ++ LF = H ++ catF (T.take (j + 1))) := by
            show _ = _
            have hj' : j < T.length := by rw [HTL.out]; exact HLT.out
            have : T[j] = B := by
              have h := HT.out; subst h
              rw [bodL_get hjL, HXE.out, HBB.out]
            rw [← List.take_append_getElem hj', catF_snoc, this, HLF.out, List.append_assoc]
          have hBs5 : w.heap.size ≤ w5.heap.size := HB5.out.size
          have hj8 : j < 8 := by have := HLT.out; omega
          have hE312' : E0 ≤ 3000 := by omega
          clear hE1
          go_wp2_with (first
            | (at_builtin
               refine wpList_append_rd _ rfl (.tmp 77) (.tmp 78) 23 rfl w.heap.size 5 i0 _ 1 1 Try.underlying23 hi0 hz0 hz1 HZ2.out rfl (by omega) _ (14 + E0) _ rfl HO5.out _ _ LF.length _ (bV LF) rfl (by rw [bV_length, Nat.mul_one]) HF5.out (bV_one _) (by unfold maxLen; omega) (by omega) hBs5 ?_
               intro v7 w6 hown6 hg6 _
               rw [HSUM.out, ← bV_append, HCAT.out] at hown6
               have HE6 := Lib.hid (HE5.out.kept hg6 (rows_apart HE5.out HO5.out (by decide)))
               have HB6 := Lib.hid (Below.of_grown HB5.out hg6 hBs5 (by intro g hg; exact (own_shape HO5.out hg).1))
               have HO6 := Lib.hid hown6
               obtain ⟨ba2, bc2, rfl, _, _, _⟩ := own_slice hown6
               have hBs6 : w.heap.size ≤ w6.heap.size := HB6.out.size
               clear hown6 hg6)
            | (at_builtin
               go_must (refine wpList_append_rd _ rfl _ _ 45 rfl w.heap.size 3 j0 _ 1 8 Try.underlying45 hj0 hy0 hy1 HY2.out rfl (by omega) _ j _ rfl (HE6.out.alloc _) _ _ 1 _ [.int .i64 ((14 + E1 : Nat) : Int)] rfl rfl (lit_rd w6 #[.int .i64 ((14 + E1 : Nat) : Int)] _) (by simp [Value.oneCell']) (by unfold maxLen; omega) (by omega) (by simp; omega) ?_)
               intro v8 w7 hown7 hg7 _
               have HO7 := Lib.hid ((HO6.out.alloc (.cells #[.int .i64 ((14 + E1 : Nat) : Int)] 3)).kept hg7 (rows_apart (HO6.out.alloc (.cells #[.int .i64 ((14 + E1 : Nat) : Int)] 3)) (HE6.out.alloc (.cells #[.int .i64 ((14 + E1 : Nat) : Int)] 3)) (by decide)))
               have HB7 := Lib.hid (Below.of_grown (HB6.out.alloc hBs6 (.cells #[.int .i64 ((14 + E1 : Nat) : Int)] 3)) hg7 (by simp; omega) (by intro g hg; exact (own_shape HE6.out hg).1))
               have HE7 := Lib.hid hown7
               clear hown7 hg7))
          go_roundw
          case rel =>
            refine ⟨j + 1, E1, HLT.out, by go_num, HE1.out, hE1l, ?_, HO7.out, ?_, HB7.out⟩
            · intro t ht htj
              by_cases htj' : t < j
              · exact HALL.out t ht htj'
              · obtain rfl : t = j := by omega
                rw [HXE.out]; exact HMY.out
            · rw [ends7_succ, ← HE1.out]
              have h := HE7.out
              simpa [iV] using h
          case measure => have := HLT.out; simp [intOf]; omega
    · have : j = n := by omega
      subst this
      have HMAY : Hid (∀ x ∈ L, mayL x.l = true) := fun x hx => by
        obtain ⟨t, ht, rfl⟩ := List.mem_iff_getElem.1 hx
        exact HALL.out t ht (by rw [HN.out]; exact ht)
      have HTM : Hid (∀ b ∈ T, mayF b.length = true) := fun b hb => by
        have h := HT.out; subst h
        obtain ⟨x, hx, rfl⟩ := List.mem_map.1 hb
        exact mayF_batch (HMAY.out x hx)
      have HTB : Hid (∀ b ∈ T, isB b = true) := fun b hb => by
        have h := HT.out; subst h
        obtain ⟨x, hx, rfl⟩ := List.mem_map.1 hb
        exact isB_batch (HMAY.out x hx) (HBT.out x hx).2.2.2
      have HEC : Hid (E0 = (catF T).length) := by show _ = _; rw [HE0.out, ← HTL.out, eL_all]
      have hTT : T.take j = T := by rw [← HTL.out, List.take_length]
      rw [hTT] at HO
      obtain ⟨Z, hZ⟩ : ∃ Z, Z = 14 + E0 := ⟨_, rfl⟩
      have HZ := Lib.hid hZ
      rw [← hZ] at HO ⊢
      obtain ⟨C, hC⟩ : ∃ C, C = min q Z := ⟨_, rfl⟩
      have hCZ : C ≤ Z := by omega
      have HCZ := Lib.hid hCZ
      have hcase : ((q : Int) ≤ (Z : Int) ∧ (q : Int) = (C : Int)) ∨ (¬ (q : Int) ≤ (Z : Int) ∧ (Z : Int) < (q : Int) ∧ (Z : Int) = (C : Int)) := by omega
      have hqw : IntKind.i64.wrap (q : Int) = (q : Int) := IntWalk.i64_in _ ⟨by omega, by omega⟩
      have hqC : IntKind.i64.wrap (C : Int) = (C : Int) := IntWalk.i64_in _ ⟨by omega, by omega⟩
      obtain ⟨_, _, heq, hZb, hbm, hbg⟩ := own_slice HO.out
      injection heq with hq1 hq2 hq3
      subst hq1 hq3
      obtain ⟨g, rfl, hgw, _⟩ := hbg (by omega)
      have hCb : (C : Int) ≤ (bc : Int) := by omega
      have hC0 : (0 : Int) ≤ (C : Int) := by omega
      obtain ⟨D, hD⟩ : ∃ D, D = (H ++ catF T).take C := ⟨_, rfl⟩
      have hDl : D.length = C := by rw [hD, List.length_take, List.length_append, HHL.out, ← HEC.out]; omega
      have HD := Lib.hid hD; have HDL := Lib.hid hDl
      have HDR : Hid (Rd wr wr.heap.size (some ⟨g, 0, none⟩) (bV D)) := by show Rd _ _ _ _; rw [hD, bV_take]; exact (Rd.own HO.out).take C
      have hread := read_any (some ⟨g, 0, none⟩) bc D wr HDR.out (by omega) (by omega) hbm
      rw [hDl] at hread
      have HREAD := Lib.hid hread
      clear hC hD hDl hread hbg hZ hTT hZb hbm
      by_cases h14 : C < 14
      · have hE : headOf D = .error 2 := headOf_short (by rw [HDL.out]; exact h14)
        have HHE := Lib.hid hE
        have h14i : (C : Int) < 14 := by omega
        rcases hcase with ⟨hc1, hc2⟩ | ⟨hc1, hc3, hc2⟩
        all_goals
          go_wp2_with fail
          refine HREAD.out.mono ?_
          rintro e w3 ⟨hb3, (⟨er, hh, rfl⟩ | ⟨N', K', v, xs, hh, rfl, _⟩)⟩
          case inr => exfalso; rw [HHE.out] at hh; cases hh
          obtain rfl : er = 2 := by rw [HHE.out] at hh; injection hh with hh; exact hh.symm
          have HB3 := Lib.hid (bel2 HB.out hb3)
          clear hb3 hh
          unfold sgV
          go_wp2_with (go_at_call 10; refine (fixed7_any _).mono ?_; rintro e w' ⟨rfl, hb9⟩)
          go_ret
          exact ⟨rfl, bel2 (HB3.out.alloc HB3.out.size _) hb9⟩
      have h14i : ¬ (C : Int) < 14 := by omega
      have HOK : Hid (headOf D = .ok (9, k)) := by
        show _ = _
        rw [HD.out, HH.out]; exact head_cut 9 k (by omega) hk1 hk16 (by omega)
      have HEn : Hid (∀ t, t ≤ j → eL T t ≤ E0) := fun t ht => by
        have h := eL_mono T (i := t) (j - t) (by rw [HTL.out]; omega)
        rw [show t + (j - t) = j by omega] at h
        rw [HE0.out]; exact h
      have hj8 : j ≤ 8 := by omega
      rcases hcase with ⟨hc1, hc2⟩ | ⟨hc1, hc3, hc2⟩
      all_goals
        go_wp2_with fail
        refine HREAD.out.mono ?_
        rintro e w3 ⟨hb3, (⟨er, hh, rfl⟩ | ⟨N', K', v, xs, hh, rfl, ho3, hbod3, hxs⟩)⟩
        case inl => exfalso; rw [HOK.out] at hh; cases hh
        obtain ⟨rfl, rfl⟩ : 9 = N' ∧ k = K' := by rw [HOK.out] at hh; injection hh with hh; injection hh with h1 h2; exact ⟨h1, h2⟩
        have HB3 := Lib.hid (bel2 HB.out hb3)
        have HE3 := Lib.hid (own_below HE.out hb3)
        have HBS3 : Hid (w.heap.size ≤ wr.heap.size) := HB.out.size
        obtain ⟨va, vc, rfl, _, _, _⟩ := own_slice ho3
        have HX3 := Lib.hid ho3; have HBD3 := Lib.hid hbod3; have HXS := Lib.hid hxs
        clear hb3 hh ho3 hbod3 hxs
        obtain ⟨G, hG⟩ : ∃ G, G = endF 14 (segB D k) := ⟨_, rfl⟩
        obtain ⟨r, hr⟩ : ∃ r, r = decide ((segB D k).length = k) := ⟨_, rfl⟩
        obtain ⟨nx, hnx⟩ : ∃ nx, nx = xs.length := ⟨_, rfl⟩
        have HG := Lib.hid hG; have HRR := Lib.hid hr; have HNX := Lib.hid hnx
        rw [← hG, ← hr, ← hnx]
        rw [← hnx] at HX3
        clear hG hr hnx
        unfold sgV
        go_wp2_with fail
        obtain ⟨w4, hw4⟩ : ∃ w4, w4 = w3.alloc (.cells #[.int .u32 ((9 : Nat) : Int), .int .i64 (k : Int), .slice va nx vc, .int .i64 G, .bool r] 31) := ⟨_, rfl⟩
        have h34 : Below w3.heap.size w3 w4 := by rw [hw4]; exact box1 _ _
        have HRG : Hid (w4.rangeAt w3.heap.size 0 [.int .u32 ((9 : Nat) : Int), .int .i64 (k : Int), .slice va nx vc, .int .i64 G, .bool r]) := by show World.rangeAt _ _ _ _; rw [hw4]; exact rangeAt_last w3 _ _ _ rfl
        have HS4 : Hid (w3.heap.size < w4.heap.size) := by show _ < _; rw [hw4]; simp
        replace hw4 : w4 = w3.alloc (.cells #[.int .u32 9, .int .i64 (k : Int), .slice va nx vc, .int .i64 G, .bool r] 31) := hw4
        rw [← hw4]
        clear hw4
        have HB4 := Lib.hid (bel2 HB3.out h34); have HX4 := Lib.hid (own_below HX3.out h34); have HE4 := Lib.hid (own_below HE3.out h34)
        have HBD4 : Hid (∀ x ∈ xs, BodAt wr.heap.size x w4) := fun x hx => (HBD3.out x hx).below h34
        clear h34
        have s2 := HRG.out 2 _ rfl; have s3 := HRG.out 3 _ rfl; have s4 := HRG.out 4 _ rfl
        rw [Nat.zero_add] at s2 s3 s4
        go_loopw [20, 21, 107] (fun wv pv i wz => ∃ t W M : Nat, t ≤ j ∧ i = .int .i64 t ∧ M = min W k ∧ wv = .int .i64 M ∧ pv = .int .i64 (14 + (eL T M : Nat)) ∧ Whole T (C - 14) t W ∧ wz = w4) (fun _ _ i _ => j - (intOf i).toNat)
        case atStart => exact ⟨0, 0, 0, Nat.zero_le _, rfl, by simp, rfl, by rw [eL_zero]; rfl, Whole.start _ _, rfl⟩
        case round =>
          obtain ⟨t, W, M, ht, rfl, hM, rfl, rfl, hwh, hwz⟩ := hrel
          replace hwz := hwz.symm
          subst hwz
          have HWH := Lib.hid hwh; have HM := Lib.hid hM
          have hWt : W ≤ t := hwh.1
          have hMk : M ≤ k := by omega
          clear hwh hM
          by_cases htl : t < j
          · obtain ⟨F, hF⟩ : ∃ F, F = 14 + eL T (t + 1) := ⟨_, rfl⟩
            have htT : t < T.length := by rw [HTL.out]; exact htl
            have hcv : (iV (ends7 T j))[t]? = some (.int .i64 (F : Int)) := by
              rw [hF]; unfold iV ends7; rw [List.map_map, List.getElem?_map, List.getElem?_range htl]; rfl
            obtain ⟨eb, eo, rfl, _, hcc⟩ := (Rd.own HE4.out) (by rw [iV, List.length_map, ends7, List.length_map, List.length_range]; omega)
            have hcell := hcc t _ hcv
            have hFl : F ≤ 14 + E0 := by rw [hF]; have := HEn.out (t + 1) (by omega); omega
            have HF := Lib.hid hF
            have HTL2 := Lib.hid htl
            clear hcc hcv hF
            by_cases hle : F ≤ C
            · have hle' : (F : Int) ≤ (C : Int) := by omega
              have HLE : Hid (eL T (t + 1) ≤ C - 14) := by show _ ≤ _; have := HF.out; omega
              by_cases hMlt : M < k
              · have hMlt' : (M : Int) < (k : Int) := by omega
                obtain ⟨q1, q2⟩ := HWH.out.count_yes htT HLE.out (by rw [← HM.out]; exact hMlt)
                have Q1 := Lib.hid q1; have Q2 := Lib.hid q2
                clear q1 q2
                go_wp2_with fail
                go_roundw
                case rel => exact ⟨t + 1, t + 1, M + 1, HTL2.out, by go_num, by rw [HM.out]; exact Q1.out, by go_num, by rw [HM.out, Q1.out, ← Q2.out]; have := HF.out; go_num, (HWH.out.yes htT HLE.out).2, trivial⟩
                case measure => have := HTL2.out; simp [intOf]; omega
              · have hMlt' : ¬ (M : Int) < (k : Int) := by omega
                have q1 := HWH.out.count_full htT HLE.out (by rw [← HM.out]; exact hMlt)
                have Q1 := Lib.hid q1
                clear q1
                go_wp2_with fail
                go_roundw
                case rel => exact ⟨t + 1, t + 1, M, HTL2.out, by go_num, by rw [HM.out]; exact Q1.out, rfl, rfl, (HWH.out.yes htT HLE.out).2, trivial⟩
                case measure => have := HTL2.out; simp [intOf]; omega
            · have hle' : ¬ (F : Int) ≤ (C : Int) := by omega
              have HLE : Hid (C - 14 < eL T (t + 1)) := by show _ < _; have := HF.out; omega
              go_wp2_with fail
              go_roundw
              case rel => exact ⟨t + 1, W, M, HTL2.out, by go_num, HM.out, rfl, rfl, HWH.out.no HLE.out, trivial⟩
              case measure => have := HTL2.out; simp [intOf]; omega
          · have : t = j := by omega
            subst this
            have hseg : segB D k = T.take M := by
              rw [HD.out, HM.out]
              exact seg_cut HHL.out HTM.out HTB.out (by omega) (by have := HCZ.out; rw [HZ.out, HEC.out] at this; exact this) (by rw [HTL.out]; exact HWH.out)
            have hMt : M ≤ T.length := by rw [HTL.out]; have := HM.out; omega
            have hlenM : (T.take M).length = M := by rw [List.length_take]; omega
            have hnM : M = nx := by rw [HNX.out, ← hlenM, ← hseg, ← HXS.out, List.length_map]
            have hGM : (14 : Int) + ((eL T M : Nat) : Int) = G := by rw [HG.out, hseg, endF_eL hMt]
            have hrM : ((M : Int) == (k : Int)) = r := by rw [beqI, HRR.out, hseg, hlenM]
            have HXT : Hid (xs.map Bod.b = T.take M) := by show _ = _; rw [HXS.out, hseg]
            have HMT := Lib.hid hMt
            have HNM := Lib.hid hnM
            rw [← hnM] at s2 HRG HX4
            rw [hGM]
            have HGM := Lib.hid hGM
            clear hseg hMt hlenM hnM hGM
            have hMj : M ≤ 8 := by have := HMT.out; rw [HTL.out] at this; omega
            go_wp2_with fail
            clear s2 s3 s4 hrM
            go_loopw [149] (fun i wz => ∃ u : Nat, u ≤ M ∧ i = .int .i64 u ∧ Below w4.heap.size w4 wz) (fun i _ => M - (intOf i).toNat)
            case atStart => exact ⟨0, Nat.zero_le _, rfl, Below.refl _ _⟩
            case round =>
              obtain ⟨u, hu, rfl, hbz⟩ := hrel
              have HBZ := Lib.hid hbz
              have s2 := range_below HRG.out hbz HS4.out 2 _ rfl
              rw [Nat.zero_add] at s2
              clear hbz
              by_cases hult : u < M
              · have HUL := Lib.hid hult
                have huT : u < T.length := by have := HMT.out; omega
                have huL : u < L.length := by rw [← bodL_length, ← HT.out]; exact huT
                have hux : u < xs.length := by
                  have := congrArg List.length HXT.out
                  rw [List.length_map, List.length_take] at this; omega
                obtain ⟨xb, hxb⟩ : ∃ xb, xs[u] = xb := ⟨_, rfl⟩
                have hxbm : xb ∈ xs := by rw [← hxb]; exact List.getElem_mem _
                obtain ⟨y, hy⟩ : ∃ y, L[u] = y := ⟨_, rfl⟩
                have hym : y ∈ L := by rw [← hy]; exact List.getElem_mem _
                have hbb : xb.b = batchL y.l := by
                  have h1 : (xs.map Bod.b)[u]? = some xb.b := by rw [List.getElem?_map, List.getElem?_eq_getElem hux, hxb]; rfl
                  rw [HXT.out, List.getElem?_take, if_pos hult, List.getElem?_eq_getElem huT] at h1
                  injection h1 with h1
                  have h := HT.out
                  subst h
                  rw [← h1, bodL_get huL, hy]
                have hmy := HMAY.out y hym
                have hxok := (HBT.out y hym).2.2.2
                have hgw : getW xb.b = .ok y.l := by rw [hbb]; exact getW_batch hmy hxok
                have hyl : 1 ≤ y.l.length ∧ y.l.length ≤ 32 := by have := mayL_iff.1 hmy; omega
                have hxl : xb.b.length ≤ 1000000000000 := by rw [hbb, batchL_length hmy]; omega
                have hbd := (HBD4.out xb hxbm).kept (Below.to_grown HBZ.out) (by cases xb.v.ownBlock <;> simp)
                obtain ⟨xa, xc, hxv, hxlc, hxcm, _⟩ := own_slice hbd
                obtain ⟨rb2, ro2, rfl, _, hcc⟩ := ((Rd.own HX4.out).below HBZ.out) (by rw [List.length_map]; omega)
                have qx : wr.cell? ⟨rb2, ro2 + u, none⟩ = some xb.v := hcc u _ (by rw [List.getElem?_map, List.getElem?_eq_getElem hux, hxb]; rfl)
                rw [hxv] at qx
                rw [hxv] at hbd
                obtain ⟨nb, hnb⟩ : ∃ nb, nb = xb.b.length := ⟨_, rfl⟩
                rw [← hnb] at qx hxlc
                have hXR := (Rd.own hbd).below (Below.refl wr.heap.size wr)
                have HXR := Lib.hid hXR; have HGW := Lib.hid hgw; have HNB := Lib.hid hnb; have HXL := Lib.hid hxl; have HXLC := Lib.hid hxlc; have HXCM := Lib.hid hxcm
                have HYL := Lib.hid hyl; have HYM := Lib.hid hym; have HYE := Lib.hid hy
                clear hcc hxb hxbm hy hym hbb hmy hxok hgw hyl hxl hbd hxv hnb hXR hxlc hxcm hult
                go_wp2_with fail
                refine (getW_is xa nb xc xb.b HNB.out wr HXR.out HXL.out HXLC.out HXCM.out).mono ?_
                intro e w5 hso
                obtain ⟨a5, c5, rfl, _, _, hr5, hb5⟩ := SpansOut.fine HGW.out hso
                clear hso
                have HB5 : Hid (Below w.heap.size w w5) := bel2 (HB4.out.trans (HBZ.out.mono HB4.out.size)) hb5
                have HZ5 : Hid (Below w4.heap.size w4 w5) := HBZ.out.trans (hb5.mono HBZ.out.size)
                have hyp : 0 < y.l.length := by have := HYL.out; omega
                obtain ⟨lb, lo, hla, hlb, hlc0⟩ := Bt_elem HR.out huL
                rw [HYE.out] at hlc0
                have ql : w5.cell? ⟨lb, lo + u, none⟩ = some (.slice y.a y.l.length y.c) := by rw [HB5.out.cell (p := ⟨lb, lo + u, none⟩) hlb]; exact hlc0
                obtain ⟨b1, o1, rfl, _, e0, e1, e2, e3, e4, e5, e6, e7⟩ := hr5.elem hyp
                obtain ⟨b2, o2, hya, _, f0, f1, f2, f3, f4, f5, f6, f7⟩ := ((HBT.out y HYM.out).1.below HB5.out).elem hyp
                rw [hya] at ql
                simp only [Nat.zero_mul, Nat.add_zero] at e0 e1 e2 e3 e4 e5 e6 e7 f0 f1 f2 f3 f4 f5 f6 f7
                obtain ⟨ny, hny⟩ : ∃ ny, ny = y.l.length := ⟨_, rfl⟩
                rw [← hny] at ql ⊢
                have hny1 : 1 ≤ ny := by omega
                have hny2 : ny ≤ 32 := by have := HYL.out; omega
                generalize y.l[0] = sp at *
                have HS5 : Hid (Below w4.heap.size w4 w5) := HZ5.out
                clear hr5 hb5 hlb hlc0 hyp hny s2
                subst hla
                have i1 : (0 : Int) ≤ (u : Int) := by omega
                have i2 : (u : Int) < (t : Int) := by have := HMT.out; rw [HTL.out] at this; have := HUL.out; omega
                have i3 : (0 : Int) < (ny : Int) := by omega
                go_wp2_with fail
                go_quiet (fail)
                go_wp2_with fail
                go_roundw
                case rel => exact ⟨u + 1, HUL.out, by go_num, Below_drewN HS5.out _⟩
                case measure => have := HUL.out; simp [intOf]; omega
              · have : u = M := by omega
                subst this
                have HB5 : Hid (Below w.heap.size w wr) := HB4.out.trans (HBZ.out.mono HB4.out.size)
                go_wp2_with (go_at_call 10; refine (fixed7_any _).mono ?_; rintro e w' ⟨rfl, hb9⟩)
                go_ret
                exact ⟨rfl, bel2 HB5.out hb9⟩
end Go.Proofs.Ytkaafjcfcknbpaa
