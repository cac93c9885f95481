import Derived.Test.YtkjngmlebflffaaAf
import Derived.Test.YtkjngmlebflffaaSe
namespace Go.Proofs.Ytkjngmlebflffaa
open Go Go.RowKit Go.Sort
set_option linter.unusedVariables false

/-! The law ForestOnce: where each place stands. -/
theorem intV_put (l : List Int) (j : Nat) (x : Int) : (intV l).set j (.int .i64 x) = intV (l.set j x) := by simp [intV, List.map_set]
theorem intV_at {l : List Int} {i : Nat} {x : Int} (h : l[i]? = some x) : (intV l)[i]? = some (.int .i64 x) := by simp [intV, h]
theorem Rd.num' {w : World} {B : Nat} {a : Option Addr} {l : List Int} (h : Rd w B a (intV l)) {i : Nat} {x : Int} (hx : l[i]? = some x) : ∃ b off, a = some ⟨b, off, none⟩ ∧ b < B ∧ w.cell? ⟨b, off + i, none⟩ = some (.int .i64 x) := by
  obtain ⟨hi, rfl⟩ := List.getElem?_eq_some_iff.1 hx
  exact h.num hi
theorem getD_some {l : List Int} {i : Nat} {d x : Int} (h : i < l.length) (e : l.getD i d = x) : l[i]? = some x := by
  rw [← e]; simp [List.getD, h]
def AtI (R : List It) (n : Nat) (A : List Int) (i : Nat) : Prop := A.length = n ∧ ∀ p, p < n → (A.getD p 0 = -1 ∧ ∀ j (h : j < R.length), j < i → R[j].place ≠ p) ∨ ∃ j, ∃ h : j < R.length, j < i ∧ A.getD p 0 = (j : Int) ∧ R[j].place = p
theorem AtI.start (R : List It) (n : Nat) : AtI R n (List.replicate n (-1)) 0 :=
  ⟨by simp, fun p hp => .inl ⟨by simp [List.getD, hp], fun j _ h => absurd h (Nat.not_lt_zero _)⟩⟩
def Once (R : List It) : Prop := ∀ i j (hij : i < j) (hj : j < R.length), R[i].place ≠ R[j].place
theorem AtI.fresh {R : List It} {n i : Nat} {A : List Int} (h : AtI R n A i) (ho : Once R) (hi : i < R.length) (hp : R[i].place < n) : A.getD R[i].place 0 = -1 := by
  rcases h.2 _ hp with c | ⟨j, hj, hji, _, e⟩
  · exact c.1
  · exact absurd e (ho j i hji hi)
theorem AtI.next {R : List It} {n i : Nat} {A : List Int} (h : AtI R n A i) (ho : Once R) (hi : i < R.length) (hp : R[i].place < n) : AtI R n (A.set R[i].place (i : Int)) (i + 1) := by
  have hl := h.1
  refine ⟨by rw [List.length_set]; exact hl, fun p hpn => ?_⟩
  by_cases e : R[i].place = p
  · subst e
    exact .inr ⟨i, hi, Nat.lt_succ_self i, getD_set_self' (by omega), rfl⟩
  · rw [getD_set_ne' e]
    rcases h.2 p hpn with ⟨c1, c2⟩ | ⟨j, hj, hji, c1, c2⟩
    · refine .inl ⟨c1, fun j hj hji => ?_⟩
      by_cases ej : j = i
      · subst ej; exact e
      · exact c2 j hj (by omega)
    · exact .inr ⟨j, hj, by omega, c1, c2⟩
theorem AtI.par {R : List It} {n i k : Nat} {A : List Int} (h : AtI R n A i) (ho : Once R) (hk : k < R.length) (hki : k < i) (hp : R[k].place < n) : A.getD R[k].place 0 = (k : Int) := by
  rcases h.2 _ hp with ⟨_, c2⟩ | ⟨j, hj, hji, c1, c2⟩
  · exact absurd rfl (c2 k hk hki)
  · rcases Nat.lt_trichotomy j k with c | c | c
    · exact absurd c2 (ho j k c hk)
    · subst c; exact c1
    · exact absurd c2.symm (ho k j c hj)
/-- What the row of a forest is. -/
structure RowIs (P : List Int) (n : Nat) (R : List It) : Prop where
  len : R.length = n
  once : Once R
  ok : ∀ i (h : i < R.length), R[i].place < n ∧ R[i].parent = P.getD R[i].place (-1) ∧ R[i].depth ≤ n
  par : ∀ i (h : i < R.length), (R[i].parent = -1 ∧ R[i].depth = 0) ∨ ∃ k, ∃ hk : k < i, (R[k].place : Int) = R[i].parent ∧ R[k].depth + 1 = R[i].depth ∧ ∀ j (hj : j < i), k < j → R[k].depth < R[j].depth
theorem row_is {P : List Int} (hr : rightL P = true) : RowIs P P.length (rowL P) := by
  rw [row_yes hr]
  have h1 := sub_apart hr (-1) 0 (at_root P)
  refine ⟨row_length hr, fun i j hij hj => (List.pairwise_iff_getElem.1 h1 i j (by omega) hj hij).1, fun i h => ?_, fun i h => (sub_good hr (-1) 0 (at_root P)).2 i h⟩
  have := sub_mem hr _ _ (at_root P) _ (List.getElem_mem h)
  exact ⟨this.lv.1, this.par, this.lv.le hr⟩
/-- A row that is filled with -1. -/
def Minus (A : List Int) (n k : Nat) : Prop := A.length = n ∧ ∀ j, j < k → A[j]? = some (-1)
theorem Minus.next {A : List Int} {n k : Nat} (h : Minus A n k) (hk : k < n) : Minus (A.set k (-1)) n (k + 1) := by
  have hl := h.1
  refine ⟨by rw [List.length_set]; exact hl, fun j hj => ?_⟩
  by_cases e : j = k
  · subst e; rw [List.getElem?_set_self (by omega)]
  · rw [List.getElem?_set_ne (by omega)]; exact h.2 j (by omega)
theorem Minus.all {A : List Int} {n : Nat} (h : Minus A n n) : A = List.replicate n (-1) := by
  apply List.ext_getElem?
  intro j
  by_cases hj : j < n
  · rw [h.2 j hj, List.getElem?_replicate, if_pos hj]
  · rw [List.getElem?_eq_none (by have := h.1; omega), List.getElem?_eq_none (by simp; omega)]
set_option maxHeartbeats 8000000 in
set_option maxRecDepth 20000 in
theorem law_once11 (hrow : RowPay 9) (hof : OfPays) (a : Option Addr) (c : Nat) (L : List Sp) (w : World) (ha : Rd w w.heap.size a (flatL L)) (hc1 : L.length ≤ maxLen) (hok : ∀ s ∈ L, s.Ok) :
    Calls Try.prog 5 #[.slice a L.length c] w fun e w' => e = .returned (.bool true) ∧ Below w.heap.size w w' := by
  have HROW := Lib.hid hrow; have HOF := Lib.hid hof; have HA := Lib.hid ha; have HOK := Lib.hid hok; clear hrow hof ha hok
  unfold maxLen at hc1
  by_cases hg : 60 < L.length
  · go_enter Try.func5, Try.ntmps5
    go_wp2_with (go_at_call 7; refine (fixed11_any HROW.out _).mono ?_; rintro e w2 ⟨rfl, hb2⟩)
    go_ret
    exact ⟨rfl, hb2⟩
  have hn60 : L.length ≤ 60 := by omega
  obtain ⟨i0, hi0, hz0, hz1, hz2⟩ := info_parts info_int
  have HZ2 := Lib.hid hz2; clear hz2
  obtain ⟨Q, hQ, hql, hqv, hri⟩ : ∃ Q, Q = cutP (parL L) ∧ Q.length = L.length ∧ ValidP Q ∧ RowIs Q L.length (rowL Q) := by
    have h1 := row_is (rightL_cut (parL_valid L))
    rw [cut_len] at h1
    exact ⟨_, rfl, cut_len L, cutP_valid (parL_valid L), h1⟩
  have HQL := Lib.hid hql; have HQV := Lib.hid hqv; clear hql hqv
  obtain ⟨R, hR, hRI⟩ : ∃ R, R = rowL Q ∧ RowIs Q L.length R := ⟨_, rfl, hri⟩
  have HRI := Lib.hid hRI; clear hri
  have HRL : Hid (R.length = L.length) := hRI.len
  clear hRI
  go_enter Try.func5, Try.ntmps5
  go_wp2_with (first
    | (go_at_call 16
       refine (HOF.out a c L w HA.out (by omega) HOK.out).mono ?_; rintro e w3 ⟨v3, rfl, hown3, hb3⟩
       rw [← hQ] at hown3
       obtain ⟨a3, c3, rfl, _, _, _⟩ := own_slice hown3
       have HO3 := Lib.hid hown3; have HB3 := Lib.hid hb3
       have hrw := HROW.out a3 c3 Q w3 (Rd.own hown3) (by rw [HQL.out]; omega) (fun x hx => by have := HQV.out x hx; rw [HQL.out] at this; omega)
       rw [← hR, HQL.out, HRL.out] at hrw
       have HRW := Lib.hid hrw
       clear hown3 hb3 hrw hQ hR)
    | (go_at_call 9
       refine HRW.out.mono ?_; rintro e w4 ⟨v4, rfl, hown4, hb4⟩
       obtain ⟨a4, c4, rfl, hlc4, hmc4, hg4⟩ := own_slice hown4
       have HO4 := Lib.hid hown4; have HP4 := Lib.hid (own_below HO3.out hb4); have HB4 := Lib.hid (bel2 HB3.out hb4); clear hown4 hb4)
    | (at_make
       refine wpList_make_full _ rfl (.tmp 31) (.tmp 31) 22 rfl w4.heap.size 3 i0 _ 1 Try.underlying22 hi0 hz0 hz1 .i64 .i64 _ _ L.length rfl rfl rfl rfl (by rw [HZ2.out]; omega) (by unfold maxLen; omega) (Nat.le_refl _) ?_
       intro w5 hown5 hg5
       have HB5 := Lib.hid ((RowKit.Below.refl w4.heap.size w4).grown hg5 (Nat.le_refl _) (by simp))
       have HO5 := Lib.hid hown5; clear hown5 hg5))
  have HM5 : Hid (∃ A, Minus A L.length 0 ∧ w5.ownsRow w4.heap.size 3 1 (.slice (some ⟨w4.heap.size, 0, none⟩) L.length L.length) L.length (intV A)) := by
    have e : intV (List.replicate L.length 0) = (madeCells (Value.int .i64 0).cells (L.length * 1)).toList := by
      simp [intV, toList_madeCells_one, Value.cells]
    exact ⟨List.replicate L.length 0, ⟨by simp, fun j h => absurd h (Nat.not_lt_zero _)⟩, by rw [e]; exact HO5.out⟩
  clear HO5 HRW HOK
  go_loopw [35] (fun i wr => ∃ (n : Nat) (A : List Int), n ≤ L.length ∧ i = .int .i64 n ∧ Minus A L.length n ∧ wr.ownsRow w4.heap.size 3 1 (.slice (some ⟨w4.heap.size, 0, none⟩) L.length L.length) L.length (intV A) ∧ Below w4.heap.size w4 wr) (fun i _ => L.length - (intOf i).toNat)
  case atStart =>
    obtain ⟨A, h1, h2⟩ := HM5.out
    exact ⟨0, A, Nat.zero_le _, rfl, h1, h2, HB5.out⟩
  clear HM5 HB5
  case round =>
    obtain ⟨n, A, hn, rfl, hmi, hown, hb⟩ := hrel
    have HMI := Lib.hid hmi; have HO := Lib.hid hown; have HB := Lib.hid hb; clear hmi hown hb
    generalize wr = W1 at *
    by_cases hlt : n < L.length
    · have i3 : (n : Int) < (L.length : Int) := by omega
      have i4 : (0 : Int) ≤ (n : Int) := by omega
      have hna : n < A.length := by rw [HMI.out.1]; exact hlt
      have hcl := HO.out.cellAt n (by omega)
      rw [intV_get hna] at hcl
      generalize A[n] = q at *
      have hfr := HO.out.frozenAt n
      have hst := HO.out.stored n (.int .i64 (-1))
      rw [intV_put] at hst
      have HST := Lib.hid hst; have HMN := Lib.hid (HMI.out.next hlt)
      have HBN := Lib.hid (HB.out.setCell (p := ⟨w4.heap.size, n, none⟩) (Nat.le_refl _) (.int .i64 (-1)))
      clear hst
      go_wp2_with fail
      go_roundw
      case rel => exact ⟨n + 1, _, by omega, by go_num, HMN.out, HST.out.1, HBN.out⟩
      case measure => simp [intOf]; omega
    · obtain rfl : n = L.length := by omega
      have HA0 : Hid (AtI R L.length A 0) := by rw [HMI.out.all]; exact AtI.start _ _
      clear HMI
      go_wp2_with fail
      go_loopw [44] (fun i wr => ∃ (n : Nat) (A : List Int), n ≤ L.length ∧ i = .int .i64 n ∧ AtI R L.length A n ∧ wr.ownsRow w4.heap.size 3 1 (.slice (some ⟨w4.heap.size, 0, none⟩) L.length L.length) L.length (intV A) ∧ Below w4.heap.size w4 wr) (fun i _ => L.length - (intOf i).toNat)
      case atStart => exact ⟨0, A, Nat.zero_le _, rfl, HA0.out, HO.out, HB.out⟩
      clear HA0 HO HB hn hlt
      clear A
      case round =>
        obtain ⟨n, A, hn, rfl, hat, hown, hb⟩ := hrel
        have HAT := Lib.hid hat; have HO := Lib.hid hown; have HB := Lib.hid hb; clear hat hown hb
        generalize wr = W2 at *
        by_cases hlt : n < L.length
        · obtain ⟨g4, rfl, hg4a, hg4b⟩ := hg4 (by omega)
          clear hg4
          have hnR : n < R.length := by rw [HRL.out]; exact hlt
          obtain ⟨b1, o1, ha1, _, c0, c1, c2⟩ := (Rd.own (own_below HO4.out HB.out)).item hnR
          obtain ⟨rfl, rfl⟩ := And.intro (Addr.mk.inj (Option.some.inj ha1)).1 (Addr.mk.inj (Option.some.inj ha1)).2.1
          simp only [Nat.zero_add] at c0 c1 c2
          clear ha1
          have hpack : ∃ x : It, R[n] = x ∧ (x.place < L.length ∧ x.depth ≤ L.length) ∧ Q[x.place]? = some x.parent ∧ A[x.place]? = some (-1) ∧ AtI R L.length (A.set x.place (n : Int)) (n + 1) ∧
              ((x.parent = -1 ∧ x.depth = 0) ∨ ∃ k, ∃ hk : k < n, (R[k].place : Int) = x.parent ∧ R[k].depth + 1 = x.depth ∧ ∀ j (hj : j < n), k < j → R[k].depth < R[j].depth) := by
            obtain ⟨p1, p2, p3⟩ := HRI.out.ok n hnR
            exact ⟨_, rfl, ⟨p1, p3⟩, getD_some (by rw [HQL.out]; exact p1) p2.symm, getD_some (by rw [HAT.out.1]; exact p1) (HAT.out.fresh HRI.out.once hnR p1), HAT.out.next HRI.out.once hnR p1, HRI.out.par n hnR⟩
          obtain ⟨x, hx, ⟨p1, p3⟩, eq0, ea0, hnx, hpar⟩ := hpack
          rw [hx] at c0 c1 c2
          have HPAR := Lib.hid hpar; have HNX := Lib.hid hnx; clear hpar hnx hx
          have i3 : (n : Int) < (L.length : Int) := by omega
          have i4 : (0 : Int) ≤ (n : Int) := by omega
          have HBX := Lib.hid (BxI.new W2 x 35)
          have HBV := Lib.hid (HB.out.alloc HB.out.size (.cells x.c 35))
          have HOV := Lib.hid (own_below HO.out (box1 W2 (.cells x.c 35)))
          have hbw : w4.heap.size < W2.heap.size := (own_shape HO.out rfl).2.1
          simp only [It.c] at HBX HBV HOV
          go_wp2_with fail
          clear c0 c1 c2 HO HB
          generalize (W2.alloc (.cells #[.int .i64 (x.place : Int), .int .i64 (x.depth : Int), .int .i64 x.parent] 35)) = V1 at *
          generalize W2.heap.size = bx at *
          obtain ⟨_, d0, d1, d2⟩ := HBX.out
          have hcl := HOV.out.cellAt x.place (by omega)
          rw [intV_at ea0] at hcl
          obtain ⟨b5, o5, ha5, _, q0⟩ := (Rd.own (own_below HP4.out HBV.out)).num' eq0
          subst ha5
          have e1 : decide ((x.place : Int) < 0) = false := decide_eq_false (by omega)
          have e2 : decide ((L.length : Int) ≤ (x.place : Int)) = false := decide_eq_false (by omega)
          have e3 : decide (L.length ≤ x.place) = false := decide_eq_false (by omega)
          have i5 : (x.place : Int) < (L.length : Int) := by omega
          have i6 : (0 : Int) ≤ (x.place : Int) := by omega
          go_quiet (fail)
          clear d0 d1 d2 hcl q0
          have hb2 : Below V1.heap.size V1 (V1.drewN nq) := Below_drewN (Below.refl _ _) nq
          have HBX2 := Lib.hid (HBX.out.below hb2 HBX.out.1)
          have HOV2 := Lib.hid (own_below HOV.out hb2)
          have HBV2 := Lib.hid (HBV.out.trans (hb2.mono HBV.out.size))
          clear hb2 HBX HOV HBV e1 e2 e3
          generalize V1.drewN nq = V2 at *
          have hcl := HOV2.out.cellAt x.place (by omega)
          rw [intV_at ea0] at hcl
          have hfr := HOV2.out.frozenAt x.place
          have hst := HOV2.out.stored x.place (.int .i64 (n : Int))
          rw [intV_put] at hst
          have HO3 := Lib.hid hst.1
          have HBX3 := Lib.hid (HBX2.out.grown hst.2 (by simp; omega))
          have HBV3 := Lib.hid (HBV2.out.setCell (p := ⟨w4.heap.size, x.place, none⟩) (Nat.le_refl _) (.int .i64 (n : Int)))
          clear hst
          obtain ⟨_, d0, d1, d2⟩ := HBX2.out
          rcases HPAR.out with ⟨hp, hd⟩ | ⟨k, hk, hp, hd, hbet⟩
          · obtain ⟨_, f0, f1, f2⟩ := HBX3.out
            rw [hp] at f2
            rw [hd] at f1
            clear HPAR hp hd
            go_wp2_with fail
            go_roundw
            case rel => exact ⟨n + 1, _, by omega, by go_num, HNX.out, HO3.out, HBV3.out⟩
            case measure => simp [intOf]; omega
          · have hkR : k < R.length := by omega
            obtain ⟨r1, _, r3⟩ := HRI.out.ok k hkR
            have hpk : (A.set x.place (n : Int))[R[k].place]? = some (k : Int) := getD_some (by rw [HNX.out.1]; exact r1) (HNX.out.par HRI.out.once hkR (by omega) r1)
            obtain ⟨_, f0, f1, f2⟩ := HBX3.out
            rw [← hp] at f2
            rw [← hd] at f1
            have hcl3 := HO3.out.cellAt R[k].place (by omega)
            rw [intV_at hpk] at hcl3
            obtain ⟨b1, o1, ha1, _, g0, g1, g2⟩ := (Rd.own (own_below HO4.out HBV3.out)).item hkR
            obtain ⟨rfl, rfl⟩ := And.intro (Addr.mk.inj (Option.some.inj ha1)).1 (Addr.mk.inj (Option.some.inj ha1)).2.1
            simp only [Nat.zero_add] at g0 g1 g2
            clear ha1
            have HBET : Hid (∀ j (hj : j < R.length), j < n → k < j → R[k].depth < R[j].depth) := fun j _ hj hkj => hbet j hj hkj
            obtain ⟨y, hy⟩ : ∃ y, R[k] = y := ⟨_, rfl⟩
            have HYE := Lib.hid hy
            simp only [hy] at f1 f2 hcl3 g0 g1 g2 HBET r1 r3
            clear hy hpk hp hd hbet HPAR g0 g2
            have k1 : decide ((k : Int) < 0) = false := decide_eq_false (by omega)
            have k2 : (k : Int) < (L.length : Int) := by omega
            have k3 : (0 : Int) ≤ (k : Int) := by omega
            have k4 : (y.place : Int) < (L.length : Int) := by omega
            have k5 : (0 : Int) ≤ (y.place : Int) := by omega
            have k6 : IntKind.i64.wrap ((k : Int) + 1) = (k : Int) + 1 := IntWalk.i64_in _ (by omega)
            have k7 : IntKind.i64.wrap (y.depth : Int) = (y.depth : Int) := IntWalk.i64_in _ (by omega)
            have k8 : ((y.depth + 1 : Nat) : Int) - 1 = (y.depth : Int) := by omega
            go_wp2_with fail
            go_quiet (fail)
            clear f0 f1 f2 hcl3 g1 d0 d1 d2 hcl hfr
            have hb4 : Below (V2.setCell ⟨w4.heap.size, x.place, none⟩ (.int .i64 (n : Int))).heap.size (V2.setCell ⟨w4.heap.size, x.place, none⟩ (.int .i64 (n : Int))) ((V2.setCell ⟨w4.heap.size, x.place, none⟩ (.int .i64 (n : Int))).drewN nq) := Below_drewN (Below.refl _ _) nq
            have HO6 := Lib.hid (own_below HO3.out hb4)
            have HBV6 := Lib.hid (HBV3.out.trans (hb4.mono HBV3.out.size))
            clear hb4 HO3 HBX3 HBV3 HBX2 HOV2 HBV2
            generalize (V2.setCell ⟨w4.heap.size, x.place, none⟩ (.int .i64 (n : Int))).drewN nq = V6 at *
            have m1 : ¬ (c4 - (k + 1) = 0) := by omega
            have m2 : ¬ ((c4 : Int) - ((k : Int) + 1) = 0) := by omega
            have m3 : (k : Int) + 1 ≤ (n : Int) := by omega
            have m4 : (n : Int) ≤ (c4 : Int) := by omega
            have m5 : ((k : Int) + 1).toNat = k + 1 := by omega
            go_wp2_with fail
            clear m1 m2 m3 m4 m5 k1 k6 k7 k8
            go_loopw [112] (fun i wr => ∃ j : Nat, j ≤ n - (k + 1) ∧ i = .int .i64 (j : Int) ∧ Below V6.heap.size V6 wr) (fun i _ => n - (k + 1) - (intOf i).toNat)
            case atStart => exact ⟨0, Nat.zero_le _, rfl, Below.refl _ _⟩
            case round =>
              obtain ⟨j, hj, rfl, hb7⟩ := hrel
              have HB7 := Lib.hid hb7; clear hb7
              generalize wr = W7 at *
              by_cases hjl : j < n - (k + 1)
              · have hzR : k + 1 + j < R.length := by omega
                have HR7 := Lib.hid (own_below HO4.out (HBV6.out.trans (HB7.out.mono HBV6.out.size)))
                obtain ⟨b1, o1, ha1, _, c0, c1, c2⟩ := (Rd.own HR7.out).item hzR
                obtain ⟨rfl, rfl⟩ := And.intro (Addr.mk.inj (Option.some.inj ha1)).1 (Addr.mk.inj (Option.some.inj ha1)).2.1
                have hlt7 := HBET.out (k + 1 + j) hzR (by omega) (by omega)
                simp only [Nat.zero_add] at c0 c1 c2
                rw [show (k + 1 + j) * 3 = (k + 1) * 3 + j * 3 by omega] at c0 c1 c2
                have hg1 : (W7.alloc (.cells R[k + 1 + j].c 35)).cell? ⟨g4, k * 3 + 1, none⟩ = some (.int .i64 (y.depth : Int)) := by
                  obtain ⟨b2, o2, ha2, _, _, g1, _⟩ := (Rd.own (own_below HR7.out (box1 W7 (.cells R[k + 1 + j].c 35)))).item hkR
                  obtain ⟨rfl, rfl⟩ := And.intro (Addr.mk.inj (Option.some.inj ha2)).1 (Addr.mk.inj (Option.some.inj ha2)).2.1
                  rw [Nat.zero_add] at g1
                  rw [g1, HYE.out]
                obtain ⟨z, hz⟩ : ∃ z, R[k + 1 + j] = z := ⟨_, rfl⟩
                rw [hz] at c0 c1 c2 hlt7 hg1
                clear ha1 hz HR7
                obtain ⟨_, d0, d1, d2⟩ := BxI.new W7 z 35
                simp only [It.c] at hg1 d0 d1 d2
                have n1 : (j : Int) < ((n - (k + 1) : Nat) : Int) := by omega
                have n2 : (0 : Int) ≤ (j : Int) := by omega
                have n3 : decide ((z.depth : Int) ≤ (y.depth : Int)) = false := decide_eq_false (by omega)
                have n4 : decide (z.depth ≤ y.depth) = false := decide_eq_false (by omega)
                have HB8 := Lib.hid (HB7.out.alloc HB7.out.size (.cells z.c 35))
                simp only [It.c] at HB8
                go_wp2_with fail
                go_quiet (fail)
                go_wp2_with fail
                go_roundw
                case rel => exact ⟨j + 1, by omega, by go_num, Below_drewN HB8.out _⟩
                case measure => simp [intOf]; omega
              · have HBE := Lib.hid (HBV6.out.trans (HB7.out.mono HBV6.out.size))
                have HOE := Lib.hid (own_below HO6.out HB7.out)
                go_wp2_with fail
                go_roundw
                case rel => exact ⟨n + 1, _, by omega, by go_num, HNX.out, HOE.out, HBE.out⟩
                case measure => simp [intOf]; omega
        · go_wp2_with (go_at_call 7; refine (fixed11_any HROW.out _).mono ?_; rintro e w5 ⟨rfl, hb5⟩)
          go_ret
          exact ⟨rfl, bel2 (bel2 HB4.out HB.out) hb5⟩
end Go.Proofs.Ytkjngmlebflffaa
