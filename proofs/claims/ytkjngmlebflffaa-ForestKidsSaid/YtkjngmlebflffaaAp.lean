import Derived.Test.YtkjngmlebflffaaAo
import Derived.Test.YtkjngmlebflffaaAi
namespace Go.Proofs.Ytkjngmlebflffaa
open Go Go.RowKit Go.Sort
set_option linter.unusedVariables false

/-! The landed code: what is below a place is laid into the row (stage 11). -/
theorem setsL_mid : ∀ (us c X Y : List Value), c.length = us.length → setsL (X ++ (c ++ Y)) X.length us = X ++ (us ++ Y)
  | [], c, X, Y, h => by
    obtain rfl : c = [] := List.eq_nil_of_length_eq_zero h
    rfl
  | v :: r, [], X, Y, h => by simp at h
  | v :: r, c0 :: c, X, Y, h => by
    have e : (X ++ (c0 :: c ++ Y)).set X.length v = (X ++ [v]) ++ (c ++ Y) := by
      rw [List.set_append_right _ _ (Nat.le_refl _), Nat.sub_self]; simp
    rw [setsL, e, show X.length + 1 = (X ++ [v]).length by simp, setsL_mid r c (X ++ [v]) Y (by simpa using h)]
    simp
theorem its_set (X Y : List It) (a x : It) : setsL (itsV (X ++ a :: Y)) (X.length * 3) x.c.toList = itsV (X ++ x :: Y) := by
  have e1 : ∀ z : It, itsV (X ++ z :: Y) = itsV X ++ (z.c.toList ++ itsV Y) := fun z => by
    rw [show X ++ z :: Y = X ++ ([z] ++ Y) by simp, itsV_append, itsV_append, itsV_single]
  rw [e1, e1, ← itsV_length X]
  exact setsL_mid _ _ _ _ (by simp [It.c])
/-- Where the closure's variables lie, and what they hold. -/
structure LK where
  kb : Nat
  sb : Nat
  rb : Nat
  lb : Nat
  br : Nat
  ak : Option Addr
  ck : Nat
  sa : Option Addr
  cs : Nat
  S : List Int
def LK.caps (k : LK) : Array Value := #[.pointer (some ⟨k.kb, 0, none⟩), .pointer (some ⟨k.sb, 0, none⟩), .pointer (some ⟨k.rb, 0, none⟩), .pointer (some ⟨k.lb, 0, none⟩)]
structure LS (w : World) (base : Nat) (P : List Int) (k : LK) (R : List It) : Prop where
  bk : w.cell? ⟨k.kb, 0, none⟩ = some (.slice k.ak (P.length + 1) k.ck)
  bs : w.cell? ⟨k.sb, 0, none⟩ = some (.slice k.sa P.length k.cs)
  bb : w.cell? ⟨k.rb, 0, none⟩ = some (.slice (some ⟨k.br, 0, none⟩) P.length P.length)
  bl : w.cell? ⟨k.lb, 0, none⟩ = some (.func (.func 20) #[] k.caps)
  kd : KD w k.br k.ak P
  sz : Rd w k.br k.sa (intV k.S)
  own : w.ownsRow base 35 3 (.slice (some ⟨k.br, 0, none⟩) P.length P.length) P.length (itsV R)
  kne : k.kb ≠ k.br
  sne : k.sb ≠ k.br
  bne : k.rb ≠ k.br
  lne : k.lb ≠ k.br
theorem LS.lt {w : World} {base : Nat} {P : List Int} {k : LK} {R : List It} (h : LS w base P k R) : k.br < w.heap.size := (own_shape h.own rfl).2.1
theorem LS.len {w : World} {base : Nat} {P : List Int} {k : LK} {R : List It} (h : LS w base P k R) : R.length = P.length := by
  have := h.own.1
  rw [itsV_length] at this; omega
theorem grown_cell {w w' : World} {r b : Nat} {v : Value} (hg : w.grownBy w' (some r)) (hne : b ≠ r) (h : w.cell? ⟨b, 0, none⟩ = some v) : w'.cell? ⟨b, 0, none⟩ = some v := by
  have hb := block_lt_of_cell h
  rw [World.cell?_of_block (a := ⟨b, 0, none⟩) (hg.block b hb (by simp [hne]))]; exact h
theorem LS.step {w w' : World} {base : Nat} {P : List Int} {k : LK} {R R' : List It} (h : LS w base P k R) (hg : w.grownBy w' (some k.br)) (ho : w'.ownsRow base 35 3 (.slice (some ⟨k.br, 0, none⟩) P.length P.length) P.length (itsV R')) : LS w' base P k R' := by
  have hb : Below k.br w w' := (Below.refl k.br w).grown hg (Nat.le_of_lt h.lt) (fun g e => by injection e with e; omega)
  exact ⟨grown_cell hg h.kne h.bk, grown_cell hg h.sne h.bs, grown_cell hg h.bne h.bb, grown_cell hg h.lne h.bl, h.kd.below hb, h.sz.below hb, ho, h.kne, h.sne, h.bne, h.lne⟩
theorem grown_of_below {w w' : World} (h : Below w.heap.size w w') (r : Option Nat) : w.grownBy w' r := ⟨h.os, h.tape, h.output, h.size, fun k hk _ => h.block k hk⟩
theorem LS.below {w w' : World} {base : Nat} {P : List Int} {k : LK} {R : List It} (h : LS w base P k R) (hb : Below w.heap.size w w') : LS w' base P k R := h.step (grown_of_below hb _) (own_below h.own hb)
/-- One item is set. -/
theorem LS.set {w : World} {base : Nat} {P : List Int} {k : LK} {X Y : List It} {a : It} (h : LS w base P k (X ++ a :: Y)) (x : It) : LS (w.setCells k.br (X.length * 3) x.c.toList) base P k (X ++ x :: Y) ∧ w.grownBy (w.setCells k.br (X.length * 3) x.c.toList) (some k.br) := by
  obtain ⟨h1, h2⟩ := own_setCells x.c.toList (X.length * 3) _ _ h.own
  rw [its_set] at h1
  exact ⟨h.step h2 h1, h2⟩
/-- What laying below a place pays. -/
def LayC (P : List Int) (x : Int) (d : Nat) : Prop := ∀ (w : World) (base : Nat) (k : LK) (A M B : List It), LS w base P k (A ++ (M ++ B)) → M.length = (sub P x d).length → k.S.length = P.length → (∀ j, j < P.length → ∃ s : Nat, k.S[j]? = some (s : Int) ∧ Sz P j s) →
  Calls Try.prog 20 (#[.int .i64 x, .int .i64 (d : Int), .int .i64 (A.length : Int)] ++ k.caps) w fun e w' => (∃ v, e = .returned v) ∧ LS w' base P k (A ++ (sub P x d ++ B)) ∧ w.grownBy w' (some k.br)
theorem size_item : (Try.prog.info? 35).map (·.size) = some 3 := by kernel_rfl
theorem item_one (x : It) : x.c.all (·.oneCell') = true := by simp [It.c, Value.oneCell']
theorem drop_flat {P : List Int} {x : Int} {d j : Nat} {K : List Nat} (hj : j < K.length) : (K.drop j).flatMap (blk P x d) = blk P x d K[j] ++ (K.drop (j + 1)).flatMap (blk P x d) := by
  rw [List.drop_eq_getElem_cons hj, List.flatMap_cons]
theorem split_len {α : Type} {M : List α} {a b : Nat} (h : M.length = a + 1 + b) : ∃ m0 M1 M2, M = m0 :: (M1 ++ M2) ∧ M1.length = a ∧ M2.length = b := by
  cases M with
  | nil => simp at h; omega
  | cons m0 r => exact ⟨m0, r.take a, r.drop a, by rw [List.take_append_drop], by rw [List.length_take]; simp at h; omega, by rw [List.length_drop]; simp at h; omega⟩
set_option maxHeartbeats 8000000 in
theorem lay_step {P : List Int} (hr : rightL P = true) (hl : P.length ≤ 100000) {d0 : Nat} (ih : ∀ x d, d0 < d → AtD P x d → LayC P x d) (x0 : Int) (ha0 : AtD P x0 d0) : LayC P x0 d0 := by
  intro w base k A0 M0 B0 hS hM hSl hSz
  obtain ⟨m, hm⟩ : ∃ m, P.length + 1 = m := ⟨_, rfl⟩
  have HIH := Lib.hid ih; have HSZ := Lib.hid hSz; have HS0 := Lib.hid hS
  obtain ⟨F, hF⟩ : ∃ F, A0 ++ (sub P x0 d0 ++ B0) = F := ⟨_, rfl⟩
  rw [hF]
  have hn := hS.len
  clear ih hSz hS
  unfold LK.caps
  simp only [List.append_toArray, List.cons_append, List.nil_append]
  go_enter Try.func20, Try.ntmps20
  go_wp2_with fail
  go_loopw [0, 1, 2] (fun vx vd vt wr => ∃ (x : Int) (d : Nat) (A M B : List It), vx = .int .i64 x ∧ vd = .int .i64 (d : Int) ∧ vt = .int .i64 (A.length : Int) ∧ d0 ≤ d ∧ AtD P x d ∧ M.length = (sub P x d).length ∧ A ++ (sub P x d ++ B) = F ∧ LS wr base P k (A ++ (M ++ B)) ∧ w.grownBy wr (some k.br)) (fun _ vd _ _ => P.length + 2 - (intOf vd).toNat)
  case atStart => exact ⟨x0, d0, A0, M0, B0, rfl, rfl, rfl, Nat.le_refl _, ha0, hM, hF, HS0.out, World.grownBy.refl _ _⟩
  case round =>
    obtain ⟨x, d, A, M, B, rfl, rfl, rfl, hdd, hat, hM1, hF1, hS1, hg1⟩ := hrel
    have HAT := Lib.hid hat; have HF := Lib.hid hF1; have HS := Lib.hid hS1; have HG := Lib.hid hg1; have HM := Lib.hid hM1
    have hdl := hat.le hr
    obtain ⟨y, hy⟩ : ∃ y : Nat, x + 1 = (y : Int) ∧ y < P.length + 1 := by
      rcases hat with ⟨rfl, _⟩ | ⟨q, e, rfl, _, hq⟩
      · exact ⟨0, rfl, by omega⟩
      · have := hq.1; exact ⟨q + 1, by omega, by omega⟩
    obtain ⟨hy, hyl⟩ := hy
    obtain ⟨K, hK⟩ : ∃ K, kidsL P x = K := ⟨_, rfl⟩
    have hkl := kids_le P x
    have HSUB := Lib.hid (sub_blk hr hat)
    have HKN := Lib.hid (kids_nd P x)
    have HKD := Lib.hid (fun q (hq : q ∈ K) => mem_kids.1 (show q ∈ kidsL P x by rw [hK]; exact hq))
    have HKA := Lib.hid (fun q (hq : q ∈ K) => hat.kid (show q ∈ kidsL P x by rw [hK]; exact hq))
    rw [hK] at HSUB HKN hkl
    obtain ⟨b1, o1, ha1, hb1, u1, c1, hc1, hu1⟩ := hS1.kd.get (j := y) (K := K) hyl (by unfold kd; rw [← hK]; congr 1; omega)
    have HU := Lib.hid hu1
    have e1 := hS1.bk
    have e2 := hS1.bs
    rw [ha1] at e1
    rw [hm] at e1 hyl
    have i3 : (y : Int) < (m : Int) := by omega
    have i4 : (0 : Int) ≤ (y : Int) := by omega
    have i5 : IntKind.i64.wrap (x + 1) = (y : Int) := by rw [IntWalk.i64_in _ (by omega)]; omega
    have hbr := hS1.lt
    clear hat hF1 hS1 hg1 hM1 hu1
    generalize wr = W1 at *
    by_cases hk0 : K.length = 0
    · have i6 : ¬ ((K.length : Int) > 0) := by omega
      obtain rfl : K = [] := List.eq_nil_of_length_eq_zero hk0
      have e3 : sub P x d = [] := by rw [HSUB.out]; rfl
      have e4 : M = [] := List.eq_nil_of_length_eq_zero (by rw [HM.out, e3]; rfl)
      have HE : Hid (A ++ (M ++ B) = F) := by show _ = _; rw [← HF.out, e3, e4]
      go_wp2_with fail
      go_end0
      exact ⟨⟨_, rfl⟩, by rw [← HE.out]; exact HS.out, HG.out⟩
    · have i6 : (0 : Int) < (K.length : Int) := by omega
      have i7 : 0 < K.length := by omega
      obtain ⟨b7, o7, ha7, hlt7, _⟩ := HS.out.sz.num (i := 0) (by omega)
      have HSZ1 := Lib.hid (HS.out.sz.more (Nat.le_of_lt hbr))
      rw [ha7] at e2 HSZ1
      have HA7 := Lib.hid ha7; clear ha7
      obtain ⟨l, hll, hlg⟩ := bigL_at k.S (K := K) (by omega)
      have HLG := Lib.hid hlg
      have q1 := block_lt_of_cell e1
      have q2 := block_lt_of_cell e2
      simp only at q1 q2
      have hb1' : b1 < W1.heap.size := by omega
      have HU1 := Lib.hid (HU.out.more (Nat.le_of_lt hbr))
      clear hlg
      go_wp2_with fail
      have hcg : ∀ d os m o, m < W1.heap.size → (grow (redrawn W1 d) os).cell? ⟨m, o, none⟩ = W1.cell? ⟨m, o, none⟩ := fun d os m o h => (below_regrown W1 d os).cell h
      refine wp_region_quiet_below (by kernel_rfl) (by kernel_rfl) ?_
      iterate 9 (first | go_big_quiet_step (first | (go_at_call 21; exact Calls.regrown_of (largest_any u1 (some ⟨b7, o7, none⟩) k.cs c1 P.length K k.S _ hSl (by omega) (fun q hq => (HKD.out q hq).1) ((HU1.out.below (below_regrown W1 _ _)).more (below_regrown W1 _ _).size) ((HSZ1.out.below (below_regrown W1 _ _)).more (below_regrown W1 _ _).size) hl (by omega)))) | fail)
      refine wpQuiet_nil ?_
      intro W3 hw3
      obtain ⟨⟨d3, os⟩, hw3'⟩ := hw3
      have hb3 := below_regrown W1 d3 os
      rw [← hw3'] at hb3
      have HS3 := Lib.hid (HS.out.below hb3)
      have HG3 := Lib.hid (grownBy_step HG.out (grown_of_below hb3 _))
      have e1 := (hb3.cell (p := ⟨k.kb, 0, none⟩) q1).trans e1
      have hc1 := (hb3.cell (p := ⟨b1, o1 + y, none⟩) hb1').trans hc1
      have HU3 := Lib.hid (HU.out.below (hb3.mono (Nat.le_of_lt hbr)))
      have hbr3 := HS3.out.lt
      clear hw3' hcg hb3 e2 q1 q2 HU1 HSZ1 HU HS HG
      obtain ⟨g, hg⟩ : ∃ g, bigL k.S K = g := ⟨_, rfl⟩
      rw [hg]
      rw [hg] at HLG
      clear hg
      go_wp2_with fail
      obtain ⟨LA, hLA⟩ : ∃ LA : Nat → Nat, LA = fun j => if l < j then A.length + ((K.take l).flatMap (blk P x d)).length + 1 else 0 := ⟨_, rfl⟩
      have HLA := Lib.hid hLA
      have LA0 : LA 0 = 0 := by rw [hLA]; simp
      clear hLA
      go_loopw [2, 11, 34] (fun vt vl vi wr => ∃ (j : Nat) (D M2 : List It), j ≤ K.length ∧ vi = .int .i64 (j : Int) ∧ vt = .int .i64 ((A ++ D).length : Int) ∧ vl = .int .i64 (LA j : Int) ∧ Laid P x d K l j D ∧ M2.length = ((K.drop j).flatMap (blk P x d)).length ∧ LS wr base P k (A ++ (D ++ (M2 ++ B))) ∧ W3.grownBy wr (some k.br)) (fun _ _ vi _ => K.length - (intOf vi).toNat)
      case atStart => exact ⟨0, [], M, Nat.zero_le _, rfl, by simp, by rw [LA0]; rfl, Laid.start _ _ _ _ _, by rw [HM.out, HSUB.out]; rfl, HS3.out, World.grownBy.refl _ _⟩
      clear hc1 e1
      case round =>
        obtain ⟨j, D, M2, hj, rfl, rfl, rfl, hD, hM2, hS4, hg4⟩ := hrel
        have HD := Lib.hid hD; have HS4 := Lib.hid hS4; have HG4 := Lib.hid hg4
        have HU4 := Lib.hid (HU3.out.below ((Below.refl k.br W3).grown hg4 (Nat.le_of_lt hbr3) (fun r e => by injection e with e; omega)))
        have hlen := hS4.len
        generalize wr = W4 at *
        by_cases hlt : j < K.length
        · obtain ⟨b6, o6, ha6, hlt6, hc6⟩ := HU4.out.num (i := j) (by rw [natI_length]; exact hlt)
          rw [natI_get hlt] at hc6
          subst ha6
          have HMEM := Lib.hid (List.getElem_mem hlt)
          have HOTH := Lib.hid (fun (h : j ≠ l) => hD.other hlt h)
          have HGR := Lib.hid (fun (h : j = l) (ML : List It) (hm : ML.length = (sub P (K[j] : Int) (d + 1)).length) => (show Laid P x d K j j D by rw [h] at hD ⊢; exact hD).great hlt hm)
          have HEQ : Hid (K[j] = g ↔ j = l) := ⟨fun e => nd_at HKN.out hlt hll (e.trans HLG.out.symm), fun e => by subst e; exact HLG.out⟩
          rw [drop_flat hlt] at hM2
          obtain ⟨q, hq⟩ : ∃ q, K[j] = q := ⟨_, rfl⟩
          rw [hq] at hM2 hc6 HMEM HEQ
          have hqP := (HKD.out q HMEM.out).1
          have hqL := HKA.out q HMEM.out
          obtain ⟨s, hs1, hs2⟩ := HSZ.out q hqP
          have hs3 := hs2.blk (x := x) hqL
          have hsl : (sub P (q : Int) (d + 1)).length + 1 = s := by rw [← hs3]; rfl
          rw [List.length_append, hs3] at hM2
          obtain ⟨m0, M3, M4, rfl, hM3, hM4⟩ := split_len (a := (sub P (q : Int) (d + 1)).length) (b := ((K.drop (j + 1)).flatMap (blk P x d)).length) (M := M2) (by omega)
          obtain ⟨t, ht⟩ : ∃ t, (A ++ D).length = t := ⟨_, rfl⟩
          have htl : t < P.length := by
            rw [← hlen, ← ht]
            simp only [List.length_append, List.length_cons]; omega
          have hsle := hs2.le hr
          have hR : A ++ (D ++ (m0 :: (M3 ++ M4) ++ B)) = (A ++ D) ++ m0 :: (M3 ++ (M4 ++ B)) := by simp
          rw [hR] at hS4
          have HT := Lib.hid (own_thereN hS4.own htl)
          obtain ⟨hS5, hg5⟩ := hS4.set ⟨q, d, x⟩
          rw [ht] at hS5 hg5
          have HS5 := Lib.hid hS5; have HG5 := Lib.hid (grownBy_step hg4 hg5)
          have e5 := hS4.bb
          rw [ht]
          have j3 : (j : Int) < (K.length : Int) := by omega
          have j4 : (0 : Int) ≤ (j : Int) := by omega
          have j5 : (t : Int) < (P.length : Int) := by omega
          have j6 : (0 : Int) ≤ (t : Int) := by omega
          have j7 : IntKind.i64.wrap ((t : Int) + 1) = ((t + 1 : Nat) : Int) := by rw [IntWalk.i64_in _ (by omega)]; omega
          have j8 : IntKind.i64.wrap ((t : Int) + (s : Int)) = ((t + s : Nat) : Int) := by rw [IntWalk.i64_in _ (by omega)]; omega
          have j9 : IntKind.i64.wrap ((d : Int) + 1) = ((d + 1 : Nat) : Int) := by rw [IntWalk.i64_in _ (by omega)]; omega
          have hsz5 := hS5.sz
          rw [HA7.out] at hsz5
          obtain ⟨b8, o8, ha8, hlt8, hc7⟩ := hsz5.num (i := q) (by omega)
          obtain ⟨rfl, rfl⟩ : b7 = b8 ∧ o7 = o8 := by injection ha8 with h; injection h; simp_all
          have hc7' : k.S[q]'(by omega) = (s : Int) := (List.getElem?_eq_some_iff.1 hs1).2
          rw [hc7'] at hc7
          have e6 := hS5.bs
          rw [HA7.out] at e6
          clear hsz5 ha8
          have hbr5 := hS5.lt
          clear hD hS4 hS5 hg4 hg5 hc7' hs1 hs3
          by_cases hqg : j = l
          · have q3 : ((q : Int) == (g : Int)) = true := by
              have := HEQ.out.2 hqg
              subst this; simp
            have HLN : Hid (LA (j + 1) = t + 1) := by
              have h1 := HD.out.length (by omega : j ≤ K.length)
              show _ = _
              rw [HLA.out]
              show (if l < j + 1 then _ else 0) = _
              rw [if_pos (by omega), ← ht, List.length_append, h1, hqg]
            have HDN : Hid (Laid P x d K l (j + 1) (D ++ (⟨q, d, x⟩ : It) :: M3)) := by
              have h1 := HGR.out hqg M3 (by rw [hq]; exact hM3)
              rw [hq] at h1
              show Laid P x d K l (j + 1) _
              rw [← hqg]; exact h1
            have HRN : Hid (LS (W4.setCells k.br (t * 3) (⟨q, d, x⟩ : It).c.toList) base P k (A ++ ((D ++ (⟨q, d, x⟩ : It) :: M3) ++ (M4 ++ B)))) := by
              have e : A ++ ((D ++ (⟨q, d, x⟩ : It) :: M3) ++ (M4 ++ B)) = (A ++ D) ++ (⟨q, d, x⟩ : It) :: (M3 ++ (M4 ++ B)) := by simp
              show LS _ base P k _
              rw [e]; exact HS5.out
            have HTN : Hid ((A ++ (D ++ (⟨q, d, x⟩ : It) :: M3)).length = t + s) := by
              show _ = _
              rw [← ht]; simp only [List.length_append, List.length_cons]; omega
            clear HEQ HGR HOTH HMEM hR hlen hqg ht hq hsl
            go_wp2_with (refine wpList_store_mid rfl 35 (.tmp 44) (.tmp 43) rfl k.br (t * 3) (⟨q, d, x⟩ : It).c ?hx ?hy ?ht ?hi ?h1 ?h
                         case hx => rfl
                         case hy => rfl
                         case ht => exact HT.out
                         case hi => exact size_item
                         case h1 => exact item_one _)
            go_roundw
            case rel => exact ⟨j + 1, D ++ (⟨q, d, x⟩ : It) :: M3, M4, by omega, by go_num, by rw [HTN.out]; go_num, by rw [HLN.out]; go_num, HDN.out, hM4, HRN.out, HG5.out⟩
            case measure => simp [intOf]; omega
          · have q3 : ((q : Int) == (g : Int)) = false := by
              have h1 : q ≠ g := fun e => hqg (HEQ.out.1 e)
              simp; omega
            have HLN : Hid (LA (j + 1) = LA j) := by
              show _ = _
              rw [HLA.out]
              show (if l < j + 1 then _ else 0) = (if l < j then _ else 0)
              by_cases c : l < j
              · rw [if_pos c, if_pos (by omega)]
              · rw [if_neg c, if_neg (by omega)]
            have HDN : Hid (Laid P x d K l (j + 1) (D ++ blk P x d q)) := by
              have h1 := HOTH.out hqg
              rw [hq] at h1
              exact h1
            obtain ⟨W5, hW5⟩ : ∃ W5, W4.setCells k.br (t * 3) (⟨q, d, x⟩ : It).c.toList = W5 := ⟨_, rfl⟩
            rw [hW5] at HS5 HG5 hc7 e6 hbr5
            have HTN : Hid ((A ++ (D ++ blk P x d q)).length = t + s) := by
              show _ = _
              rw [← ht, ← hsl]; simp only [List.length_append, blk, List.length_cons]; omega
            have HCALL : Hid (Calls Try.prog 20 #[.int .i64 (q : Int), .int .i64 ((d : Int) + 1), .int .i64 ((t : Int) + 1), .pointer (some ⟨k.kb, 0, none⟩), .pointer (some ⟨k.sb, 0, none⟩), .pointer (some ⟨k.rb, 0, none⟩), .pointer (some ⟨k.lb, 0, none⟩)] W5 fun e w' => (∃ v, e = .returned v) ∧ LS w' base P k (A ++ ((D ++ blk P x d q) ++ (M4 ++ B))) ∧ W5.grownBy w' (some k.br)) := by
              have e8 : (A ++ D ++ [(⟨q, d, x⟩ : It)]).length = t + 1 := by rw [List.length_append, ht]; rfl
              have h := HIH.out (q : Int) (d + 1) (by omega) (.inr ⟨q, d, rfl, rfl, hqL⟩) W5 base k (A ++ D ++ [(⟨q, d, x⟩ : It)]) M3 (M4 ++ B) (by
                have e : A ++ D ++ [(⟨q, d, x⟩ : It)] ++ (M3 ++ (M4 ++ B)) = (A ++ D) ++ (⟨q, d, x⟩ : It) :: (M3 ++ (M4 ++ B)) := by simp
                rw [e]; exact HS5.out) hM3 hSl HSZ.out
              rw [e8, show ((d + 1 : Nat) : Int) = (d : Int) + 1 by omega, show ((t + 1 : Nat) : Int) = (t : Int) + 1 by omega] at h
              refine h.mono ?_
              rintro e w' ⟨h1, h2, h3⟩
              refine ⟨h1, ?_, h3⟩
              have e : A ++ ((D ++ blk P x d q) ++ (M4 ++ B)) = A ++ D ++ [(⟨q, d, x⟩ : It)] ++ (sub P (q : Int) (d + 1) ++ (M4 ++ B)) := by simp [blk]
              rw [e]; exact h2
            have e8 := HS5.out.bl
            unfold LK.caps at e8
            clear HEQ HGR HOTH HMEM hR hlen hqg ht hq hsl
            go_wp2_with (first
              | (refine wpList_store_mid rfl 35 (.tmp 44) (.tmp 43) rfl k.br (t * 3) (⟨q, d, x⟩ : It).c ?hx ?hy ?ht ?hi ?h1 ?h
                 case hx => rfl
                 case hy => rfl
                 case ht => exact HT.out
                 case hi => exact size_item
                 case h1 => exact item_one _
                 rw [hW5])
              | (go_at_call 20
                 refine HCALL.out.mono ?_
                 rintro e w6 ⟨⟨v6, rfl⟩, hS6, hg6⟩
                 have e9 := hS6.bs
                 rw [HA7.out] at e9
                 have hc9 := (((Below.refl k.br W5).grown hg6 (Nat.le_of_lt hbr5) (fun r e => by injection e with e; omega)).cell (p := ⟨b7, o7 + q, none⟩) hlt7).trans hc7
                 have HS6 := Lib.hid hS6; have HG6 := Lib.hid (grownBy_step HG5.out hg6)
                 clear hS6 hg6))
            exact ⟨⟨j + 1, D ++ blk P x d q, M4, by omega, by go_num, by rw [HTN.out]; go_num, by rw [HLN.out], HDN.out, hM4, HS6.out, HG6.out⟩, by simp [intOf]; omega⟩
        · obtain rfl : j = K.length := by omega
          rw [List.drop_length] at hM2
          obtain rfl : M2 = [] := List.eq_nil_of_length_eq_zero hM2
          obtain ⟨ML, h1, h2, h3⟩ := hD.done hll
          rw [HLG.out] at h1 h2 h3
          have HFN : Hid ((A ++ ((K.take l).flatMap (blk P x d) ++ [(⟨g, d, x⟩ : It)])) ++ (sub P (g : Int) (d + 1) ++ ((K.drop (l + 1)).flatMap (blk P x d) ++ B)) = F) := by
            show _ = _
            rw [← HF.out, HSUB.out, h3]; simp
          have HSN : Hid (LS W4 base P k ((A ++ ((K.take l).flatMap (blk P x d) ++ [(⟨g, d, x⟩ : It)])) ++ (ML ++ ((K.drop (l + 1)).flatMap (blk P x d) ++ B)))) := by
            rw [h2] at hS4
            show LS _ _ _ _ _
            have e : (A ++ ((K.take l).flatMap (blk P x d) ++ [(⟨g, d, x⟩ : It)])) ++ (ML ++ ((K.drop (l + 1)).flatMap (blk P x d) ++ B)) = A ++ (((K.take l).flatMap (blk P x d) ++ [(⟨g, d, x⟩ : It)]) ++ ML ++ (K.drop (l + 1)).flatMap (blk P x d) ++ ([] ++ B)) := by simp
            rw [e]; exact hS4
          have HGN := Lib.hid (grownBy_step HG3.out hg4)
          have HLN : Hid (LA K.length = (A ++ ((K.take l).flatMap (blk P x d) ++ [(⟨g, d, x⟩ : It)])).length) := by
            show _ = _
            rw [HLA.out]
            show (if l < K.length then _ else 0) = _
            rw [if_pos hll]; simp only [List.length_append, List.length_cons, List.length_nil]; omega
          have HGA : Hid (AtD P (g : Int) (d + 1)) := .inr ⟨g, d, rfl, rfl, HKA.out g (by rw [← HLG.out]; exact List.getElem_mem hll)⟩
          have HH1 := Lib.hid h1
          have j9 : IntKind.i64.wrap ((d : Int) + 1) = ((d + 1 : Nat) : Int) := by rw [IntWalk.i64_in _ (by omega)]; omega
          clear hD hS4 hg4 h1 h2 h3 hM2
          go_wp2_with fail
          exact ⟨⟨g, d + 1, _, ML, _, rfl, by go_num, by rw [HLN.out], by omega, HGA.out, HH1.out, HFN.out, HSN.out, HGN.out⟩, by simp [intOf]; omega⟩
theorem lay_any {P : List Int} (hr : rightL P = true) (hl : P.length ≤ 100000) : ∀ x d, AtD P x d → LayC P x d := by
  have key : ∀ n x d, AtD P x d → P.length + 1 - d ≤ n → LayC P x d := by
    intro n
    induction n with
    | zero =>
      intro x d ha hn
      exact lay_step hr hl (fun x' d' hd ha' => by have := ha'.le hr; omega) x ha
    | succ n ih =>
      intro x d ha hn
      exact lay_step hr hl (fun x' d' hd ha' => ih x' d' ha' (by omega)) x ha
  exact fun x d ha => key _ x d ha (Nat.le_refl _)
end Go.Proofs.Ytkjngmlebflffaa
