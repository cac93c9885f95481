import Derived.Test.YtkjngmlebflffaaAb
import Derived.Test.YtkjngmlebflffaaGm
namespace Go.Proofs.Ytkjngmlebflffaa
open Go Go.RowKit Go.Sort
set_option linter.unusedVariables false

/-! The document's Row (stage 11): what is still to be gone through stands in a list. -/
def kidIts (P : List Int) (x : Int) (d : Nat) : List It := (kidsL P x).map fun (k : Nat) => (⟨k, d, x⟩ : It)
theorem kidIts_length (P : List Int) (x : Int) (d : Nat) : (kidIts P x d).length = (kidsL P x).length := by simp [kidIts]
theorem kidIts_get {P : List Int} {x : Int} {d j : Nat} (h : j < (kidsL P x).length) (h' : j < (kidIts P x d).length) : (kidIts P x d)[j] = ⟨(kidsL P x)[j], d, x⟩ := by simp [kidIts]
/-- What is still to come. -/
def ex (P : List Int) (l : List It) : List It := l.flatMap fun y => y :: sub P (y.place : Int) (y.depth + 1)
theorem ex_nil (P : List Int) : ex P [] = [] := rfl
theorem ex_cons (P : List Int) (y : It) (l : List It) : ex P (y :: l) = y :: (sub P (y.place : Int) (y.depth + 1) ++ ex P l) := by simp [ex, List.flatMap_cons]
theorem ex_append (P : List Int) (l m : List It) : ex P (l ++ m) = ex P l ++ ex P m := by simp [ex, List.flatMap_append]
theorem sub_ex {P : List Int} (hr : rightL P = true) {x : Int} {d : Nat} (h : AtD P x d) : sub P x d = ex P (kidIts P x d) := by
  rw [sub_eq hr h, ex, kidIts, List.flatMap_map]
theorem kidIts_lv {P : List Int} {x : Int} {d : Nat} (h : AtD P x d) : ∀ y ∈ kidIts P x d, Lv P y.place y.depth := by
  intro y hy
  obtain ⟨k, hk, rfl⟩ := List.mem_map.1 hy
  exact h.kid hk
theorem Lv.at {P : List Int} {k d : Nat} (h : Lv P k d) : AtD P (k : Int) (d + 1) := .inr ⟨k, d, rfl, rfl, h⟩
theorem kids_le (P : List Int) (x : Int) : (kidsL P x).length ≤ P.length := by rw [← kidsN_all]; exact kidsN_le P x _
theorem ex_len (P : List Int) : ∀ l : List It, l.length ≤ (ex P l).length
  | [] => Nat.le_refl _
  | y :: r => by
    have := ex_len P r
    rw [ex_cons, List.length_cons, List.length_cons, List.length_append]; omega
theorem info_item : (Try.prog.info? 35).map (fun i => (i.zero, i.size, i.bytes)) = some (some (.agg #[.int .i64 0, .int .i64 0, .int .i64 0]), 3, 24) := by kernel_rfl
/-- What a row pays. -/
def RowPay (F : Nat) : Prop := ∀ (a : Option Addr) (c : Nat) (P : List Int) (w : World), Rd w w.heap.size a (intV P) → P.length ≤ 100000 → (∀ x ∈ P, -9223372036854775808 ≤ x ∧ x < 9223372036854775808) →
  Calls Try.prog F #[.slice a P.length c] w fun e w' => ∃ v, e = .returned v ∧ w'.ownsRow w.heap.size 35 3 v (rowL P).length (itsV (rowL P)) ∧ Below w.heap.size w w'
/-- The two rows of the walk. -/
structure RowS (w wr : World) (O Lf : List It) (vo vl : Value) : Prop where
  ow : wr.ownsRow w.heap.size 35 3 vo O.length (itsV O)
  lf : wr.ownsRow w.heap.size 35 3 vl Lf.length (itsV Lf)
  ap : Apart vo vl
  bw : Below w.heap.size w wr
/-- A row of items that is being filled from a row of places. -/
structure FillS (B : Nat) (w1 wr : World) (N : List It) (K : List Nat) (v vk : Value) : Prop where
  own : wr.ownsRow B 35 3 v N.length (itsV N)
  ok : wr.ownsRow B 3 1 vk K.length (intV (natI K))
  ap : Apart vk v
  bw : RowKit.Below B w1 wr
  le : B ≤ w1.heap.size
theorem FillS.push {B : Nat} {w1 wr w4 : World} {N : List It} {K : List Nat} {v vk v4 : Value} {x : It} (h : FillS B w1 wr N K v vk) (o : Obj) (ho : w4.ownsRow B 35 3 v4 (N.length + 1) (itsV N ++ x.c.toList)) (hg : (wr.alloc o).grownBy w4 v.ownBlock)
    (hat : v4.ownBlock = v.ownBlock ∨ v4.ownBlock = some (wr.alloc o).heap.size) : FillS B w1 w4 (N ++ [x]) K v4 vk := by
  have hs := Nat.le_trans h.le h.bw.size
  have hok := own_below h.ok (box1 wr o)
  refine ⟨?_, hok.kept hg ?_, h.ap.next hok hat, (h.bw.alloc hs o).grown hg (by simp; omega) (fun g hg' => (own_shape h.own hg').1), h.le⟩
  · rw [List.length_append, itsV_append, itsV_single]; exact ho
  · exact h.ap.row
theorem FillS.below {B : Nat} {w1 wr w4 : World} {N : List It} {K : List Nat} {v vk : Value} (h : FillS B w1 wr N K v vk) (hb : Below wr.heap.size wr w4) : FillS B w1 w4 N K v vk :=
  ⟨own_below h.own hb, own_below h.ok hb, h.ap, h.bw.trans (hb.mono (Nat.le_trans h.le h.bw.size)), h.le⟩
/-- A box with an item in it. -/
def BxI (w : World) (b : Nat) (x : It) : Prop := b < w.heap.size ∧ w.cell? ⟨b, 0, none⟩ = some (.int .i64 (x.place : Int)) ∧ w.cell? ⟨b, 1, none⟩ = some (.int .i64 (x.depth : Int)) ∧ w.cell? ⟨b, 2, none⟩ = some (.int .i64 x.parent)
theorem BxI.new (w : World) (x : It) (t : TypeId) : BxI (w.alloc (.cells x.c t)) w.heap.size x := ⟨by simp, by simp [It.c], by simp [It.c], by simp [It.c]⟩
theorem BxI.grown {w w' : World} {b : Nat} {x : It} {row : Option Nat} (h : BxI w b x) (hg : w.grownBy w' row) (hne : some b ≠ row) : BxI w' b x := by
  have hb := hg.block b h.1 hne
  exact ⟨Nat.lt_of_lt_of_le h.1 hg.size, by rw [World.cell?_of_block (a := ⟨b, 0, none⟩) hb]; exact h.2.1, by rw [World.cell?_of_block (a := ⟨b, 1, none⟩) hb]; exact h.2.2.1, by rw [World.cell?_of_block (a := ⟨b, 2, none⟩) hb]; exact h.2.2.2⟩
theorem BxI.below {w w' : World} {b B : Nat} {x : It} (h : BxI w b x) (hb : RowKit.Below B w w') (hB : b < B) : BxI w' b x :=
  ⟨Nat.lt_of_lt_of_le h.1 hb.size, by rw [hb.cell (p := ⟨b, 0, none⟩) hB]; exact h.2.1, by rw [hb.cell (p := ⟨b, 1, none⟩) hB]; exact h.2.2.1, by rw [hb.cell (p := ⟨b, 2, none⟩) hB]; exact h.2.2.2⟩
/-- One item is through: its kids stand ahead of the others. -/
theorem RowS.next {w w4 w5 w9 : World} {O K rest : List It} {x : It} {v4 va v9 : Value} {n : Nat} (h4 : w4.ownsRow w.heap.size 35 3 v4 (O.length + 1) (itsV O ++ x.c.toList)) (hb4 : Below w.heap.size w w4) (hb5 : RowKit.Below w4.heap.size w4 w5)
    (ha : w5.ownsRow w4.heap.size 35 3 va n (itsV K)) (h9 : w9.ownsRow w4.heap.size 35 3 v9 (n + rest.length) (itsV K ++ itsV rest)) (hg : w5.grownBy w9 va.ownBlock) (hn : K.length = n) : RowS w w9 (O ++ [x]) (K ++ rest) v4 v9 := by
  subst hn
  have far : ∀ {b : Nat}, v4.ownBlock = some b → b < w4.heap.size := fun h => (own_shape h4 h).2.1
  have hs : w.heap.size ≤ w5.heap.size := Nat.le_trans hb4.size hb5.size
  refine ⟨?_, ?_, ?_, ?_⟩
  · rw [List.length_append, itsV_append, itsV_single]
    refine (own_below h4 hb5).kept hg ?_
    cases hk : v4.ownBlock with
    | none => exact .inl rfl
    | some b =>
      refine .inr fun e => ?_
      have h1 := far hk
      have h2 := (own_shape ha e.symm).1
      omega
  · rw [List.length_append, itsV_append]
    exact own_base h9 hb4.size
  · cases hk : v4.ownBlock with
    | none => exact .inl hk
    | some b =>
      refine .inr (.inr fun e => ?_)
      rw [hk] at e
      have h1 := far hk
      have h2 := (own_shape h9 e.symm).1
      omega
  · exact (hb4.trans (hb5.mono hb4.size)).grown hg hs (fun g hg' => by have := (own_shape ha hg').1; have := hb4.size; omega)
theorem ex_next {P : List Int} {O rest : List It} {x : It} {R : List It} (h : O ++ ex P (x :: rest) = R) (hs : sub P (x.place : Int) (x.depth + 1) = ex P (kidIts P (x.place : Int) (x.depth + 1))) :
    (O ++ [x]) ++ ex P (kidIts P (x.place : Int) (x.depth + 1) ++ rest) = R := by
  rw [ex_append, ← hs, ← h, ex_cons]; simp
theorem row_no {P : List Int} (h : rightL P = false) : rowL P = [] := by unfold rowL; rw [h]; rfl
theorem row_yes {P : List Int} (h : rightL P = true) : rowL P = sub P (-1) 0 := by unfold rowL; rw [h]; rfl
set_option maxHeartbeats 8000000 in
theorem refRow_any : RowPay 10 := by
  intro a c P w ha hl hok
  obtain ⟨i0, hi0, hz0, hz1, hz2⟩ := info_parts info_item
  have HZ2 := Lib.hid hz2; clear hz2
  have HA := Lib.hid ha; clear ha hok
  have hrt := refRight_any a c P (w.alloc (.cells #[] 35)) ((HA.out.below (box1 _ _)).more (by simp)) hl
  cases hR : rightL P with
  | false =>
    rw [hR] at hrt
    have HRT := Lib.hid hrt; clear hrt
    have HN := Lib.hid (row_no hR); clear hR
    go_enter Try.func10, Try.ntmps10
    go_wp2_with (go_at_call 22
                 refine HRT.out.mono ?_; rintro e w1 ⟨rfl, hb1⟩
                 have HB1 := Lib.hid hb1; clear hb1)
    go_ret
    refine ⟨_, rfl, ?_, bel2 (box1 _ _) HB1.out⟩
    rw [HN.out]
    exact own_below (World.ownsRow_made w #[] 0 (Nat.le_refl _) (by decide) rfl) HB1.out
  | true =>
    rw [hR] at hrt
    have HRT := Lib.hid hrt; clear hrt
    have HR := Lib.hid hR; clear hR
    have HROW : Hid (rowL P = ex P (kidIts P (-1) 0)) := by
      show _ = _
      rw [row_yes HR.out, sub_ex HR.out (at_root P)]
    have HLEN : Hid ((ex P (kidIts P (-1) 0)).length = P.length) := by
      show _ = _
      rw [← sub_ex HR.out (at_root P)]; exact row_length HR.out
    have HLV := Lib.hid (kidIts_lv (at_root P))
    have hkl := kids_le P (-1)
    go_enter Try.func10, Try.ntmps10
    go_wp2_with (first
      | (go_at_call 22
         refine HRT.out.mono ?_; rintro e w1 ⟨rfl, hb1⟩
         have HO1 := Lib.hid (own_below (World.ownsRow_made w (e := 35) (size := 3) #[] 0 (Nat.le_refl _) (by decide) rfl) hb1)
         have HB1 := Lib.hid (bel2 (box1 w (.cells #[] 35)) hb1); clear hb1)
      | (go_at_call 15
         refine (refKids_any a c P (-1) _ ((HA.out.below (HB1.out.alloc HB1.out.size _)).more (by have := HB1.out.size; simp; omega)) hl).mono ?_
         rintro e w2 ⟨vk, rfl, hk, hb2⟩
         obtain ⟨ka, kc, rfl, _, _, _⟩ := own_slice hk
         have HK := Lib.hid hk; have HB2 := Lib.hid hb2; clear hk hb2))
    have HF1 : Hid (FillS w1.heap.size w1 w2 ((kidIts P (-1) 0).take 0) (kidsL P (-1)) (.slice (some ⟨w1.heap.size, 0, none⟩) 0 0) (.slice ka (kidsL P (-1)).length kc)) := by
      refine ⟨own_below (World.ownsRow_made w1 #[] 0 (Nat.le_refl _) (by decide) rfl) HB2.out, own_base HK.out (by simp), ?_, (box1 w1 _).trans (HB2.out.mono (by simp)), Nat.le_refl _⟩
      cases hkb : (Value.slice ka (kidsL P (-1)).length kc).ownBlock with
      | none => exact .inl hkb
      | some b =>
        refine .inr (.inr ?_)
        rw [hkb]
        intro e; injection e with e
        have h1 := (own_shape HK.out hkb).1
        simp at h1 e; omega
    clear HK HB2
    go_loopw [4, 6] (fun v i wr => ∃ (n : Nat) (v' : Value), n ≤ (kidsL P (-1)).length ∧ i = .int .i64 n ∧ v' = v ∧ FillS w1.heap.size w1 wr ((kidIts P (-1) 0).take n) (kidsL P (-1)) v' (.slice ka (kidsL P (-1)).length kc)) (fun _ i _ => (kidsL P (-1)).length - (intOf i).toNat)
    case atStart => exact ⟨0, _, Nat.zero_le _, rfl, rfl, HF1.out⟩
    clear HF1
    case round =>
      obtain ⟨n, v, hn, rfl, hv, hF⟩ := hrel
      subst hv
      have hlt0 : ((kidIts P (-1) 0).take n).length = n := by rw [List.length_take, kidIts_length]; omega
      have HL0 := Lib.hid hlt0; clear hlt0
      have hown := hF.own
      rw [HL0.out] at hown
      obtain ⟨va, vc, rfl, _, _, _⟩ := own_slice hown
      have HO := Lib.hid hown; have HF := Lib.hid hF; clear hown hF
      generalize wr = W1 at *
      by_cases hlt : n < (kidsL P (-1)).length
      · have hni : n < (natI (kidsL P (-1))).length := by rw [natI_length]; exact hlt
        obtain ⟨b1, o1, ha1, _, c0⟩ := (Rd.own HF.out.ok).num hni
        rw [natI_get hlt] at c0
        subst ha1
        have hki : n < (kidIts P (-1) 0).length := by rw [kidIts_length]; exact hlt
        have HTK : Hid ((kidIts P (-1) 0).take (n + 1) = (kidIts P (-1) 0).take n ++ [⟨(kidsL P (-1))[n], 0, -1⟩]) := by
          show _ = _; rw [List.take_succ_eq_append_getElem hki, kidIts_get hlt]
        generalize (kidsL P (-1))[n] = y at *
        generalize (kidIts P (-1) 0).take n = N at *
        have i3 : (n : Int) < ((kidsL P (-1)).length : Int) := by omega
        have i4 : (0 : Int) ≤ (n : Int) := by omega
        have hsz := Nat.le_trans HF.out.le HF.out.bw.size
        go_wp2_with (at_builtin
                     refine wpList_append_rd _ rfl (.tmp 25) (.tmp 31) 25 rfl w1.heap.size 35 i0 _ 3 24 Try.underlying25 hi0 hz0 hz1 HZ2.out rfl (by omega) (.slice va n vc) n _ rfl (own_below HO.out (box1 _ _)) _ _ 1 1 [.int .i64 (y : Int), .int .i64 0, .int .i64 (-1)] rfl rfl (lit_rd W1 #[.int .i64 (y : Int), .int .i64 0, .int .i64 (-1)] _) (by intro u hu; simp only [List.mem_cons, List.not_mem_nil, or_false] at hu; rcases hu with rfl | rfl | rfl <;> rfl) (by unfold maxLen; omega) (by omega) (by simp; omega) ?_
                     intro v4 w4 hown4 hg4 hat4
                     have HF4 := Lib.hid (HF.out.push (x := ⟨y, 0, -1⟩) _ (by rw [HL0.out]; exact hown4) hg4 hat4); clear hown4 hg4 hat4)
        go_roundw
        case rel => exact ⟨n + 1, _, by omega, by go_num, rfl, by rw [HTK.out]; exact HF4.out⟩
        case measure => simp [intOf]; omega
      · obtain rfl : n = (kidsL P (-1)).length := by omega
        have hF := HF.out
        rw [List.take_of_length_le (by rw [kidIts_length]; exact Nat.le_refl _)] at hF
        have HS : Hid (RowS w W1 [] (kidIts P (-1) 0) (.slice (some ⟨w.heap.size, 0, none⟩) 0 0) (.slice va (kidsL P (-1)).length vc)) := by
          refine ⟨own_below HO1.out (hF.bw), ?_, ?_, ?_⟩
          · have := own_base hF.own HB1.out.size
            exact this
          · cases hkb : (Value.slice va (kidsL P (-1)).length vc).ownBlock with
            | none => exact .inr (.inl hkb)
            | some b =>
              refine .inr (.inr ?_)
              rw [hkb]
              intro e
              have e : w.heap.size = b := by simpa [Value.ownBlock] using e
              have h1 := (own_shape hF.own hkb).1
              have h2 := (own_shape HO1.out rfl).2.1
              simp at h2; omega
          · exact HB1.out.trans (hF.bw.mono HB1.out.size)
        clear hF HF HO HL0
        have hinv : ([] : List It) ++ ex P (kidIts P (-1) 0) = rowL P := by rw [HROW.out]; rfl
        have HINV := Lib.hid hinv; clear hinv
        generalize kidIts P (-1) 0 = Lf0 at *
        have HK0 : Hid (kidsL P (-1) = kidsL P (-1)) := rfl
        go_wp2_with fail
        go_loopg [3, 4] P.length (fun kx vo vl wr => ∃ (O Lf : List It) (vo' vl' : Value), vo' = vo ∧ vl' = vl ∧ RowS w wr O Lf vo' vl' ∧ O ++ ex P Lf = rowL P ∧ (∀ y ∈ Lf, Lv P y.place y.depth) ∧ (ex P Lf).length ≤ kx)
        case atStart => exact ⟨[], Lf0, _, _, rfl, rfl, HS.out, HINV.out, HLV.out, Nat.le_of_eq HLEN.out⟩
        case round =>
          obtain ⟨O, Lf, vo, vl, hvo, hvl, hS, hin, hlv, hkx⟩ := hrel
          subst hvo hvl
          have hlen : O.length + (ex P Lf).length = P.length := by
            have := congrArg List.length hin
            rw [List.length_append, row_yes HR.out, row_length HR.out] at this
            exact this
          obtain ⟨oa, oc, rfl, _, _, _⟩ := own_slice hS.ow
          obtain ⟨la, lc, rfl, hlc1, hlc2, hlg⟩ := own_slice hS.lf
          have HS := Lib.hid hS; have HIN := Lib.hid hin; have HLV := Lib.hid hlv; clear hS hin hlv
          generalize wr = W2 at *
          cases Lf with
          | nil =>
            have HE : Hid (O = rowL P) := by
              show _ = _
              rw [← HIN.out, ex_nil, List.append_nil]
            go_wp2_with fail
            go_ret
            exact ⟨_, rfl, by rw [← HE.out]; exact HS.out.ow, HS.out.bw⟩
          | cons x rest =>
            obtain ⟨gl, rfl, hgl1, hgl2⟩ := hlg (by simp)
            clear hlg
            obtain ⟨b1, o1, ha1, _, c0, c1, c2⟩ := (Rd.own HS.out.lf).item (i := 0) (by simp)
            obtain ⟨rfl, rfl⟩ := And.intro (Addr.mk.inj (Option.some.inj ha1)).1 (Addr.mk.inj (Option.some.inj ha1)).2.1
            simp only [List.getElem_cons_zero, Nat.zero_mul, Nat.zero_add, Nat.add_zero] at c0 c1 c2
            clear ha1
            have hxl := HLV.out x (List.mem_cons_self ..)
            have HXA := Lib.hid hxl.at
            have hxd := hxl.le HR.out
            have hxp := hxl.1
            have HKI := Lib.hid (kidIts_lv hxl.at)
            have HSE := Lib.hid (sub_ex HR.out hxl.at)
            have hk2 := kids_le P (x.place : Int)
            rw [ex_cons, List.length_cons, List.length_append] at hlen
            have hrl := ex_len P rest
            have HB2 := Lib.hid (HS.out.bw.alloc HS.out.bw.size (.cells x.c 35))
            have HOW := Lib.hid (own_below (own_below HS.out.ow (box1 W2 (.cells x.c 35))) (box1 _ (.cells x.c 35)))
            have HLF := Lib.hid (own_below (own_below HS.out.lf (box1 W2 (.cells x.c 35))) (box1 _ (.cells x.c 35)))
            have HB3 := Lib.hid (HB2.out.alloc HB2.out.size (.cells x.c 35))
            have e3 : ((rest.length + 1 : Nat) : Int) = (rest.length : Int) + 1 := by omega
            have i1 : (0 : Int) < ((x :: rest).length : Int) := by rw [List.length_cons]; omega
            go_wp2_with (first
              | (at_builtin
                 refine wpList_append_rd _ rfl (.tmp 39) (.tmp 41) 25 rfl w.heap.size 35 i0 _ 3 24 Try.underlying25 hi0 hz0 hz1 HZ2.out rfl (by omega) (.slice oa O.length oc) O.length _ rfl HOW.out _ _ 1 1 [.int .i64 (x.place : Int), .int .i64 (x.depth : Int), .int .i64 x.parent] rfl rfl (lit_at (W2.alloc (.cells x.c 35)) #[.int .i64 (x.place : Int), .int .i64 (x.depth : Int), .int .i64 x.parent] _ (W2.heap.size + 1) (by simp)) (by intro u hu; simp only [List.mem_cons, List.not_mem_nil, or_false] at hu; rcases hu with rfl | rfl | rfl <;> rfl) (by unfold maxLen; omega) (by omega) HB3.out.size ?_
                 intro v4 w4 hown4 hg4 hat4
                 have HO4 := Lib.hid hown4
                 have HL4 := Lib.hid (HLF.out.kept hg4 HS.out.ap.symm.row)
                 have HA4 := Lib.hid (HS.out.ap.symm.next HLF.out hat4)
                 have HB4 := Lib.hid (HB3.out.grown hg4 HB3.out.size (fun g hg => (own_shape HOW.out hg).1))
                 have HX4 : Hid (BxI w4 W2.heap.size x) := ((BxI.new W2 x 35).below (box1 _ (.cells x.c 35)) (by simp)).grown hg4 (fun e => by have := (own_shape HS.out.ow e.symm).2.1; omega)
                 have HX5 := Lib.hid (HX4.out.below (box1 w4 (.cells #[] 35)) HX4.out.1)
                 obtain ⟨_, d0, d1, d2⟩ := HX5.out
                 clear hown4 hg4 hat4)
              | (go_at_call 15
                 refine (refKids_any a c P (x.place : Int) _ ((HA.out.below (HB4.out.alloc HB4.out.size _)).more (by have := HB4.out.size; simp; omega)) hl).mono ?_
                 rintro e w6 ⟨vq, rfl, hq, hb6⟩
                 obtain ⟨qa, qc, rfl, _, _, _⟩ := own_slice hq
                 have HQ := Lib.hid hq; have HB6 := Lib.hid hb6; clear hq hb6))
            have HF6 : Hid (FillS w4.heap.size w4 w6 ((kidIts P (x.place : Int) (x.depth + 1)).take 0) (kidsL P (x.place : Int)) (.slice (some ⟨w4.heap.size, 0, none⟩) 0 0) (.slice qa (kidsL P (x.place : Int)).length qc)) := by
              refine ⟨own_below (World.ownsRow_made w4 #[] 0 (Nat.le_refl _) (by decide) rfl) HB6.out, own_base HQ.out (by simp), ?_, (box1 w4 _).trans (HB6.out.mono (by simp)), Nat.le_refl _⟩
              cases hkb : (Value.slice qa (kidsL P (x.place : Int)).length qc).ownBlock with
              | none => exact .inl hkb
              | some b =>
                refine .inr (.inr ?_)
                rw [hkb]
                intro e; injection e with e
                have h1 := (own_shape HQ.out hkb).1
                simp at h1 e; omega
            clear HQ HB6 HOW HLF HX5 d0 d1 d2 c0 c1 c2
            go_loopw [8, 10] (fun v i wr => ∃ (n : Nat) (v' : Value), n ≤ (kidsL P (x.place : Int)).length ∧ i = .int .i64 n ∧ v' = v ∧ FillS w4.heap.size w4 wr ((kidIts P (x.place : Int) (x.depth + 1)).take n) (kidsL P (x.place : Int)) v' (.slice qa (kidsL P (x.place : Int)).length qc)) (fun _ i _ => (kidsL P (x.place : Int)).length - (intOf i).toNat)
            case atStart => exact ⟨0, _, Nat.zero_le _, rfl, rfl, HF6.out⟩
            clear HF6
            case round =>
              obtain ⟨n, v, hn, rfl, hv, hF⟩ := hrel
              subst hv
              have hlt0 : ((kidIts P (x.place : Int) (x.depth + 1)).take n).length = n := by rw [List.length_take, kidIts_length]; omega
              have HL0 := Lib.hid hlt0; clear hlt0
              have hown := hF.own
              rw [HL0.out] at hown
              obtain ⟨va, vc, rfl, _, _, _⟩ := own_slice hown
              have HO := Lib.hid hown; have HF := Lib.hid hF; clear hown hF
              generalize wr = W5 at *
              have hsz := Nat.le_trans HF.out.le HF.out.bw.size
              by_cases hlt : n < (kidsL P (x.place : Int)).length
              · have hni : n < (natI (kidsL P (x.place : Int))).length := by rw [natI_length]; exact hlt
                obtain ⟨b1, o1, ha1, hb1, e0⟩ := (Rd.own HF.out.ok).num hni
                rw [natI_get hlt] at e0
                subst ha1
                have hki : n < (kidIts P (x.place : Int) (x.depth + 1)).length := by rw [kidIts_length]; exact hlt
                have HTK : Hid ((kidIts P (x.place : Int) (x.depth + 1)).take (n + 1) = (kidIts P (x.place : Int) (x.depth + 1)).take n ++ [⟨(kidsL P (x.place : Int))[n], x.depth + 1, (x.place : Int)⟩]) := by
                  show _ = _; rw [List.take_succ_eq_append_getElem hki, kidIts_get hlt]
                generalize (kidsL P (x.place : Int))[n] = y at *
                generalize (kidIts P (x.place : Int) (x.depth + 1)).take n = N at *
                have i3 : (n : Int) < ((kidsL P (x.place : Int)).length : Int) := by omega
                have i4 : (0 : Int) ≤ (n : Int) := by omega
                have i5 : IntKind.i64.wrap ((x.depth : Int) + 1) = (x.depth : Int) + 1 := IntWalk.i64_in _ (by omega)
                obtain ⟨x0, d0, d1, d2⟩ := HX4.out.below HF.out.bw HX4.out.1
                go_wp2_with fail
                go_region_law (first
                  | (refine step_append_rd _ rfl (.tmp 54) (.tmp 65) 25 rfl w4.heap.size 35 i0 _ 3 24 Try.underlying25 hi0 hz0 hz1 HZ2.out rfl (by omega) (.slice va n vc) n (itsV N) (by simp [Act.eval]) (HO.out.drew.alloc _) _ _ 1 1 [.int .i64 (y : Int), .int .i64 ((x.depth : Int) + 1), .int .i64 (x.place : Int)] (by simp [Act.eval]) rfl (lit_rd W5.drew #[.int .i64 (y : Int), .int .i64 ((x.depth : Int) + 1), .int .i64 (x.place : Int)] _) (by intro u hu; simp only [List.mem_cons, List.not_mem_nil, or_false] at hu; rcases hu with rfl | rfl | rfl <;> rfl) (by unfold maxLen; omega) (by omega) (by simp; omega) ?_
                     intro v8 w8 hown8 hg8 hat8
                     have HF8 := Lib.hid (FillS.push (x := ⟨y, x.depth + 1, (x.place : Int)⟩) (HF.out.below (Below_drew (Below.refl _ _))) _ (by rw [HL0.out]; exact hown8) hg8 hat8); clear hown8 hg8 hat8))
                all_goals
                  clear d0 d1 d2 e0
                  go_wp2_with fail
                  go_roundw
                  case rel => exact ⟨n + 1, _, by omega, by go_num, rfl, by rw [HTK.out]; exact HF8.out⟩
                  case measure => simp [intOf]; omega
              · obtain rfl : n = (kidsL P (x.place : Int)).length := by omega
                have hof := HO.out
                rw [List.take_of_length_le (by rw [kidIts_length]; exact Nat.le_refl _)] at hof
                have HN := Lib.hid hof; clear hof
                have HL5 := Lib.hid (own_below HL4.out (HF.out.bw))
                have HBW := Lib.hid HF.out.bw
                have HIN2 := Lib.hid (ex_next HIN.out HSE.out)
                have HLV2 : Hid (∀ y ∈ kidIts P (x.place : Int) (x.depth + 1) ++ rest, Lv P y.place y.depth) := fun y hy => (List.mem_append.1 hy).elim (HKI.out y) (fun h => HLV.out y (List.mem_cons_of_mem _ h))
                have HM2 : Hid ((ex P (kidIts P (x.place : Int) (x.depth + 1) ++ rest)).length < (ex P (x :: rest)).length) := by
                  show _ < _
                  rw [ex_append, ex_cons, ← HSE.out, List.length_cons, List.length_append]; omega
                by_cases hlc : lc = 1
                · have hr0 : rest = [] := List.eq_nil_of_length_eq_zero (by simp at hlc1; omega)
                  subst hr0 hlc
                  go_wp2_with (at_builtin
                               refine wpList_append_rd _ rfl (.tmp 67) (.tmp 69) 25 rfl w4.heap.size 35 i0 _ 3 24 Try.underlying25 hi0 hz0 hz1 HZ2.out rfl (by omega) (.slice va (kidsL P (x.place : Int)).length vc) (kidsL P (x.place : Int)).length _ rfl HN.out 0 (some ⟨gl, 0, none⟩) 0 0 [] rfl rfl (Rd.nil _ _ _) (by simp) (by unfold maxLen; omega) (by omega) hsz ?_
                               intro v9 w9 hown9 hg9 hat9
                               have HS9 := Lib.hid (RowS.next (rest := []) (x := x) HO4.out HB4.out HBW.out HN.out hown9 hg9 (kidIts_length ..)); clear hown9 hg9 hat9)
                  go_roundg ((ex P (kidIts P (x.place : Int) (x.depth + 1) ++ [])).length)
                  case measure => have := HM2.out; omega
                  case rel => exact ⟨_, _, _, _, rfl, rfl, HS9.out, HIN2.out, HLV2.out, Nat.le_refl _⟩
                · have hq1 : ¬ (lc - 1 = 0) := by simp at hlc1; omega
                  have hq2 : ¬ ((lc : Int) - 1 = 0) := by omega
                  have htl : Rd W5 W5.heap.size (some ⟨gl, 3, none⟩) (itsV rest) := by
                    have := (Rd.own HL5.out).drop 3
                    rw [Nat.zero_add] at this
                    exact this
                  have HTL := Lib.hid htl; clear htl
                  go_wp2_with (at_builtin
                               refine wpList_append_rd _ rfl (.tmp 67) (.tmp 69) 25 rfl w4.heap.size 35 i0 _ 3 24 Try.underlying25 hi0 hz0 hz1 HZ2.out rfl (by omega) (.slice va (kidsL P (x.place : Int)).length vc) (kidsL P (x.place : Int)).length _ rfl HN.out _ (some ⟨gl, 3, none⟩) rest.length (lc - 1) (itsV rest) rfl (by rw [itsV_length]) HTL.out (itsV_one _) (by unfold maxLen; omega) (by omega) hsz ?_
                               intro v9 w9 hown9 hg9 hat9
                               have HS9 := Lib.hid (RowS.next (x := x) HO4.out HB4.out HBW.out HN.out hown9 hg9 (kidIts_length ..)); clear hown9 hg9 hat9)
                  go_roundg ((ex P (kidIts P (x.place : Int) (x.depth + 1) ++ rest)).length)
                  case measure => have := HM2.out; omega
                  case rel => exact ⟨_, _, _, _, rfl, rfl, HS9.out, HIN2.out, HLV2.out, Nat.le_refl _⟩
end Go.Proofs.Ytkjngmlebflffaa
