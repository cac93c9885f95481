import Derived.Test.YthbgnkkepfbmjaaGreatJg
import Derived.Test.YthbgnkkepfbmjaaGreatJf
import Derived.Test.YthbgnkkepfbmjaaGreatJa
import Derived.Deep.DeepMust
import Derived.Lib.SlBytesConst
namespace Go.Proofs.YthbgnkkepfbmjaaGreat
open Go Go.RowKit

set_option maxRecDepth 20000
theorem refPut6_is (n : Nat) (s : Int) (k : Nat) (P : List UInt8) (w : World) (hk : cnt s = k) (hP : P = putL n k) (hn : n < 18446744073709551616) :
    Calls Tryz.prog 85 #[.int .u64 (n : Int), .int .i64 s] w fun e w' => e = .returned (.string (bs P)) ∧ Below w.heap.size w w' := by
  subst hk hP; exact refPut_any n s w hn
theorem refSum_is (t : ByteArray) (l : List UInt8) (S : Nat) (w : World) (ht : t = bs l) (hS : moreL 0 l = S) (hl : l.length ≤ 1000000000000) :
    Calls Tryz.prog 90 #[.string t] w fun e w' => e = .returned (.int .u32 (S : Int)) ∧ Below w.heap.size w w' := by
  subst ht hS
  have h := refSum_any (bs l) w (by rw [bs_size]; exact hl)
  rw [bs_toList] at h; exact h
theorem refGet6_is (t : ByteArray) (l : List UInt8) (p k : Nat) (G : Nat) (w : World) (ht : t = bs l) (hl : l.length ≤ 1000000000000) (hk : cnt (k : Int) = k) (hk8 : k ≤ 8) (hp : p + k ≤ l.length) (hG : gN l p k = G) :
    Calls Tryz.prog 91 #[.string t, .int .i64 (p : Int), .int .i64 (k : Int)] w fun e w' => e = .returned (.tuple #[.int .u64 (G : Int), .bool true]) ∧ Below w.heap.size w w' := by
  subst ht
  have h := refGet_any (bs l) (p : Int) (k : Int) w (by rw [bs_size]; exact hl) (by omega) (by omega) (by omega) (by omega)
  rw [bs_toList, getR_yes (by rw [hk]; omega), hk, Int.toNat_natCast, hG] at h
  exact h
/-- A frame's text is answered, or the error's number. -/
def RefFr (w : World) (L : List UInt8) (n : Nat) (e : Ending) (w' : World) : Prop := e = .returned (.tuple #[.string (bs L), .int .i64 (n : Int)]) ∧ Below w.heap.size w w'
set_option maxHeartbeats 1000000 in
theorem refFr_no (t : ByteArray) (l : List UInt8) (w : World) (ht : t = bs l) (hm : mayF l.length = false) :
    Calls Tryz.prog 151 #[.string t] w (RefFr w [] 1) := by
  have hm' := mayF_no hm
  have hs : t.size = l.length := by rw [ht, bs_size]
  clear ht hm
  by_cases h0 : l.length = 0
  · rw [h0] at hs
    go_enter Tryz.func151, Tryz.ntmps151
    go_wp2_with fail
    go_ret2
    exact ⟨rfl, Below.refl _ _⟩
  · obtain ⟨N, hN⟩ : ∃ N, N = l.length := ⟨_, rfl⟩
    rw [← hN] at hs h0 hm'
    have h3 : ((N : Int) == 0) = false := beq_eq_false_iff_ne.2 (by omega)
    have h4 : (2406 : Int) < (N : Int) := by omega
    clear hN hm'
    go_enter Tryz.func151, Tryz.ntmps151
    go_wp2_with fail
    go_ret2
    exact ⟨rfl, Below.refl _ _⟩
set_option maxHeartbeats 1000000 in
theorem refFr_yes (t : ByteArray) (l : List UInt8) (w : World) (ht : t = bs l) (hm : mayF l.length = true) :
    Calls Tryz.prog 151 #[.string t] w (RefFr w (frL l) 0) := by
  have hb := mayF_iff.1 hm
  have hs : t.size = l.length := by rw [ht, bs_size]
  obtain ⟨N, hN⟩ : ∃ N, N = l.length := ⟨_, rfl⟩
  have HN := Lib.hid hN
  rw [← hN] at hs hb
  have hw : IntKind.u64.wrap (N : Int) = (N : Int) := IntWalk.u64_in _ ⟨by omega, by omega⟩
  have h3 : ((N : Int) == 0) = false := beq_eq_false_iff_ne.2 (by omega)
  have h4 : ¬ (2406 : Int) < (N : Int) := by omega
  obtain ⟨L2, h2⟩ : ∃ L, L = putL l.length 2 := ⟨_, rfl⟩
  have h2l : L2.length = 2 := by rw [h2, putL_length]
  obtain ⟨S, hS⟩ : ∃ S, sumF L2 l = S := ⟨_, rfl⟩
  have hSl : S < 4294967296 := by rw [← hS]; exact sumF_lt _ _
  have hwS : IntKind.u64.wrap (S : Int) = (S : Int) := IntWalk.u64_in _ ⟨by omega, by omega⟩
  obtain ⟨L4, h6⟩ : ∃ L, L = putL S 4 := ⟨_, rfl⟩
  have h6l : L4.length = 4 := by rw [h6, putL_length]
  have HF : Hid (bs (frL l) = bs L2 ++ bs L4 ++ t) := by show _ = _; rw [ht, bs_append, bs_append, h6, ← hS, h2, frL, List.append_assoc]
  have HT : Hid (bs L2 ++ t = bs (L2 ++ l)) := by show _ = _; rw [ht, bs_append]
  have z1 : (bs L2).size = 2 := by rw [bs_size, h2l]
  have z2 : (bs L4).size = 4 := by rw [bs_size, h6l]
  have HLL : Hid ((L2 ++ l).length ≤ 1000000000000) := by show _ ≤ _; rw [List.length_append, h2l]; omega
  have H2 := Lib.hid h2; have HS := Lib.hid hS; have H6 := Lib.hid h6
  clear h2 hS h6 ht hN hm
  go_enter Tryz.func151, Tryz.ntmps151
  go_wp2_with fail
  refine (refPut6_is N 2 2 L2 _ rfl (by rw [HN.out]; exact H2.out) (by omega)).mono ?_; rintro e w1 ⟨rfl, hb1⟩
  have HB1 := Lib.hid hb1
  clear hb1
  go_wp2_with fail
  refine (refSum_is _ (L2 ++ l) S _ HT.out HS.out HLL.out).mono ?_; rintro e w2 ⟨rfl, hb2⟩
  have HB2 := Lib.hid (bel2 HB1.out hb2)
  clear hb2
  go_wp2_with fail
  refine (refPut6_is S 4 4 L4 _ rfl H6.out (by omega)).mono ?_; rintro e w3 ⟨rfl, hb3⟩
  have HB3 := Lib.hid (bel2 HB2.out hb3)
  clear hb3
  go_wp2_with fail
  go_ret2
  rw [← HF.out]
  exact ⟨rfl, HB3.out⟩
/-- What the ref's Get answers. -/
def RefGot (w : World) (l : List UInt8) (p : Int) (e : Ending) (w' : World) : Prop := Below w.heap.size w w' ∧
  ((∃ b, gotF l p = .ok b ∧ e = .returned (.tuple #[.string (bs b), .int .i64 (p + 6 + (b.length : Int)), .int .i64 0])) ∨ ∃ k, gotF l p = .error k ∧ e = .returned (.tuple #[.string ⟨#[]⟩, .int .i64 0, .int .i64 (k : Int)]))
theorem extract_tail (t : ByteArray) (l : List UInt8) (q n : Nat) (ht : t = bs l) (hn : n = l.length) : t.extract q n = bs (l.drop q) := by
  rw [bs_extract, ht, bs_toList, List.take_of_length_le (by rw [List.length_drop]; omega)]
theorem extract_part (l : List UInt8) (i j : Nat) : (bs l).extract i j = bs ((l.drop i).take (j - i)) := by
  rw [bs_extract, bs_toList]
set_option maxHeartbeats 2000000 in
theorem refGot_any (t : ByteArray) (l : List UInt8) (p : Int) (w : World) (ht : t = bs l) (hl : l.length ≤ 1000000000000) :
    Calls Tryz.prog 121 #[.string t, .int .i64 p] w (RefGot w l p) := by
  have hs : t.size = l.length := by rw [ht, bs_size]
  by_cases h0 : p < 0
  · have HE := Lib.hid (gotF_none (l := l) (.inl h0))
    clear hs ht
    go_enter Tryz.func121, Tryz.ntmps121
    go_wp2_with fail
    go_ret3
    exact ⟨Below.refl _ _, .inr ⟨5, HE.out, rfl⟩⟩
  by_cases h1 : (l.length : Int) ≤ p
  · have HE := Lib.hid (gotF_none (l := l) (.inr h1))
    clear ht
    go_enter Tryz.func121, Tryz.ntmps121
    go_wp2_with fail
    go_ret3
    exact ⟨Below.refl _ _, .inr ⟨5, HE.out, rfl⟩⟩
  obtain ⟨q, rfl⟩ : ∃ q : Nat, p = q := ⟨p.toNat, by omega⟩
  have HE := Lib.hid (gotF_at (l := l) (q := q) (by omega))
  obtain ⟨D, hD⟩ : ∃ D, l.drop q = D := ⟨_, rfl⟩
  have hDl : D.length = l.length - q := by rw [← hD, List.length_drop]
  have hex : t.extract q l.length = bs D := by rw [extract_tail t l q _ ht rfl, hD]
  have hsz : (bs D).size = D.length := bs_size D
  rw [hD] at HE
  have hD1 : D.length ≤ 1000000000000 := by omega
  have hql : q + D.length = l.length := by omega
  clear hD ht
  by_cases h6 : D.length < 6
  · have HF : Hid (gotF l (q : Int) = .error 2) := by show _ = _; rw [HE.out, firstF_short h6]
    go_enter Tryz.func121, Tryz.ntmps121
    go_wp2_with fail
    go_ret3
    exact ⟨Below.refl _ _, .inr ⟨2, HF.out, rfl⟩⟩
  obtain ⟨N, hN⟩ : ∃ N, gN D 0 2 = N := ⟨_, rfl⟩
  have hNl : N < 65536 := by have := gN_lt D 0 2; omega
  have hw : IntKind.i64.wrap (N : Int) = (N : Int) := IntWalk.i64_in _ ⟨by omega, by omega⟩
  have HN := Lib.hid hN; clear hN
  have h6' : 6 ≤ D.length := by omega
  cases hm : mayF N with
  | false =>
    have HF : Hid (gotF l (q : Int) = .error 3) := by show _ = _; rw [HE.out, firstF_form h6' (by rw [HN.out]; exact hm)]
    have hm' := mayF_no hm
    clear hm
    by_cases hz : N = 0
    · subst hz
      go_enter Tryz.func121, Tryz.ntmps121
      go_wp2_with fail
      refine (refGet6_is _ D 0 2 0 _ rfl hD1 rfl (by omega) (by omega) HN.out).mono ?_; rintro e w1 ⟨rfl, hb1⟩
      have HB1 := Lib.hid hb1; clear hb1
      go_wp2_with fail
      go_ret3
      exact ⟨HB1.out, .inr ⟨3, HF.out, rfl⟩⟩
    · have z1 : ((N : Int) == 0) = false := beq_eq_false_iff_ne.2 (by omega)
      have z2 : (2406 : Int) < (N : Int) := by omega
      clear hm'
      go_enter Tryz.func121, Tryz.ntmps121
      go_wp2_with fail
      refine (refGet6_is _ D 0 2 N _ rfl hD1 rfl (by omega) (by omega) HN.out).mono ?_; rintro e w1 ⟨rfl, hb1⟩
      have HB1 := Lib.hid hb1; clear hb1
      go_wp2_with fail
      go_ret3
      exact ⟨HB1.out, .inr ⟨3, HF.out, rfl⟩⟩
  | true =>
    have hb := mayF_iff.1 hm
    have HM := Lib.hid hm
    clear hm
    have z1 : ((N : Int) == 0) = false := beq_eq_false_iff_ne.2 (by omega)
    have z2 : ¬ (2406 : Int) < (N : Int) := by omega
    by_cases hs6 : D.length < 6 + N
    · have HF : Hid (gotF l (q : Int) = .error 2) := by show _ = _; rw [HE.out, firstF_less h6' (by rw [HN.out]; exact HM.out) (by rw [HN.out]; exact hs6)]
      have z3 : (D.length : Int) < 6 + (N : Int) := by omega
      go_enter Tryz.func121, Tryz.ntmps121
      go_wp2_with fail
      refine (refGet6_is _ D 0 2 N _ rfl hD1 rfl (by omega) (by omega) HN.out).mono ?_; rintro e w1 ⟨rfl, hb1⟩
      have HB1 := Lib.hid hb1; clear hb1
      go_wp2_with fail
      go_ret3
      exact ⟨HB1.out, .inr ⟨2, HF.out, rfl⟩⟩
    · have z3 : ¬ (D.length : Int) < 6 + (N : Int) := by omega
      obtain ⟨B, hB⟩ : ∃ B, (D.drop 6).take N = B := ⟨_, rfl⟩
      have hBl : B.length = N := by rw [← hB, List.length_take, List.length_drop]; omega
      have e1 : (bs D).extract 6 (6 + N) = bs B := by rw [extract_part, Nat.add_sub_cancel_left, hB]
      have e2 : (bs D).extract 0 (6 + N) = bs (D.take (6 + N)) := by rw [extract_part, List.drop_zero, Nat.sub_zero]
      have HRP : Hid (∀ W, Calls Tryz.prog 151 #[.string (bs B)] W (RefFr W (frL B) 0)) := fun W => refFr_yes _ B W rfl (by rw [hBl]; exact HM.out)
      by_cases hq : D.take (6 + N) = frL B
      · have HF : Hid (gotF l (q : Int) = .ok B) := by
          show _ = _; rw [HE.out, firstF_of (b := B) (by rw [hBl]; exact hq) (by rw [hBl]; exact HM.out)]
        obtain ⟨t1, t2⟩ := str_eq (x := bs (frL B)) (y := bs (D.take (6 + N))) (b := true) (by rw [hq]; simp)
        have HBL := Lib.hid hBl
        clear hB hBl hq
        go_enter Tryz.func121, Tryz.ntmps121
        go_wp2_with fail
        refine (refGet6_is _ D 0 2 N _ rfl hD1 rfl (by omega) (by omega) HN.out).mono ?_; rintro e w1 ⟨rfl, hb1⟩
        have HB1 := Lib.hid hb1; clear hb1
        go_wp2_with fail
        refine (HRP.out w1).mono ?_; rintro e w2 ⟨rfl, hb2⟩
        have HB2 := Lib.hid (bel2 HB1.out hb2); clear hb2
        go_wp2_with fail
        go_ret3
        exact ⟨HB2.out, .inl ⟨B, HF.out, by rw [← e1, HBL.out]; rfl⟩⟩
      · have HF : Hid (gotF l (q : Int) = .error 8) := by
          show _ = _; rw [HE.out]
          cases hf : firstF D with
          | ok C =>
            exfalso
            obtain ⟨g1, g2, g3⟩ := firstF_back hf
            have g4 := frL_len g1 (mayF_iff.1 g2).2
            have g5 := frL_body g1
            rw [HN.out] at g4
            rw [← g4, hB] at g5
            subst g5
            rw [← g4] at g1
            exact hq g1
          | error k =>
            have : k = 8 := by
              unfold firstF at hf
              rw [if_neg (by omega), HN.out, if_neg (by simp [HM.out]), if_neg hs6] at hf
              split at hf
              · cases hf
              · injection hf with hf; exact hf.symm
            rw [this]
        obtain ⟨t1, t2⟩ := str_eq (x := bs (frL B)) (y := bs (D.take (6 + N))) (b := false) (by
          have : ¬ bs (frL B) = bs (D.take (6 + N)) := fun e => hq (bs_inj e).symm
          simp [this])
        clear hB hBl hq
        go_enter Tryz.func121, Tryz.ntmps121
        go_wp2_with fail
        refine (refGet6_is _ D 0 2 N _ rfl hD1 rfl (by omega) (by omega) HN.out).mono ?_; rintro e w1 ⟨rfl, hb1⟩
        have HB1 := Lib.hid hb1; clear hb1
        go_wp2_with fail
        refine (HRP.out w1).mono ?_; rintro e w2 ⟨rfl, hb2⟩
        have HB2 := Lib.hid (bel2 HB1.out hb2); clear hb2
        go_wp2_with fail
        go_ret3
        exact ⟨HB2.out, .inr ⟨8, HF.out, rfl⟩⟩
end Go.Proofs.YthbgnkkepfbmjaaGreat

namespace Go.Proofs.YthbgnkkepfbmjaaGreat
open Go Go.RowKit

set_option maxRecDepth 20000
theorem info_str : (Tryz.prog.info? 9).map (fun i => (i.zero, i.size, i.bytes)) = some (some (.string ⟨#[]⟩), 1, 16) := by kernel_rfl
def sV (L : List (List UInt8)) : List Value := L.map fun b => .string (bs b)
theorem sV_length (L : List (List UInt8)) : (sV L).length = L.length := by simp [sV]
def RefAll (w : World) (l : List UInt8) (p m : Int) (e : Ending) (w' : World) : Prop :=
  ∃ v, e = .returned (.tuple #[v, .int .i64 (endF p (allF l m.toNat p))]) ∧ w'.ownsRow w.heap.size 9 1 v (allF l m.toNat p).length (sV (allF l m.toNat p)) ∧ Below w.heap.size w w'
theorem refGot_is (t : ByteArray) (l : List UInt8) (p : Int) (w : World) (ht : t = bs l) (hl : l.length ≤ 1000000000000) :
    Calls Tryz.prog 121 #[.string t, .int .i64 p] w (RefGot w l p) := refGot_any t l p w ht hl
set_option maxHeartbeats 2000000 in
theorem refAll_any (t : ByteArray) (l : List UInt8) (p m : Int) (w : World) (ht : t = bs l) (hl : l.length ≤ 1000000000000) (hm : m ≤ 9223372036854775807) :
    Calls Tryz.prog 92 #[.string t, .int .i64 p, .int .i64 m] w (RefAll w l p m) := by
  have HT := Lib.hid ht; clear ht
  obtain ⟨i0, hi0, hz0, hz1, hz2⟩ := info_parts info_str
  have HZ2 := Lib.hid hz2; clear hz2
  have HO : Hid ((w.alloc (.cells #[] 9)).ownsRow w.heap.size 9 1 (.slice (some ⟨w.heap.size, 0, none⟩) 0 0) 0 []) := World.ownsRow_made w #[] 0 (Nat.le_refl _) (by decide) rfl
  go_enter Tryz.func92, Tryz.ntmps92
  go_wp2_with fail
  go_loopw [1, 8] (fun pv v wr => ∃ L : List (List UInt8), Found l m.toNat p L ∧ pv = .int .i64 (endF p L) ∧ wr.ownsRow w.heap.size 9 1 v L.length (sV L) ∧ Below w.heap.size w wr) (fun pv v _ => m.toNat - (match v with | .slice _ n _ => n | _ => 0))
  case atStart => exact ⟨[], Found.start _ _ _, rfl, HO.out, box1 _ _⟩
  case round =>
    obtain ⟨L, hf, rfl, hown, hb⟩ := hrel
    have HF := Lib.hid hf; have HOW := Lib.hid hown; have HB := Lib.hid hb
    have hfew := hf.few
    have hLm := hf.1
    have hBs := hb.size
    obtain ⟨va, vc, rfl, _, _, _⟩ := own_slice hown
    clear hf hown hb
    by_cases hlt : (L.length : Int) < m
    · go_wp2_with fail
      refine (refGot_is t l (endF p L) wr HT.out hl).mono ?_; rintro e w1 ⟨hb1, (⟨B, hg, rfl⟩ | ⟨k, hg, rfl⟩)⟩
      · have HN := Lib.hid (HF.out.next (by omega) hg)
        have HE : Hid (endF p (L ++ [B]) = endF p L + 6 + (B.length : Int)) := by show _ = _; rw [endF_snoc]; omega
        have HO1 := Lib.hid ((own_below HOW.out hb1).alloc (.cells #[.string (bs B)] 9))
        have HB1 := Lib.hid (bel2 HB.out hb1)
        have hBs1 : w.heap.size ≤ w1.heap.size := HB1.out.size
        clear hg hb1
        go_wp2_with (at_builtin; go_must (refine wpList_append_rd _ rfl (.tmp 28) (.tmp 30) 62 rfl w.heap.size 9 i0 _ 1 16 Tryz.underlying62 hi0 hz0 hz1 HZ2.out rfl (by omega) _ L.length (sV L) rfl HO1.out _ _ 1 _ [.string (bs B)] rfl (by simp) (lit_rd w1 #[.string (bs B)] _) (by simp [Value.oneCell']) (by unfold maxLen; omega) (by omega) (by simp; omega) ?_)
                     intro v7 w3 hown3 hg3 _
                     have HO3 := Lib.hid hown3; have HB3 := Lib.hid (Below.of_grown (HB1.out.alloc hBs1 _) hg3 (by simp; omega) (by intro g hg; exact (own_shape HO1.out hg).1)); clear hown3 hg3)
        go_roundw
        case rel => exact ⟨L ++ [B], HN.out, by rw [HE.out], by rw [List.length_append]; simpa [sV] using HO3.out, HB3.out⟩
        case measure =>
          obtain ⟨va', vc', rfl, _, _, _⟩ := own_slice HO3.out
          simp
          omega
      · have HS := Lib.hid (HF.out.stop hg)
        have hk : ((k : Int) != 0) = true := by have := (gotF_err hg).1; simp; omega
        have HO1 := Lib.hid (own_below HOW.out hb1)
        have HB1 := Lib.hid (bel2 HB.out hb1)
        clear hg hb1
        go_wp2_with fail
        go_ret2
        exact ⟨_, by rw [HS.out]; rfl, by rw [HS.out]; exact HO1.out, HB1.out⟩
    · have HS := Lib.hid (HF.out.full (by omega))
      go_wp2_with fail
      go_ret2
      exact ⟨_, by rw [HS.out]; rfl, by rw [HS.out]; exact HOW.out, HB.out⟩
end Go.Proofs.YthbgnkkepfbmjaaGreat

namespace Go.Proofs.YthbgnkkepfbmjaaGreat
open Go Go.RowKit

set_option maxRecDepth 20000
theorem frA_length : (frL [97]).length = 7 := by rw [frL_length]; rfl
theorem frA0 : (frL [97])[0]'(by rw [frA_length]; omega) = 1 := by decide +kernel
theorem frA1 : (frL [97])[1]'(by rw [frA_length]; omega) = 0 := by decide +kernel
theorem frA6 : (frL [97])[6]'(by rw [frA_length]; omega) = 97 := by decide +kernel
theorem putR_is (a : Option Addr) (n c : Nat) (l L : List UInt8) (E : Nat) (w : World) (hn : n = l.length) (hL : (if mayF l.length = true then (frL l, 0) else ([], 1)) = (L, E)) (hr : Rd w w.heap.size a (bV l)) :
    Calls Tryz.prog 83 #[.slice a n c] w (FrOut w L E) := by
  subst hn
  cases hm : mayF l.length with
  | true =>
    rw [hm, if_pos rfl] at hL
    injection hL with h1 h2
    subst h1 h2
    exact putR_yes a _ c l w rfl hm hr
  | false =>
    rw [hm, if_neg (by simp)] at hL
    injection hL with h1 h2
    subst h1 h2
    exact putR_no a _ c w hm
theorem refFr_is (t : ByteArray) (l L : List UInt8) (E : Nat) (w : World) (ht : t = bs l) (hL : (if mayF l.length = true then (frL l, 0) else ([], 1)) = (L, E)) :
    Calls Tryz.prog 151 #[.string t] w (RefFr w L E) := by
  cases hm : mayF l.length with
  | true =>
    rw [hm, if_pos rfl] at hL
    injection hL with h1 h2
    subst h1 h2
    exact refFr_yes t l w ht hm
  | false =>
    rw [hm, if_neg (by simp)] at hL
    injection hL with h1 h2
    subst h1 h2
    exact refFr_no t l w ht hm
end Go.Proofs.YthbgnkkepfbmjaaGreat

namespace Go.Proofs.YthbgnkkepfbmjaaGreat
open Go Go.RowKit

set_option maxRecDepth 20000
set_option maxHeartbeats 1000000 in
theorem same6_any (a1 a2 : Option Addr) (n1 n2 c1 c2 B0 : Nat) (xs : List Bod) (w : World) (h1 : n1 = xs.length) (h2 : n2 = xs.length) (hr1 : Rd w w.heap.size a1 (xs.map Bod.v)) (hr2 : Rd w w.heap.size a2 (sV (xs.map Bod.b))) (hb : ∀ x ∈ xs, BodAt B0 x w) (hl : xs.length ≤ 1000000000000) :
    Calls Tryz.prog 23 #[.slice a1 n1 c1, .slice a2 n2 c2] w fun e w' => e = .returned (.bool true) ∧ Below w.heap.size w w' := by
  have H1 := Lib.hid h1; have H2 := Lib.hid h2; have R1 := Lib.hid hr1; have R2 := Lib.hid hr2; have HB := Lib.hid hb
  have hn : n1 = n2 := by omega
  have hn1 : n1 ≤ 1000000000000 := by omega
  clear hl
  clear h1 h2 hr1 hr2 hb
  subst hn
  go_enter Tryz.func23, Tryz.ntmps23
  go_wp2_with fail
  go_loopw [13] (fun i wr => ∃ k : Nat, k ≤ n1 ∧ i = .int .i64 k ∧ Below w.heap.size w wr) (fun i _ => n1 - (intOf i).toNat)
  case atStart => exact ⟨0, Nat.zero_le _, rfl, Below.refl _ _⟩
  case round =>
    obtain ⟨k, hk, rfl, hb⟩ := hrel
    by_cases hlt : k < n1
    · have hkx : k < xs.length := by rw [← H1.out]; exact hlt
      obtain ⟨b1, o1, rfl, hb1, hc1⟩ := R1.out (by rw [List.length_map]; omega)
      obtain ⟨b2, o2, rfl, hb2, hc2⟩ := R2.out (by rw [sV_length, List.length_map]; omega)
      obtain ⟨x, hx⟩ : ∃ x, xs[k] = x := ⟨_, rfl⟩
      have hxm : x ∈ xs := by rw [← hx]; exact List.getElem_mem _
      have hbx : w.ownsRow B0 5 1 x.v x.b.length (bV x.b) := HB.out x hxm
      obtain ⟨va, vc, hv, _, _, _⟩ := own_slice hbx
      have q1 : wr.cell? ⟨b1, o1 + k, none⟩ = some (.slice va x.b.length vc) := by
        rw [hb.cell (p := ⟨b1, o1 + k, none⟩) hb1, ← hv]; exact hc1 k _ (by rw [List.getElem?_map, List.getElem?_eq_getElem hkx, hx]; rfl)
      have q2 : wr.cell? ⟨b2, o2 + k, none⟩ = some (.string (bs x.b)) := by
        rw [hb.cell (p := ⟨b2, o2 + k, none⟩) hb2]; exact hc2 k _ (by rw [sV, List.getElem?_map, List.getElem?_map, List.getElem?_eq_getElem hkx, hx]; rfl)
      rw [hv] at hbx
      have hrd := (Rd.own hbx).below hb
      have cv := run_string_of (w := wr) (l := x.b) x.b.length vc (hrd.more hb.size) rfl
      have cv2 := run_string_of (w := wr.drew) (l := x.b) x.b.length vc ((hrd.more hb.size).below (Below_drew (Below.refl wr.heap.size wr))) rfl
      have HBW := Lib.hid hb
      have HLT := Lib.hid hlt
      have HBD := Lib.hid (Below_drew hb)
      clear hc1 hc2 hbx hv hrd hx hxm hb
      go_wp2_with fail
      go_region
      clear cv cv2 q1 q2
      go_wp2_with fail
      go_roundw
      case rel => exact ⟨k + 1, HLT.out, by go_num, HBD.out⟩
      case measure => have := HLT.out; simp [intOf]; omega
    · have : k = n1 := by omega
      subst this
      go_wp2_with fail
      go_ret
      exact ⟨rfl, hb⟩
/-- Slices of bytes of the call's own, whatever they hold. -/
def U8s (B : Nat) (w : World) (v : Value) : Prop :=
  ∃ a n c, v = .slice a n c ∧ ∀ j < n, ∃ g, a = some ⟨g, 0, none⟩ ∧ B ≤ g ∧ (∃ y : UInt8, w.cell? ⟨g, j, none⟩ = some (.int .u8 (y.toNat : Int))) ∧ w.frozen? ⟨g, j, none⟩ = false
theorem U8s.of {B : Nat} {w : World} {v : Value} {n : Nat} {l : List UInt8} {t : TypeId} (h : w.ownsRow B t 1 v n (bV l)) : U8s B w v := by
  obtain ⟨a, c, rfl, _, _, hx⟩ := own_slice h
  refine ⟨a, n, c, rfl, fun j hj => ?_⟩
  obtain ⟨g, rfl, hg, _⟩ := hx (by omega)
  have hl : n = l.length := by have := h.1; rw [bV_length] at this; omega
  have hc := h.cellAt j (by omega)
  rw [bV_get l j (by omega)] at hc
  exact ⟨g, rfl, hg, ⟨_, hc⟩, h.frozenAt j⟩
theorem U8s.below {B : Nat} {w w' : World} {v : Value} (h : U8s B w v) (hb : Below w.heap.size w w') : U8s B w' v := by
  obtain ⟨a, n, c, rfl, hx⟩ := h
  refine ⟨a, n, c, rfl, fun j hj => ?_⟩
  obtain ⟨g, rfl, hg, ⟨y, hy⟩, hf⟩ := hx j hj
  have hlt : g < w.heap.size := block_lt_of_cell hy
  exact ⟨g, rfl, hg, ⟨y, by rw [hb.cell (p := ⟨g, j, none⟩) hlt]; exact hy⟩, by rw [hb.frozen (p := ⟨g, j, none⟩) hlt]; exact hf⟩
theorem U8s.set {B : Nat} {w : World} {v : Value} (h : U8s B w v) {g i : Nat} {y z : UInt8} (hy : w.cell? ⟨g, i, none⟩ = some (.int .u8 (y.toNat : Int))) : U8s B (w.setCell ⟨g, i, none⟩ (.int .u8 (z.toNat : Int))) v := by
  obtain ⟨a, n, c, rfl, hx⟩ := h
  refine ⟨a, n, c, rfl, fun j hj => ?_⟩
  obtain ⟨g2, rfl, hg, ⟨y2, hy2⟩, hf⟩ := hx j hj
  refine ⟨g2, rfl, hg, ?_, by rw [World.frozen?_setCell]; exact hf⟩
  by_cases e : g2 = g ∧ j = i
  · obtain ⟨rfl, rfl⟩ := e
    exact ⟨z, World.cell?_setCell_same' _ _ _ (by rw [hy]; rfl)⟩
  · exact ⟨y2, by rw [World.cell?_setCell_other _ _ _ _ (fun e' => e (by injection e' with e1 e2; exact ⟨e1.symm, e2.symm⟩))]; exact hy2⟩
/-- A row of slices stays where a byte is stored. -/
theorem Rd.setU8 {B : Nat} {w : World} {a : Option Addr} {vs : List Value} (h : Rd w B a vs) (hs : ∀ v ∈ vs, ∃ a n c, v = .slice a n c) {g i : Nat} {y : UInt8} {z : Value} (hy : w.cell? ⟨g, i, none⟩ = some (.int .u8 (y.toNat : Int))) : Rd (w.setCell ⟨g, i, none⟩ z) B a vs := fun h0 => by
  obtain ⟨b, off, rfl, hb, hc⟩ := h h0
  refine ⟨b, off, rfl, hb, fun j u hu => ?_⟩
  have h1 := hc j u hu
  have hne : ¬ (b = g ∧ off + j = i) := by
    rintro ⟨rfl, rfl⟩
    obtain ⟨_, _, _, rfl⟩ := hs u (List.mem_of_getElem? hu)
    rw [hy] at h1; cases h1
  rw [World.cell?_setCell_other _ _ _ _ (fun e' => hne (by injection e' with e1 e2; exact ⟨e1.symm, e2.symm⟩))]; exact h1
/-- What the loops of FrameGets keep. -/
def GetsI (w : World) (vs : List Value) (a : Option Addr) (rows : List Value) (B : Nat) (W : World) : Prop := Below w.heap.size w W ∧ (∀ v ∈ vs, U8s w.heap.size W v) ∧ Rd W B a rows
theorem GetsI.set {w W : World} {vs rows : List Value} {a : Option Addr} {B : Nat} (h : GetsI w vs a rows B W) (hs : ∀ v ∈ rows, ∃ a n c, v = .slice a n c) {g i : Nat} {y : UInt8} (hg : w.heap.size ≤ g) (hy : W.cell? ⟨g, i, none⟩ = some (.int .u8 (y.toNat : Int))) (z : UInt8) : GetsI w vs a rows B (W.setCell ⟨g, i, none⟩ (.int .u8 (z.toNat : Int))) :=
  ⟨h.1.setCell (p := ⟨g, i, none⟩) hg _, fun v hv => (h.2.1 v hv).set hy, h.2.2.setU8 hs hy⟩
end Go.Proofs.YthbgnkkepfbmjaaGreat

namespace Go.Proofs.YthbgnkkepfbmjaaGreat
open Go Go.RowKit

set_option maxRecDepth 20000
/-! Frames that are laid one behind the other. -/
def catF (L : List (List UInt8)) : List UInt8 := L.flatMap frL
def eL (L : List (List UInt8)) (i : Nat) : Nat := (catF (L.take i)).length
theorem catF_snoc (L : List (List UInt8)) (b : List UInt8) : catF (L ++ [b]) = catF L ++ frL b := by simp [catF]
theorem eL_zero (L : List (List UInt8)) : eL L 0 = 0 := rfl
theorem eL_succ (L : List (List UInt8)) {i : Nat} (h : i < L.length) : eL L (i + 1) = eL L i + (6 + L[i].length) := by
  unfold eL
  rw [← List.take_append_getElem h, catF_snoc, List.length_append, frL_length]
theorem eL_mono (L : List (List UInt8)) {i : Nat} : ∀ d, i + d ≤ L.length → eL L i ≤ eL L (i + d)
  | 0, _ => Nat.le_refl _
  | d + 1, h => by
    have := eL_mono L d (by omega : i + d ≤ L.length)
    rw [← Nat.add_assoc, eL_succ L (by omega)]; omega
theorem eL_all (L : List (List UInt8)) : eL L L.length = (catF L).length := by rw [eL, List.take_length]
theorem eL_le (L : List (List UInt8)) (h3 : ∀ b ∈ L, b.length ≤ 300) : ∀ i, i ≤ L.length → eL L i ≤ 306 * i
  | 0, _ => Nat.le_refl _
  | i + 1, h => by
    have ih := eL_le L h3 i (by omega)
    have := h3 L[i] (List.getElem_mem _)
    rw [eL_succ L (by omega)]; omega
theorem catF_drop (L : List (List UInt8)) {i : Nat} (h : i < L.length) : ∃ R, (catF L).drop (eL L i) = frL L[i] ++ R := by
  refine ⟨catF (L.drop (i + 1)), ?_⟩
  have e : catF L = catF (L.take i) ++ (frL L[i] ++ catF (L.drop (i + 1))) := by
    have h2 : L = L.take i ++ (L[i] :: L.drop (i + 1)) := by rw [← List.drop_eq_getElem_cons h, List.take_append_drop]
    have h3 : catF L = catF (L.take i ++ (L[i] :: L.drop (i + 1))) := by rw [← h2]
    rw [h3]; unfold catF; rw [List.flatMap_append, List.flatMap_cons]
  rw [e, eL, List.drop_left]
/-- How many are whole ahead of k. -/
def Whole (L : List (List UInt8)) (k i W : Nat) : Prop := W ≤ i ∧ eL L W ≤ k ∧ (W < i → k < eL L (W + 1))
theorem Whole.start (L : List (List UInt8)) (k : Nat) : Whole L k 0 0 := ⟨Nat.le_refl _, Nat.zero_le _, fun h => absurd h (by omega)⟩
theorem Whole.yes {L : List (List UInt8)} {k i W : Nat} (h : Whole L k i W) (hi : i < L.length) (he : eL L (i + 1) ≤ k) : W = i ∧ Whole L k (i + 1) (i + 1) := by
  have hW : W = i := by
    rcases Nat.lt_or_ge W i with h1 | h1
    · have h2 := h.2.2 h1
      have h3 := eL_mono L (i := W + 1) (i - W) (by omega)
      rw [show W + 1 + (i - W) = i + 1 by omega] at h3
      omega
    · have := h.1; omega
  exact ⟨hW, Nat.le_refl _, he, fun h => absurd h (by omega)⟩
theorem Whole.no {L : List (List UInt8)} {k i W : Nat} (h : Whole L k i W) (he : k < eL L (i + 1)) : Whole L k (i + 1) W :=
  ⟨by have := h.1; omega, h.2.1, fun _ => by
    rcases Nat.lt_or_ge W i with h1 | h1
    · exact h.2.2 h1
    · have : W = i := by have := h.1; omega
      subst this; exact he⟩
theorem endF_take (L : List (List UInt8)) : ∀ i, i ≤ L.length → endF 0 (L.take i) = (eL L i : Int)
  | 0, _ => by simp [endF, eL_zero]
  | i + 1, h => by
    rw [← List.take_append_getElem (by omega : i < L.length), endF_snoc, endF_take L i (by omega), eL_succ L (by omega)]; omega
/-- Cut off at k, just the whole ones are found. -/
theorem allF_cut {L : List (List UInt8)} (hL : ∀ b ∈ L, mayF b.length = true) {k W m : Nat} (hk : k ≤ (catF L).length) (hm : L.length ≤ m) (h : Whole L k L.length W) : allF ((catF L).take k) m 0 = L.take W := by
  have hlen : ((catF L).take k).length = k := by rw [List.length_take]; omega
  have hf : ∀ j, j ≤ W → Found ((catF L).take k) m 0 (L.take j) := by
    intro j
    induction j with
    | zero => intro _; exact Found.start _ _ _
    | succ j ih =>
      intro hj
      have hjl : j < L.length := by have := h.1; omega
      have hjw : eL L (j + 1) ≤ k := by
        have h3 := eL_mono L (i := j + 1) (W - (j + 1)) (by have := h.1; omega)
        rw [show j + 1 + (W - (j + 1)) = W by omega] at h3
        have := h.2.1; omega
      have hs := eL_succ L hjl
      have ihj := ih (by omega)
      rw [← List.take_append_getElem hjl]
      refine ihj.next (by rw [List.length_take]; omega) ?_
      rw [endF_take L j (by omega), gotF_at (by rw [hlen]; omega), List.drop_take]
      obtain ⟨R, hR⟩ := catF_drop L hjl
      rw [hR]
      refine firstF_of ?_ (hL _ (List.getElem_mem _))
      rw [List.take_take, Nat.min_eq_left (by omega), List.take_append_of_le_length (by rw [frL_length]; omega), ← frL_length, List.take_length]
  have hfw := hf W (Nat.le_refl _)
  have hW := h.1
  cases hg : gotF ((catF L).take k) (endF 0 (L.take W)) with
  | error e => exact hfw.stop hg
  | ok b =>
    exfalso
    rw [endF_take L W hW] at hg
    have hfit := gotF_fits hg
    rw [hlen] at hfit
    rcases Nat.lt_or_ge W L.length with h1 | h1
    · have h2 := h.2.2 h1
      rw [gotF_at (by rw [hlen]; omega), List.drop_take] at hg
      obtain ⟨R, hR⟩ := catF_drop L h1
      have hs := eL_succ L h1
      rw [hR, List.take_append_of_le_length (by rw [frL_length]; omega)] at hg
      obtain ⟨e, he⟩ := firstF_cut (b := L[W]) (mayF_iff.1 (hL _ (List.getElem_mem _))).2 (r := k - eL L W) (by rw [frL_length]; omega)
      rw [he] at hg; cases hg
    · have : W = L.length := by omega
      subst this
      rw [eL_all] at hfit
      omega
theorem By_elem {w : World} {B : Nat} {a : Option Addr} {L : List By} (h : Rd w B a (flatG By.l L)) {i : Nat} (hi : i < L.length) : ∃ b off, a = some ⟨b, off, none⟩ ∧ b < B ∧ w.cell? ⟨b, off + i, none⟩ = some (.slice L[i].a L[i].b.length L[i].c) := by
  obtain ⟨b, off, ha, hb, hc⟩ := Rd.elemG (enc := By.l) (m := 1) (fun _ => rfl) (by omega) h hi
  have := hc 0 _ rfl
  rw [Nat.mul_one, Nat.add_zero] at this
  exact ⟨b, off, ha, hb, this⟩
def iV (L : List Nat) : List Value := L.map fun (n : Nat) => .int .i64 (n : Int)
def endsL (L : List (List UInt8)) (i : Nat) : List Nat := (List.range i).map fun j => eL L (j + 1)
theorem endsL_succ (L : List (List UInt8)) (i : Nat) : endsL L (i + 1) = endsL L i ++ [eL L (i + 1)] := by simp [endsL, List.range_succ]
theorem endsL_length (L : List (List UInt8)) (i : Nat) : (endsL L i).length = i := by simp [endsL]
theorem info_int : (Tryz.prog.info? 3).map (fun i => (i.zero, i.size, i.bytes)) = some (some (.int .i64 0), 1, 8) := by kernel_rfl
/-- What laid answers. -/
def LaidOut (w : World) (L : List (List UInt8)) (e : Ending) (w' : World) : Prop :=
  ∃ vb ve, e = .returned (.tuple #[vb, ve, .bool true]) ∧ w'.ownsRow w.heap.size 5 1 vb (catF L).length (bV (catF L)) ∧ w'.ownsRow w.heap.size 3 1 ve L.length (iV (endsL L L.length)) ∧ Below w.heap.size w w'
end Go.Proofs.YthbgnkkepfbmjaaGreat

