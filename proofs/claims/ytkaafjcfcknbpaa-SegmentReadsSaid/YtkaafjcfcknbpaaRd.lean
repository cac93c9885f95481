import Derived.Test.YtkaafjcfcknbpaaRb
namespace Go.Proofs.Ytkaafjcfcknbpaa
open Go Go.RowKit

set_option maxRecDepth 20000
set_option maxHeartbeats 1000000 in
theorem cloneB_any (ad : Addr) (n c : Nat) (l : List UInt8) (w : World) (hn : n = l.length) (hr : Rd w w.heap.size (some ad) (bV l)) (hl : l.length ≤ 1000000000000) :
    Calls Try.prog 58 #[.slice (some ad) n c] w fun e w' => ∃ v, e = .returned v ∧ w'.ownsRow w.heap.size 5 1 v l.length (bV l) ∧ Below w.heap.size w w' := by
  subst hn
  have HR := Lib.hid (hr.below (box1 w (.cells #[] 5))); clear hr
  obtain ⟨i0, hi0, hz0, hz1, hz2⟩ := info_parts info_u8
  have HZ2 := Lib.hid hz2; clear hz2
  have q22 : ∀ (w : World) (a : Option Addr) (n c n' c' : Nat), (binOp .eql 23 (.slice a n c) (.slice none n' c')).run Try.prog w = .ok (.bool a.isNone) w := fun w a n c n' c' => Lib.run_eql_slice_nil w _ _ a n c n' c' Try.underlying23
  go_enter Try.func58, Try.ntmps58
  go_wp2_with (refine wpList_append_rd _ rfl _ _ 23 rfl w.heap.size 5 i0 _ 1 1 Try.underlying23 hi0 hz0 hz1 HZ2.out rfl (by omega) (.slice (some ⟨w.heap.size, 0, none⟩) 0 0) 0 [] rfl (World.ownsRow_made w #[] 0 (Nat.le_refl _) (by decide) rfl) _ _ l.length _ (bV l) rfl (by rw [bV_length, Nat.mul_one]) HR.out (bV_one _) (by unfold maxLen; omega) (by omega) (by simp) ?_
               intro v7 w1 hown1 hg1 _
               have HO1 := Lib.hid hown1; have HG1 := Lib.hid hg1; clear hown1 hg1)
  go_ret
  refine ⟨v7, rfl, ?_, Below.of_grown (box1 w _) HG1.out (by simp) (by intro g h; simp [Value.ownBlock] at h; omega)⟩
  have h := HO1.out
  rwa [Nat.zero_add, List.nil_append] at h
theorem get6_is (a : Option Addr) (c : Nat) (b : List UInt8) (p k : Nat) (w : World) (hr : Rd w w.heap.size a (bV b)) (hl : b.length ≤ 1000000000000) (hk : cnt (k : Int) = k) (hk8 : k ≤ 8) (hp : p + k ≤ b.length) (G : Nat) (hG : gN b p k = G) :
    Calls Try.prog 43 #[.slice a b.length c, .int .i64 (p : Int), .int .i64 (k : Int)] w fun e w' => e = .returned (.tuple #[.int .u64 (G : Int), .bool true]) ∧ w = w' := by
  have h := get_any a c b (p : Int) (k : Int) w hr hl (by omega) (by omega) (by omega) (by omega)
  rw [getR_yes (by rw [hk]; omega), hk, Int.toNat_natCast, hG] at h
  exact h
set_option maxHeartbeats 2000000 in
theorem firstBody_any (a : Option Addr) (n c : Nat) (l : List UInt8) (w : World) (hn : n = l.length) (hlc : l.length ≤ c) (hcm : c ≤ maxLen) (hl : l.length ≤ 1000000000000) (hr : Rd w w.heap.size a (bV l)) :
    Calls Try.prog 57 #[.slice a n c] w fun e w' => Below w.heap.size w w' ∧
      ((∃ ad b c', firstF l = .ok b ∧ e = .returned (.tuple #[.slice (some ad) b.length c', .int .i64 0]) ∧ Rd w' w'.heap.size (some ad) (bV b)) ∨ ∃ k, firstF l = .error k ∧ e = .returned (.tuple #[.slice none 0 0, .int .i64 (k : Int)])) := by
  subst hn
  have HR := Lib.hid hr; clear hr
  have HC := Lib.hid hcm; unfold maxLen at hcm
  by_cases h6 : l.length < 6
  · have HE := Lib.hid (firstF_short h6)
    go_enter Try.func57, Try.ntmps57
    go_wp2_with fail
    go_ret2
    exact ⟨Below.refl _ _, .inr ⟨2, HE.out, rfl⟩⟩
  obtain ⟨b, off, rfl, _, _⟩ := HR.out (by rw [bV_length]; omega)
  obtain ⟨N, hN⟩ : ∃ N, gN l 0 2 = N := ⟨_, rfl⟩
  obtain ⟨S, hS⟩ : ∃ S, gN l 2 4 = S := ⟨_, rfl⟩
  have hNl : N < 65536 := by have := gN_lt l 0 2; omega
  have hSl : S < 4294967296 := by have := gN_lt l 2 4; omega
  have hw : IntKind.i64.wrap (N : Int) = (N : Int) := i64_small (by omega)
  have HN := Lib.hid hN; have HS := Lib.hid hS; clear hN hS
  have hrest : ∃ ad, (if c = 6 then some (⟨b, off, none⟩ : Addr) else some ⟨b, off + 6, none⟩) = some ad ∧ Rd w w.heap.size (some ad) (bV (l.drop 6)) := by
    by_cases h : c = 6
    · refine ⟨⟨b, off, none⟩, if_pos h, ?_⟩
      rw [List.drop_of_length_le (by omega)]; exact Rd.nil _ _ _
    · refine ⟨⟨b, off + 6, none⟩, if_neg h, ?_⟩
      rw [bV_drop]; exact HR.out.drop 6
  obtain ⟨ad, hra, hrr⟩ := hrest
  have HRR := Lib.hid hrr; clear hrr
  go_enter Try.func57, Try.ntmps57
  go_wp2_with fail
  refine (get6_is (some ⟨b, off, none⟩) c l 0 2 w HR.out hl rfl (by omega) (by omega) N HN.out).mono ?_; rintro e w1 ⟨rfl, rfl⟩
  go_wp2_with fail
  refine (get6_is (some ⟨b, off, none⟩) c l 2 4 w HR.out hl rfl (by omega) (by omega) S HS.out).mono ?_; rintro e w1 ⟨rfl, rfl⟩
  go_wp2_with fail
  go_region

  clear hra
  have HR := Lib.hid ((HR.out.below (Below_drew (Below.refl w.heap.size w))))
  have HRR := Lib.hid ((HRR.out.below (Below_drew (Below.refl w.heap.size w))))
  have HW : Hid (Below w.heap.size w w.drew) := Below_drew (Below.refl _ _)
  have HWS : Hid (w.drew.heap.size = w.heap.size) := rfl
  generalize w.drew = w1 at HR HRR HW HWS ⊢
  rw [← HWS.out] at HR HRR
  cases hm : mayF N with
  | false =>
    have HM := Lib.hid hm
    have HE := Lib.hid (firstF_form (s := l) (by omega) (by rw [HN.out]; exact hm))
    clear hm
    go_wp2_with fail
    refine (lengthMay_is N false HM.out _).mono ?_; rintro e w2 ⟨rfl, rfl⟩
    go_wp2_with fail
    go_ret2
    exact ⟨HW.out, .inr ⟨3, HE.out, rfl⟩⟩
  | true =>
    have HM := Lib.hid hm
    clear hm
    by_cases hs : l.length < 6 + N
    · have HE := Lib.hid (firstF_less (s := l) (by omega) (by rw [HN.out]; exact HM.out) (by rw [HN.out]; exact hs))
      go_wp2_with fail
      refine (lengthMay_is N true HM.out _).mono ?_; rintro e w2 ⟨rfl, rfl⟩
      go_wp2_with fail
      go_ret2
      exact ⟨HW.out, .inr ⟨2, HE.out, rfl⟩⟩
    · obtain ⟨B, hB⟩ : ∃ B, (l.drop 6).take N = B := ⟨_, rfl⟩
      have hBl : B.length = N := by rw [← hB, List.length_take, List.length_drop]; omega
      obtain ⟨S2, hS2⟩ : ∃ S2, sumF (l.take 2) B = S2 := ⟨_, rfl⟩
      have hS2l : S2 < 4294967296 := by rw [← hS2]; exact sumF_lt _ _
      have HRB : Hid (Rd w1 w1.heap.size (some ad) (bV B)) := by
        have h := HRR.out.take N
        rw [← bV_take, hB] at h; exact h
      have HR2 : Hid (Rd w1 w1.heap.size (some ⟨b, off, none⟩) (bV (l.take 2))) := by rw [bV_take]; exact HR.out.take 2
      have HT2 : Hid (2 = (l.take 2).length) := by show _ = _; rw [List.length_take]; omega
      have HT2L : Hid ((l.take 2).length ≤ 1000000000000) := by show _ ≤ _; rw [List.length_take]; omega
      have HBLL : Hid (B.length ≤ 1000000000000) := by show _ ≤ _; omega
      have j1 : (2 : Int) ≤ (c : Int) := by omega
      have j2 : (N : Int) ≤ ((c - 6 : Nat) : Int) := by omega
      have j3 : N ≤ c - 6 := by omega
      have j4 : (0 : Int) ≤ (N : Int) := by omega
      have HB := Lib.hid hB; have HBL := Lib.hid hBl; have HS2 := Lib.hid hS2
      clear hB hBl hS2
      by_cases hq : S2 = S
      · have HE : Hid (firstF l = .ok B) := by
          show _ = _
          rw [firstF_ok (s := l) (by rw [HN.out]; exact HM.out) (by rw [HN.out]; omega) (by rw [HN.out, HB.out, HS2.out, HS.out]; exact hq), HN.out, HB.out]
        subst hq
        go_wp2_with fail
        refine (lengthMay_is N true HM.out _).mono ?_; rintro e w2 ⟨rfl, rfl⟩
        go_wp2_with fail
        refine wp_region_quiet_below (by kernel_rfl) (by kernel_rfl) ?_
        iterate 9 (first | go_big_quiet_step (first
          | (go_at_call 33; exact Calls.regrown_of (sumOf_is (some ⟨b, off, none⟩) (some ad) 2 N c (c - 6) (l.take 2) B _ HT2.out HBL.out.symm S2 HS2.out ((HR2.out.below (below_regrown w1 _ _)).more (below_regrown w1 _ _).size) ((HRB.out.below (below_regrown w1 _ _)).more (below_regrown w1 _ _).size) HT2L.out HBLL.out))) | fail)
        refine wpQuiet_nil ?_
        intro w2 hw'
        obtain ⟨⟨d, os⟩, hw''⟩ := hw'
        have hb2 := below_regrown w1 d os
        rw [← hw''] at hb2
        clear hw''
        have HO : Hid (Below w.heap.size w w2) := bel2 HW.out hb2
        have HRB2 := Lib.hid ((HRB.out.below hb2).more hb2.size)
        clear hb2
        go_wp2_with fail
        go_ret2
        exact ⟨HO.out, .inl ⟨ad, B, c - 6, HE.out, by rw [HBL.out]; rfl, HRB2.out⟩⟩
      · have HE : Hid (firstF l = .error 8) :=
          firstF_sum (s := l) (by rw [HN.out]; exact HM.out) (by rw [HN.out]; omega) (by rw [HN.out, HB.out, HS2.out, HS.out]; exact hq)
        have hne : ((S2 : Int) != (S : Int)) = true := by simp; omega
        go_wp2_with fail
        refine (lengthMay_is N true HM.out _).mono ?_; rintro e w2 ⟨rfl, rfl⟩
        go_wp2_with fail
        refine wp_region_quiet_below (by kernel_rfl) (by kernel_rfl) ?_
        iterate 9 (first | go_big_quiet_step (first
          | (go_at_call 33; exact Calls.regrown_of (sumOf_is (some ⟨b, off, none⟩) (some ad) 2 N c (c - 6) (l.take 2) B _ HT2.out HBL.out.symm S2 HS2.out ((HR2.out.below (below_regrown w1 _ _)).more (below_regrown w1 _ _).size) ((HRB.out.below (below_regrown w1 _ _)).more (below_regrown w1 _ _).size) HT2L.out HBLL.out))) | fail)
        refine wpQuiet_nil ?_
        intro w2 hw'
        obtain ⟨⟨d, os⟩, hw''⟩ := hw'
        have hb2 := below_regrown w1 d os
        rw [← hw''] at hb2
        clear hw''
        have HO : Hid (Below w.heap.size w w2) := bel2 HW.out hb2
        clear hb2
        go_wp2_with fail
        go_ret2
        exact ⟨HO.out, .inr ⟨8, HE.out, rfl⟩⟩
end Go.Proofs.Ytkaafjcfcknbpaa

namespace Go.Proofs.Ytkaafjcfcknbpaa
open Go Go.RowKit

set_option maxRecDepth 20000
/-- What Get answers. -/
def GetOut (w : World) (l : List UInt8) (p : Int) (e : Ending) (w' : World) : Prop := Below w.heap.size w w' ∧
  ((∃ b v, gotF l p = .ok b ∧ e = .returned (.tuple #[v, .int .i64 (p + 6 + (b.length : Int)), .int .i64 0]) ∧ w'.ownsRow w.heap.size 5 1 v b.length (bV b)) ∨ ∃ k, gotF l p = .error k ∧ e = .returned (.tuple #[.slice none 0 0, .int .i64 0, .int .i64 (k : Int)]))
set_option maxHeartbeats 1000000 in
theorem gotF_any (a : Option Addr) (n c : Nat) (l : List UInt8) (p : Int) (w : World) (hn : n = l.length) (hlc : l.length ≤ c) (hcm : c ≤ maxLen) (hl : l.length ≤ 1000000000000) (hr : Rd w w.heap.size a (bV l)) :
    Calls Try.prog 45 #[.slice a n c, .int .i64 p] w (GetOut w l p) := by
  subst hn
  have HR := Lib.hid hr; clear hr
  have HC := Lib.hid hcm; unfold maxLen at hcm
  by_cases h0 : p < 0
  · have HE := Lib.hid (gotF_none (l := l) (.inl h0))
    go_enter Try.func45, Try.ntmps45
    go_wp2_with fail
    go_ret3
    exact ⟨Below.refl _ _, .inr ⟨5, HE.out, rfl⟩⟩
  by_cases h1 : (l.length : Int) ≤ p
  · have HE := Lib.hid (gotF_none (l := l) (.inr h1))
    go_enter Try.func45, Try.ntmps45
    go_wp2_with fail
    go_ret3
    exact ⟨Below.refl _ _, .inr ⟨5, HE.out, rfl⟩⟩
  obtain ⟨q, rfl⟩ : ∃ q : Nat, p = q := ⟨p.toNat, by omega⟩
  have HE := Lib.hid (gotF_at (l := l) (q := q) (by omega))
  obtain ⟨b, off, rfl, _, _⟩ := HR.out (by rw [bV_length]; omega)
  obtain ⟨D, hD⟩ : ∃ D, l.drop q = D := ⟨_, rfl⟩
  have HRD : Hid (Rd w w.heap.size (some ⟨b, off + q, none⟩) (bV D)) := by
    show Rd _ _ _ _
    rw [← hD, bV_drop]; exact HR.out.drop q
  have hDl : D.length = l.length - q := by rw [← hD, List.length_drop]
  rw [hD] at HE
  have HDL := Lib.hid hDl
  have hcq : ¬ (c = q) := by omega
  have hcq2 : ¬ (c - q = 0) := by omega
  clear hDl hD
  go_enter Try.func45, Try.ntmps45
  go_wp2_with fail
  refine (firstBody_any (some ⟨b, off + q, none⟩) (l.length - q) (c - q) D w HDL.out.symm (by rw [HDL.out]; omega) (by unfold maxLen; omega) (by rw [HDL.out]; omega) HRD.out).mono ?_
  rintro e w1 ⟨hb1, (⟨ad, B, c', hf, rfl, hr1⟩ | ⟨k, hf, rfl⟩)⟩
  · have HG : Hid (gotF l (q : Int) = .ok B) := by show _ = _; rw [HE.out]; exact hf
    have hfit := gotF_fits HG.out
    have HB1 := Lib.hid hb1; have HR1 := Lib.hid hr1
    clear hb1 hr1 hf
    have hbl : B.length ≤ 2406 := hfit.2.2.2
    have hql : (q : Int) + 6 + B.length ≤ l.length := hfit.2.1
    clear hfit
    go_wp2_with fail
    refine (cloneB_any ad B.length c' B w1 rfl HR1.out (by omega)).mono ?_; rintro e w2 ⟨v, rfl, ho2, hb2⟩
    have HO2 := Lib.hid ho2
    have HB2 := Lib.hid (bel2 HB1.out hb2)
    have HBS : Hid (w.heap.size ≤ w1.heap.size) := HB1.out.size
    clear ho2 hb2
    go_wp2_with fail
    go_ret3
    exact ⟨HB2.out, .inl ⟨B, v, HG.out, rfl, own_base HO2.out HBS.out⟩⟩
  · have HG : Hid (gotF l (q : Int) = .error k) := by show _ = _; rw [HE.out]; exact hf
    have HB1 := Lib.hid hb1
    have hk : ((k : Int) != 0) = true := by have := (gotF_err HG.out).1; simp; omega
    clear hb1 hf
    go_wp2_with fail
    go_ret3
    exact ⟨HB1.out, .inr ⟨k, HG.out, rfl⟩⟩
end Go.Proofs.Ytkaafjcfcknbpaa

