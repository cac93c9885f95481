import Derived.Test.YtphldcmikkhefaaPg
import Derived.Deep.RegionLaw
namespace Go.Proofs.Ytphldcmikkhefaa
open Go Go.RowKit Go.Sort

/-- A slice of bytes is answered that reads as L. -/
def BytesOut (w : World) (L : List UInt8) (e : Ending) (w' : World) : Prop :=
  ∃ a c, e = .returned (.slice a L.length c) ∧ L.length ≤ c ∧ c ≤ maxLen ∧ Rd w' w'.heap.size a (bV L) ∧ Below w.heap.size w w'
theorem own_out {w w' : World} {v : Value} {n : Nat} {L : List UInt8} {e : Ending} {base : Nat} {t : TypeId} (he : e = .returned v) (ho : w'.ownsRow base t 1 v n (bV L)) (hb : Below w.heap.size w w') : BytesOut w L e w' := by
  have hn : n = L.length := by have := ho.1; rw [bV_length] at this; omega
  subst hn
  obtain ⟨a, c, rfl, h1, h2, _⟩ := own_slice ho
  exact ⟨a, c, he, h1, h2, Rd.own ho, hb⟩
theorem put_out (a : Option Addr) (c : Nat) (l : List UInt8) (n : Nat) (s : Int) (w : World) (hr : Rd w w.heap.size a (bV l)) (hl : l.length ≤ 1000000000000) (hlc : l.length ≤ c) (hn : n < 18446744073709551616)
    (h1 : -9223372036854775808 ≤ s) (h2 : s ≤ 9223372036854775807) :
    Calls Try.prog 8 #[.slice a l.length c, .int .u64 n, .int .i64 s] w (BytesOut w (l ++ putL n (cnt s))) :=
  (put_any a c l n s w hr hl hlc hn h1 h2).mono fun _ _ ⟨_, he, ho, hb⟩ => own_out he ho hb
theorem putText_out (a : Option Addr) (c : Nat) (l : List UInt8) (s : ByteArray) (w : World) (hr : Rd w w.heap.size a (bV l)) (hl : l.length ≤ 1000000000000) (hlc : l.length ≤ c) (hs : s.size ≤ maxLen) :
    Calls Try.prog 12 #[.slice a l.length c, .string s] w (BytesOut w (l ++ fldL s.data.toList)) :=
  (putText_any a c l s w hr hl hlc hs).mono fun _ _ ⟨_, he, ho, hb⟩ => own_out he ho hb
theorem put_513 (w : World) : Calls Try.prog 8 #[.slice none 0 0, .int .u64 513, .int .i64 2] w (BytesOut w [1, 2]) := by
  have h := put_out none 0 [] 513 2 w (Rd.nil _ _ _) (by decide) (by decide) (by omega) (by omega) (by omega)
  have e : [] ++ putL 513 (cnt 2) = [1, 2] := by decide
  rw [e] at h
  exact h
theorem put_ab (w : World) : Calls Try.prog 12 #[.slice none 0 0, .string ⟨#[97, 98]⟩] w (BytesOut w [2, 97, 98, 0, 0, 0, 0, 0, 0, 0, 0, 0, 0, 0, 0, 0, 0]) := by
  have h := putText_out none 0 [] ⟨#[97, 98]⟩ w (Rd.nil _ _ _) (by decide) (by decide) (by decide)
  have e : [] ++ fldL (ByteArray.mk #[97, 98]).data.toList = [2, 97, 98, 0, 0, 0, 0, 0, 0, 0, 0, 0, 0, 0, 0, 0, 0] := by decide
  rw [e] at h
  exact h

set_option maxHeartbeats 1000000 in
theorem fixed_any (w : World) : Calls Try.prog 7 #[] w fun e w' => e = .returned (.bool true) ∧ Below w.heap.size w w' := by
  go_enter Try.func7, Try.ntmps7
  go_wp2_with fail
  refine (put_513 _).mono ?_
  rintro e w1 ⟨a1, c1, rfl, _, _, hr1, hb1⟩
  have hcv1 := run_string_of (w := w1) 2 c1 hr1 rfl
  have hq1 : (bs [1, 2]).toList = [1, 2] := bs_list _
  go_wp2_with fail
  refine (put_ab _).mono ?_
  rintro e w2 ⟨a2, c2, rfl, _, _, hr2, hb2⟩
  have hcv2 := run_string_of (w := w2) 17 c2 hr2 rfl
  go_wp2
  go_ret
  exact ⟨ret_bool (by rw [bs_list]; decide), bel2 hb1 hb2⟩

theorem run_string_grown {W : World} {a : Option Addr} {l : List UInt8} (n c : Nat) (h : Rd W W.heap.size a (bV l)) (hn : n = l.length) :
    ∀ d os, (convert 22 9 (.slice a n c)).run Try.prog (grow (redrawn W d) os) = .ok (.string (bs l)) (grow (redrawn W d) os) :=
  fun d os => run_string_of n c (h.below (below_regrown W d os)) hn

theorem gN_append (l m : List UInt8) (i : Nat) : ∀ k, gN (l ++ m) (l.length + i) k = gN m i k
  | 0 => rfl
  | k + 1 => by
    have h := gN_append l m i k
    have e : (l ++ m).getD (l.length + i + k) 0 = m.getD (i + k) 0 := by
      simp only [List.getD]
      rw [List.getElem?_append_right (by omega), show l.length + i + k - l.length = i + k by omega]
    rw [gN, gN, h, e]
theorem getR_put (l : List UInt8) (n : Nat) (s : Int) : getR (l ++ putL n (cnt s)) l.length s = getR (putL n (cnt s)) 0 s ∧ (getR (putL n (cnt s)) 0 s).2 = true := by
  rw [getR_yes (l := l ++ putL n (cnt s)) (by rw [List.length_append, putL_length]; omega), getR_yes (by rw [putL_length]; omega)]
  exact ⟨by rw [Int.toNat_natCast]; exact Prod.ext (gN_append l _ 0 _) rfl, rfl⟩
set_option maxHeartbeats 2000000 in
theorem law_numbers (a : Option Addr) (c : Nat) (l : List UInt8) (n : Nat) (p0 p1 : Int) (w : World) (hr : Rd w w.heap.size a (bV l)) (hlc : l.length ≤ c) (hc : c ≤ maxLen) (hn : n < 18446744073709551616)
    (h1 : -9223372036854775808 ≤ p0) (h2 : p0 ≤ 9223372036854775807) (h3 : -9223372036854775808 ≤ p1) (h4 : p1 ≤ 9223372036854775807) :
    Calls Try.prog 3 #[.slice a l.length c, .int .u64 n, .agg #[.int .i64 p0, .int .i64 p1]] w fun e w' => e = .returned (.bool true) ∧ Below w.heap.size w w' := by
  have HR := Lib.hid hr; have HC := Lib.hid hc; clear hr hc
  have HP1 := Lib.hid h1; have HP2 := Lib.hid h2; have HP3 := Lib.hid h3; have HP4 := Lib.hid h4; clear h1 h2 h3 h4
  by_cases hlong : 200 < l.length
  · go_enter Try.func3, Try.ntmps3
    go_wp2_with (go_at_call 7; refine (fixed_any _).mono ?_; rintro e w' ⟨rfl, hb⟩)
    go_ret
    exact ⟨rfl, bel2 (box1 _ _) hb⟩
  obtain ⟨W0, hW0⟩ : ∃ W0, W0 = w.alloc (.cells #[.int .i64 p0, .int .i64 p1] 24) := ⟨_, rfl⟩
  have hb0 : Below w.heap.size w W0 := by rw [hW0]; exact box1 _ _
  have hs0 : w.heap.size < W0.heap.size := by rw [hW0]; simp
  have hc0 : W0.cell? ⟨w.heap.size, 0, none⟩ = some (.int .i64 p0) := by rw [hW0]; go_simp
  have hc1 : W0.cell? ⟨w.heap.size, 1, none⟩ = some (.int .i64 p1) := by rw [hW0]; go_simp
  have HC0 := Lib.hid hc0; have HC1 := Lib.hid hc1; clear hc0 hc1
  have HB0 := Lib.hid hb0; clear hb0
  have HR0 := Lib.hid ((HR.out.below HB0.out).more (Nat.le_of_lt hs0))
  have hcv := run_string_of (w := W0) l.length c HR0.out rfl
  rw [hW0] at hcv
  have HW0 := Lib.hid hW0; clear hW0
  go_enter Try.func3, Try.ntmps3
  go_wp2_with fail
  rw [← HW0.out]
  clear HW0 hcv
  obtain ⟨L1, hL1⟩ : ∃ L1, L1 = l ++ putL n (cnt p0) := ⟨_, rfl⟩
  have HL1 := Lib.hid hL1
  have hL1l : L1.length ≤ 1000000000000 := by rw [hL1, List.length_append, putL_length]; have := cnt_le p0; omega
  refine (put_out a c l n p0 W0 HR0.out (by omega) hlc hn HP1.out HP2.out).mono ?_
  rw [← hL1]
  clear hL1
  rintro e W1 ⟨a1, c1, rfl, hlc1, hcm1, hr1, hb1⟩
  have HR1 := Lib.hid hr1; have HB1 := Lib.hid hb1; clear hr1 hb1
  have hc0 : W1.cell? ⟨w.heap.size, 0, none⟩ = some (.int .i64 p0) := by rw [HB1.out.cell (p := ⟨w.heap.size, 0, none⟩) hs0]; exact HC0.out
  have hc1 : W1.cell? ⟨w.heap.size, 1, none⟩ = some (.int .i64 p1) := by rw [HB1.out.cell (p := ⟨w.heap.size, 1, none⟩) hs0]; exact HC1.out
  have HR2 := Lib.hid ((HR0.out.below HB1.out).more HB1.out.size)
  have HLL : Hid ((bs l).data.toList = l) := bs_toList l
  obtain ⟨R, hR⟩ : ∃ R, R = getR l p1 p0 := ⟨_, rfl⟩
  go_wp2_with fail
  refine (get_any a c l p1 p0 W1 HR2.out (by omega) HP1.out HP2.out HP3.out HP4.out).mono ?_
  rw [← hR]
  rintro e W1' ⟨rfl, rfl⟩
  go_wp2_with fail
  refine (refGet_any (bs l) p1 p0 W1 (by rw [bs_size]; omega) HP1.out HP2.out HP3.out HP4.out).mono ?_
  rw [HLL.out, ← hR]
  rintro e W2 ⟨rfl, hb2⟩
  have HB2 := Lib.hid hb2
  have hs1 : w.heap.size < W1.heap.size := Nat.lt_of_lt_of_le hs0 HB1.out.size
  have hs2 : w.heap.size < W2.heap.size := Nat.lt_of_lt_of_le hs1 hb2.size
  clear hb2 hR
  have HC0' : Hid (W2.cell? ⟨w.heap.size, 0, none⟩ = some (.int .i64 p0)) := by show _ = _; rw [HB2.out.cell (p := ⟨w.heap.size, 0, none⟩) hs1]; exact hc0
  clear hc0 hc1
  have HR3 := Lib.hid ((HR2.out.below HB2.out).more HB2.out.size)
  have HR4 := Lib.hid ((HR1.out.below HB2.out).more HB2.out.size)
  go_wp2_with fail
  have hk0 : ∀ d os, (grow (redrawn W2 d) os).cell? ⟨w.heap.size, 0, none⟩ = some (.int .i64 p0) := fun d os => ((below_regrown W2 d os).cell hs2).trans HC0'.out
  have hcv1 := run_string_grown L1.length c1 HR4.out rfl
  have hcv2 := run_string_grown l.length c HR3.out rfl
  have hsz : ¬ 9223372036854775807 < (bs l).size + (bs (putL n (cnt p0))).size := by rw [bs_size, bs_size, putL_length]; have := cnt_le p0; omega
  have ⟨t1, t2⟩ := str_eq (x := bs L1) (y := bs l ++ bs (putL n (cnt p0))) (b := true) (by rw [bs_append, HL1.out]; simp)
  have ⟨t3, t4⟩ := str_eq (x := bs l) (y := bs l) (b := true) (by simp)
  refine wp_region_quiet_below (by kernel_rfl) (by kernel_rfl) ?_
  iterate 25 (first | go_big_quiet_step (first | (go_at_call 11; exact Calls.regrown_of (refPut_any _ _ _ hn))) | fail)
  refine wpQuiet_nil ?_
  intro W3 hw'
  obtain ⟨⟨d, os⟩, hw''⟩ := hw'
  have hb3 := below_regrown W2 d os
  rw [← hw''] at hb3
  clear hw'' hk0 hcv1 hcv2 hsz t1 t2 t3 t4
  have HB3 := Lib.hid hb3
  have hs3 : w.heap.size < W3.heap.size := Nat.lt_of_lt_of_le hs2 hb3.size
  clear hb3
  have hc0 : W3.cell? ⟨w.heap.size, 0, none⟩ = some (.int .i64 p0) := by rw [HB3.out.cell (p := ⟨w.heap.size, 0, none⟩) hs2]; exact HC0'.out
  have HR5 := Lib.hid ((HR4.out.below HB3.out).more HB3.out.size)
  have HC0'' := Lib.hid hc0
  have HG := Lib.hid (getR_put l n p0)
  obtain ⟨R1, hR1⟩ : ∃ R1, R1 = getR (putL n (cnt p0)) 0 p0 := ⟨_, rfl⟩
  have HR1' := Lib.hid hR1; clear hR1
  rw [← HL1.out, ← HR1'.out] at HG
  go_wp2_with fail
  refine (get_any a1 c1 L1 l.length p0 W3 HR5.out hL1l HP1.out HP2.out (by omega) (by omega)).mono ?_
  rw [HG.out.1]
  rintro e W3' ⟨rfl, rfl⟩
  go_wp2_with fail
  have hk0 : ∀ d os, (grow (redrawn W3 d) os).cell? ⟨w.heap.size, 0, none⟩ = some (.int .i64 p0) := fun d os => ((below_regrown W3 d os).cell hs3).trans HC0''.out
  clear hc0
  have HPL : Hid ((bs (putL n (cnt p0))).size ≤ 1000000000000) := by show _ ≤ _; rw [bs_size, putL_length]; have := cnt_le p0; omega
  refine wp_region_quiet_below (by kernel_rfl) (by kernel_rfl) ?_
  iterate 12 (first | go_big_quiet_step (first | (go_at_call 11; exact Calls.regrown_of (refPut_any _ _ _ hn)) | (go_at_call 10; exact Calls.regrown_of (refGet_any _ _ _ _ HPL.out HP1.out HP2.out (by omega) (by omega)))) | fail)
  refine wpQuiet_nil ?_
  intro W4 hw'
  obtain ⟨⟨d, os⟩, hw''⟩ := hw'
  have hb4 := below_regrown W3 d os
  rw [← hw''] at hb4
  have HB4 := Lib.hid hb4
  clear hw'' hk0 hb4
  simp only [bs_toList, ← HR1'.out, HG.out.2]
  go_wp2_with fail
  refine (fixed_any _).mono ?_
  rintro e W5 ⟨rfl, hb5⟩
  have HB5 := Lib.hid hb5; clear hb5
  go_wp2
  go_ret
  exact ⟨ret_bool (by simp), bel2 (bel2 (bel2 (bel2 (bel2 HB0.out HB1.out) HB2.out) HB3.out) HB4.out) HB5.out⟩

theorem getT_put (l s : List UInt8) : getT (l ++ fldL s) l.length = if s.length ≤ 16 then some s else none := by
  unfold getT
  by_cases h : s.length ≤ 16
  · rw [if_pos (by rw [List.length_append, fldL_length h]; omega), if_pos h, Int.toNat_natCast, List.drop_left, List.take_of_length_le (by rw [fldL_length h]; omega), fld_back h]
  · rw [fldL_long (by omega), List.append_nil, if_neg (by omega), if_neg h]
set_option maxHeartbeats 2000000 in
theorem law_texts (a : Option Addr) (c : Nat) (l : List UInt8) (s : ByteArray) (w : World) (hr : Rd w w.heap.size a (bV l)) (hlc : l.length ≤ c) (hc : c ≤ maxLen) (hs : s.size ≤ maxLen) :
    Calls Try.prog 4 #[.slice a l.length c, .string s] w fun e w' => e = .returned (.bool true) ∧ Below w.heap.size w w' := by
  have HR := Lib.hid hr; have HC := Lib.hid hc; have HS := Lib.hid hs; clear hr hc
  unfold maxLen at hs
  have hlm : l.length ≤ 9223372036854775807 := by have := HC.out; unfold maxLen at this; omega
  by_cases hlong : 200 < l.length
  · go_enter Try.func4, Try.ntmps4
    go_wp2_with (go_at_call 7; refine (fixed_any _).mono ?_; rintro e w' ⟨rfl, hb⟩)
    go_ret
    exact ⟨rfl, hb⟩
  by_cases hlong2 : 200 < s.size
  · go_enter Try.func4, Try.ntmps4
    go_wp2_with (go_at_call 7; refine (fixed_any _).mono ?_; rintro e w' ⟨rfl, hb⟩)
    go_ret
    exact ⟨rfl, hb⟩
  have hcv := run_string_of (w := w) l.length c HR.out rfl
  obtain ⟨FL, hFL⟩ : ∃ FL, FL = fldL s.data.toList := ⟨_, rfl⟩
  have HFL := Lib.hid hFL
  have hFLl : FL.length ≤ 17 := by rw [hFL]; unfold fldL; split <;> simp
  obtain ⟨L1, hL1⟩ : ∃ L1, L1 = l ++ FL := ⟨_, rfl⟩
  have HL1 := Lib.hid hL1
  have hL1l : L1.length ≤ 1000000000000 := by rw [hL1, List.length_append]; omega
  go_enter Try.func4, Try.ntmps4
  go_wp2_with fail
  clear hcv
  refine (putText_out a c l s w HR.out (by omega) hlc HS.out).mono ?_
  rw [← hFL, ← hL1]
  clear hL1 hFL
  rintro e W1 ⟨a1, c1, rfl, hlc1, hcm1, hr1, hb1⟩
  have HR1 := Lib.hid hr1; have HB1 := Lib.hid hb1; clear hr1 hb1
  have HR2 := Lib.hid ((HR.out.below HB1.out).more HB1.out.size)
  have HCM := Lib.hid hcm1; clear hcm1
  go_wp2_with fail
  have hcv1 := run_string_grown L1.length c1 HR1.out rfl
  have hcv2 := run_string_grown l.length c HR2.out rfl
  have hsz : ¬ 9223372036854775807 < (bs l).size + (bs FL).size := by rw [bs_size, bs_size]; omega
  have ⟨t1, t2⟩ := str_eq (x := bs L1) (y := bs l ++ bs FL) (b := true) (by rw [bs_append, HL1.out]; simp)
  have ⟨t3, t4⟩ := str_eq (x := bs l) (y := bs l) (b := true) (by simp)
  refine wp_region_quiet_below (by kernel_rfl) (by kernel_rfl) ?_
  iterate 13 (first | go_big_quiet_step (first | (go_at_call 13; exact Calls.regrown_of ((refPutText_any _ _ HS.out).mono fun e w' h => ⟨h.1.trans (by rw [← HFL.out]), h.2⟩))) | fail)
  refine wpQuiet_nil ?_
  intro W3 hw'
  obtain ⟨⟨d, os⟩, hw''⟩ := hw'
  have hb3 := below_regrown W1 d os
  rw [← hw''] at hb3
  clear hw'' hcv1 hcv2 hsz t1 t2 t3 t4
  have HB3 := Lib.hid hb3; clear hb3
  have HR5 := Lib.hid ((HR1.out.below HB3.out).more HB3.out.size)
  go_wp2_with fail
  have HT : Hid (getT L1 l.length = if s.size ≤ 16 then some s.data.toList else none) := by
    show _ = _; rw [HL1.out, HFL.out, getT_put, data_length]
  have HB := Lib.hid (bel2 HB1.out HB3.out)
  by_cases h16 : 16 < s.size
  · have HT2 : Hid (getT L1 l.length = none) := by show _ = _; rw [HT.out, if_neg (by omega)]
    refine (getText_any a1 c1 L1 l.length W3 HR5.out hL1l hlc1 HCM.out (by omega) (by omega)).mono ?_
    rw [HT2.out]
    rintro e W3' ⟨rfl, rfl⟩
    go_wp2_with fail
    refine (fixed_any _).mono ?_
    rintro e W5 ⟨rfl, hb5⟩
    have HB5 := Lib.hid hb5; clear hb5
    go_wp2
    go_ret
    exact ⟨ret_bool (by first | rfl | simp [txt, bs_list]), bel2 HB.out HB5.out⟩
  · have HT2 : Hid (getT L1 l.length = some s.data.toList) := by show _ = _; rw [HT.out, if_pos (by omega)]
    have HTX : Hid (txt (some s.data.toList) = s) := bs_of s
    refine (getText_any a1 c1 L1 l.length W3 HR5.out hL1l hlc1 HCM.out (by omega) (by omega)).mono ?_
    rw [HT2.out, HTX.out]
    rintro e W3' ⟨rfl, rfl⟩
    go_wp2_with fail
    refine (fixed_any _).mono ?_
    rintro e W5 ⟨rfl, hb5⟩
    have HB5 := Lib.hid hb5; clear hb5
    go_wp2
    go_ret
    exact ⟨ret_bool (by simp), bel2 HB.out HB5.out⟩

end Go.Proofs.Ytphldcmikkhefaa
