import Derived.Test.YtlpalhlihckidaaPf
import Derived.Deep.QuietTactic
namespace Go.Proofs.Ytlpalhlihckidaa
open Go Go.RowKit Go.Sort

set_option maxHeartbeats 1000000 in
theorem refGetText_any (s : ByteArray) (p : Int) (w : World) (hl : s.size ≤ 1000000000000)
    (h3 : -9223372036854775808 ≤ p) (h4 : p ≤ 9223372036854775807) :
    Calls Try.prog 24 #[.string s, .int .i64 p] w
      fun e w' => e = .returned (.tuple #[.string (txt (getT s.data.toList p)), .bool (getT s.data.toList p).isSome]) ∧ Below w.heap.size w w' := by
  have hdl := data_length s
  by_cases hp0 : p < 0
  · have HN : Hid (getT s.data.toList p = none) := by show _ = _; unfold getT; rw [if_neg (by omega)]
    clear hdl
    go_enter Try.func24, Try.ntmps24
    go_wp2
    go_ret2
    exact ⟨ret_strb (by rw [HN.out]; rfl) (by rw [HN.out]; rfl), Below.refl _ _⟩
  obtain ⟨q, rfl⟩ : ∃ q : Nat, p = q := ⟨p.toNat, by omega⟩
  by_cases hp1 : s.size < q
  · have HN : Hid (getT s.data.toList q = none) := by show _ = _; unfold getT; rw [if_neg (by omega)]
    clear hdl
    go_enter Try.func24, Try.ntmps24
    go_wp2
    go_ret2
    exact ⟨ret_strb (by rw [HN.out]; rfl) (by rw [HN.out]; rfl), Below.refl _ _⟩
  by_cases hp2 : s.size < q + 17
  · have HN : Hid (getT s.data.toList q = none) := by show _ = _; unfold getT; rw [if_neg (by omega)]
    have i1 : (s.size : Int) - (q : Int) < 17 := by omega
    clear hdl
    go_enter Try.func24, Try.ntmps24
    go_wp2
    go_ret2
    exact ⟨ret_strb (by rw [HN.out]; rfl) (by rw [HN.out]; rfl), Below.refl _ _⟩
  have hq : q < s.size := by clear hdl; omega
  have i1 : ¬ (s.size : Int) - (q : Int) < 17 := by omega
  obtain ⟨F, hF⟩ : ∃ F, F = (s.data.toList.drop q).take 17 := ⟨_, rfl⟩
  have HT : Hid (getT s.data.toList q = unF F) := by show _ = _; unfold getT; rw [if_pos (by omega), hF, Int.toNat_natCast]
  have hFl : F.length = 17 := by rw [hF]; simp; omega
  have h0 : (F.getD 0 0).toNat = (s[q]'hq).toNat := by rw [← data_getD (s := s) (j := q) (by omega), hF]; simp [List.getD]
  obtain ⟨m, hm⟩ : ∃ m, m = (s[q]'hq).toNat := ⟨_, rfl⟩
  have hm256 : m < 256 := by rw [hm]; exact (s[q]'hq).toNat_lt
  by_cases hm16 : 16 < m
  · have HN : Hid (getT s.data.toList q = none) := by show _ = _; rw [HT.out]; unfold unF; rw [if_neg (by omega)]
    have hm2 : (16 : Int) < ((s[q]'hq).toNat : Int) := by omega
    have hm3 : ((s[q]'hq).toNat : Int) ≤ 255 := by omega
    have hm4 : (0 : Int) ≤ ((s[q]'hq).toNat : Int) := by omega
    clear hdl h0 hm hF hFl
    go_enter Try.func24, Try.ntmps24
    go_wp2
    go_ret2
    exact ⟨ret_strb (by rw [HN.out]; rfl) (by rw [HN.out]; rfl), Below.refl _ _⟩
  have hm2 : ((s[q]'hq).toNat : Int) ≤ 16 := by omega
  have i2 : (q : Int) + 1 ≤ (q : Int) + 1 + ((s[q]'hq).toNat : Int) := by omega
  have i3 : (q : Int) + 1 + ((s[q]'hq).toNat : Int) ≤ (s.size : Int) := by omega
  have i4 : (q : Int) + 17 ≤ (s.size : Int) := by omega
  have HM := Lib.hid hm
  have H0 := Lib.hid h0
  have HF := Lib.hid hF; have HFL := Lib.hid hFl; have HD := Lib.hid hdl
  clear hdl h0 hm hF hFl
  go_enter Try.func24, Try.ntmps24
  obtain ⟨T, hT⟩ : ∃ T, T = (F.drop 1).take (s[q]'hq).toNat := ⟨_, rfl⟩
  have ER : Hid (List.take (s[q]'hq).toNat (List.drop (q + 1) s.data.toList) = T) := by
    show _ = _; rw [hT, HF.out, List.drop_take, List.drop_drop, List.take_take, Nat.min_eq_left (by omega)]
  have EX : Hid (s.extract (q + 1) (q + 1 + (s[q]'hq).toNat) = bs T) := by
    show _ = _; rw [bs_extract, hT, HF.out]; congr 1
    rw [show q + 1 + (s[q]'hq).toNat - (q + 1) = (s[q]'hq).toNat by omega, List.drop_take, List.drop_drop, List.take_take, Nat.min_eq_left (by omega)]
  have EY : Hid (s.extract q (q + 17) = bs F) := by show _ = _; rw [bs_extract, HF.out, show q + 17 - q = 17 by omega]
  have HTT := Lib.hid hT
  clear hT
  have HC : Hid (fldL T = F ↔ zerosB (F.drop (1 + (F.getD 0 0).toNat)) = true) := by
    have := fld_same HFL.out (by rw [H0.out]; omega)
    rw [H0.out, ← HTT.out, ← H0.out] at this
    exact this
  have HU : Hid (unF F = if fldL T = F then some T else none) := by
    show _ = _
    unfold unF
    by_cases h : fldL T = F
    · rw [if_pos ⟨by rw [H0.out]; omega, HC.out.1 h⟩, if_pos h, H0.out, ← HTT.out]
    · rw [if_neg (fun h' => h (HC.out.2 h'.2)), if_neg h]
  go_wp2
  refine wp_region_quiet_below (by kernel_rfl) (by kernel_rfl) ?_
  iterate 8 (first | go_big_quiet_step (first | (go_at_call 33; exact Calls.regrown_of (refPutText_any _ _ (by rw [bs_extract, bs_size]; simp [maxLen]; omega)))) | fail)
  refine wpQuiet_nil ?_
  intro w' hw'
  obtain ⟨⟨d, os⟩, hw''⟩ := hw'
  have hb2 := below_regrown w d os
  rw [← hw''] at hb2
  clear hw''
  simp only [EX.out, EY.out, ER.out, bs_toList]
  by_cases hc : fldL T = F
  · have ⟨c1, c2⟩ := str_eq (x := bs (fldL T)) (y := bs F) (b := true) (by rw [hc]; simp)
    have HN : Hid (getT s.data.toList q = some T) := by show _ = _; rw [HT.out, HU.out, if_pos hc]
    clear hc
    rw [c1]
    go_wp2
    go_ret2
    exact ⟨ret_strb (by rw [HN.out]; rfl) (by rw [HN.out]; rfl), hb2⟩
  · have ⟨c1, c2⟩ := str_eq (x := bs (fldL T)) (y := bs F) (b := false) (by simp; exact fun h => hc (bs_inj h))
    have HN : Hid (getT s.data.toList q = none) := by show _ = _; rw [HT.out, HU.out, if_neg hc]
    clear hc
    rw [c1]
    go_wp2
    go_ret2
    exact ⟨ret_strb (by rw [HN.out]; rfl) (by rw [HN.out]; rfl), hb2⟩
end Go.Proofs.Ytlpalhlihckidaa
