import Derived.Test.YtkaafjcfcknbpaaPd
import Derived.Deep.QuietTactic
import Derived.Deep.RegionLaw
namespace Go.Proofs.Ytkaafjcfcknbpaa
open Go Go.RowKit

/-- The text of a field of 17 bytes. -/
def unF (f : List UInt8) : Option (List UInt8) := if (f.getD 0 0).toNat ≤ 16 ∧ zerosB (f.drop (1 + (f.getD 0 0).toNat)) = true then some ((f.drop 1).take (f.getD 0 0).toNat) else none
def getT (l : List UInt8) (p : Int) : Option (List UInt8) := if 0 ≤ p ∧ p + 17 ≤ l.length then unF ((l.drop p.toNat).take 17) else none
def txt (o : Option (List UInt8)) : ByteArray := bs (o.getD [])
theorem ret_strb {x y : ByteArray} {a b : Bool} (h : x = y) (h2 : a = b) : Ending.returned (.tuple #[.string x, .bool a]) = .returned (.tuple #[.string y, .bool b]) := by rw [h, h2]
theorem zeros_is (a : Option Addr) (n c : Nat) (l : List UInt8) (w : World) (hr : Rd w w.heap.size a (bV l)) (hn : n = l.length) (hl : l.length ≤ 1000000000000) (r : Bool) (h : zerosB l = r) :
    Calls Try.prog 73 #[.slice a n c] w fun e w' => e = .returned (.bool r) ∧ w = w' := by
  subst hn h; exact zeros_any a c l w hr hl
set_option maxHeartbeats 1000000 in
theorem getText_any (a : Option Addr) (c : Nat) (l : List UInt8) (p : Int) (w : World) (hr : Rd w w.heap.size a (bV l)) (hl : l.length ≤ 1000000000000) (hlc : l.length ≤ c) (hc : c ≤ maxLen)
    (h3 : -9223372036854775808 ≤ p) (h4 : p ≤ 9223372036854775807) :
    Calls Try.prog 70 #[.slice a l.length c, .int .i64 p] w
      fun e w' => e = .returned (.tuple #[.string (txt (getT l p)), .bool (getT l p).isSome]) ∧ w = w' := by
  have HR := Lib.hid hr; clear hr
  unfold maxLen at hc
  by_cases hp : 0 ≤ p ∧ p + 17 ≤ l.length
  case neg =>
    have HN : Hid (getT l p = none) := by show _ = _; unfold getT; rw [if_neg hp]
    have HS : Hid (stB l.length p 17 = false) := by show _ = _; simp [stB]; omega
    have H3 := Lib.hid h3; have H4 := Lib.hid h4; clear hp h3 h4
    go_enter Try.func70, Try.ntmps70
    go_wp2_with fail
    refine (stands_any _ _ _ _ _ _ hl H3.out H4.out).mono ?_; rw [HS.out]; rintro e w' ⟨rfl, rfl⟩
    go_wp2
    go_ret2
    exact ⟨ret_strb (by rw [HN.out]; rfl) (by rw [HN.out]; rfl), rfl⟩
  obtain ⟨q, rfl⟩ : ∃ q : Nat, p = q := ⟨p.toNat, by omega⟩
  obtain ⟨F, hF⟩ : ∃ F, F = (l.drop q).take 17 := ⟨_, rfl⟩
  have HT : Hid (getT l q = unF F) := by show _ = _; unfold getT; rw [if_pos hp, hF, Int.toNat_natCast]
  have hFl : F.length = 17 := by rw [hF]; simp; omega
  have HS : Hid (stB l.length q 17 = true) := by show _ = _; simp [stB]; omega
  obtain ⟨b, off, ha, _, hcell⟩ := HR.out.byte (i := q) (by omega)
  subst ha
  have HRF : Hid (Rd w w.heap.size (some ⟨b, off + q, none⟩) (bV F)) := by
    show Rd _ _ _ _; rw [hF, bV_take, bV_drop]; exact (HR.out.drop q).take 17
  have h0 : F.getD 0 0 = l[q]'(by omega) := by rw [hF]; simp [List.getD]; rw [List.getElem?_eq_getElem (by omega)]; rfl
  have HF0 := Lib.hid h0
  rw [← h0] at hcell
  clear h0 hF
  have HFL := Lib.hid hFl; clear hFl
  obtain ⟨m, hm⟩ : ∃ m, m = (F.getD 0 0).toNat := ⟨_, rfl⟩
  rw [← hm] at hcell
  have HM := Lib.hid hm; clear hm
  have hm256 : m < 256 := by rw [HM.out]; exact (F.getD 0 0).toNat_lt
  have i1 : (0 : Int) ≤ (q : Int) := by omega
  have i2 : (q : Int) + 17 ≤ (c : Int) := by omega
  by_cases hm16 : 16 < m
  · have HN : Hid (getT l q = none) := by show _ = _; rw [HT.out]; unfold unF; rw [if_neg (by rw [← HM.out]; omega)]
    go_enter Try.func70, Try.ntmps70
    go_wp2_with fail
    refine (stands_any _ _ _ _ _ _ hl (by omega) (by omega)).mono ?_; rw [HS.out]; rintro e w' ⟨rfl, rfl⟩
    go_wp2_with fail
    go_ret2
    exact ⟨ret_strb (by rw [HN.out]; rfl) (by rw [HN.out]; rfl), rfl⟩
  have j1 : (1 : Int) + (m : Int) ≤ (c : Int) - (q : Int) := by omega
  have j2 : (0 : Int) ≤ (1 : Int) + (m : Int) := by omega
  have HRD : Hid (Rd w w.heap.size (some ⟨b, off + q + (1 + m), none⟩) (bV (F.drop (1 + m)))) := by show Rd _ _ _ _; rw [bV_drop]; exact HRF.out.drop (1 + m)
  have HRZ : Hid (c - q = 1 + m → Rd w w.heap.size (some ⟨b, off + q, none⟩) (bV (F.drop (1 + m)))) := by
    intro h; rw [List.drop_of_length_le (by rw [HFL.out]; omega)]; exact Rd.nil _ _ _
  have HRT : Hid (Rd w w.heap.size (some ⟨b, off + q + 1, none⟩) (bV ((F.drop 1).take m))) := by show Rd _ _ _ _; rw [bV_take, bV_drop]; exact (HRF.out.drop 1).take m
  have HTL : Hid (m = ((F.drop 1).take m).length) := by show _ = _; simp [HFL.out]; omega
  have hcv := fun n (hn : n = m) c' => run_string_of (w := w) n c' HRT.out (hn.trans HTL.out)
  cases hz : zerosB (F.drop (1 + m))
  case false =>
    have HZ := Lib.hid hz
    have HN : Hid (getT l q = none) := by show _ = _; rw [HT.out]; unfold unF; rw [if_neg (by rw [← HM.out]; simp [hz])]
    clear hz hcv
    by_cases hcq : c - q = 1 + m
    · have HCQ := Lib.hid hcq
      go_enter Try.func70, Try.ntmps70
      go_wp2_with fail
      refine (stands_any _ _ _ _ _ _ hl (by omega) (by omega)).mono ?_; rw [HS.out]; rintro e w' ⟨rfl, rfl⟩
      go_wp2_with fail
      refine (zeros_is _ _ _ (F.drop (1 + m)) _ (HRZ.out HCQ.out) (by rw [List.length_drop, HFL.out]) (by rw [List.length_drop, HFL.out]; omega) false HZ.out).mono ?_; rintro e w' ⟨rfl, rfl⟩
      go_wp2
      go_ret2
      exact ⟨ret_strb (by rw [HN.out]; rfl) (by rw [HN.out]; rfl), rfl⟩
    · go_enter Try.func70, Try.ntmps70
      go_wp2_with fail
      refine (stands_any _ _ _ _ _ _ hl (by omega) (by omega)).mono ?_; rw [HS.out]; rintro e w' ⟨rfl, rfl⟩
      go_wp2_with fail
      refine (zeros_is _ _ _ (F.drop (1 + m)) _ HRD.out (by rw [List.length_drop, HFL.out]) (by rw [List.length_drop, HFL.out]; omega) false HZ.out).mono ?_; rintro e w' ⟨rfl, rfl⟩
      go_wp2
      go_ret2
      exact ⟨ret_strb (by rw [HN.out]; rfl) (by rw [HN.out]; rfl), rfl⟩
  case true =>
    have HZ := Lib.hid hz
    have HN : Hid (getT l q = some ((F.drop 1).take m)) := by show _ = _; rw [HT.out]; unfold unF; rw [if_pos (by rw [← HM.out]; exact ⟨by omega, hz⟩), ← HM.out]
    clear hz
    have HCV := Lib.hid hcv
    clear hcv
    by_cases hcq : c - q = 1 + m
    · have HCQ := Lib.hid hcq
      go_enter Try.func70, Try.ntmps70
      go_wp2_with fail
      refine (stands_any _ _ _ _ _ _ hl (by omega) (by omega)).mono ?_; rw [HS.out]; rintro e w' ⟨rfl, rfl⟩
      go_wp2_with fail
      refine (zeros_is _ _ _ (F.drop (1 + m)) _ (HRZ.out HCQ.out) (by rw [List.length_drop, HFL.out]) (by rw [List.length_drop, HFL.out]; omega) true HZ.out).mono ?_; rintro e w' ⟨rfl, rfl⟩
      have hcv := HCV.out
      go_wp2
      go_ret2
      exact ⟨ret_strb (by rw [HN.out]; simp [txt]) (by rw [HN.out]; rfl), rfl⟩
    · go_enter Try.func70, Try.ntmps70
      go_wp2_with fail
      refine (stands_any _ _ _ _ _ _ hl (by omega) (by omega)).mono ?_; rw [HS.out]; rintro e w' ⟨rfl, rfl⟩
      go_wp2_with fail
      refine (zeros_is _ _ _ (F.drop (1 + m)) _ HRD.out (by rw [List.length_drop, HFL.out]) (by rw [List.length_drop, HFL.out]; omega) true HZ.out).mono ?_; rintro e w' ⟨rfl, rfl⟩
      have hcv := HCV.out
      go_wp2
      go_ret2
      exact ⟨ret_strb (by rw [HN.out]; simp [txt]) (by rw [HN.out]; rfl), rfl⟩
end Go.Proofs.Ytkaafjcfcknbpaa

namespace Go.Proofs.Ytkaafjcfcknbpaa
open Go Go.RowKit Go.Sort

theorem fldL_eq {s : List UInt8} (h : s.length ≤ 16) : fldL s = UInt8.ofNat s.length :: (s ++ List.replicate (16 - s.length) 0) := by
  unfold fldL; rw [if_pos h]
  refine List.ext_getElem (by simp; omega) fun i h1 h2 => ?_
  rw [List.getElem_map, List.getElem_range]
  cases i with
  | zero => simp [fldB]
  | succ j =>
    rw [List.getElem_cons_succ]
    unfold fldB
    rw [if_neg (by omega), Nat.add_sub_cancel]
    by_cases hj : j < s.length
    · rw [List.getElem_append_left hj, getD_lt hj]
    · rw [List.getElem_append_right (by omega), getD_ge (by omega)]; simp
theorem zerosB_iff : ∀ l : List UInt8, zerosB l = true ↔ l = List.replicate l.length 0
  | [] => by simp [zerosB]
  | c :: l => by
    have := zerosB_iff l
    simp only [zerosB, List.all_cons, Bool.and_eq_true, beq_iff_eq, List.length_cons, List.replicate_succ, List.cons.injEq] at this ⊢
    exact and_congr_right fun _ => this
theorem fld_same {F : List UInt8} (hF : F.length = 17) (hm : (F.getD 0 0).toNat ≤ 16) :
    fldL ((F.drop 1).take (F.getD 0 0).toNat) = F ↔ zerosB (F.drop (1 + (F.getD 0 0).toNat)) = true := by
  cases F with
  | nil => simp at hF
  | cons c G =>
    have hc : (c :: G).getD 0 0 = c := rfl
    rw [hc] at hm ⊢
    have hG : G.length = 16 := by simpa using hF
    have hl : ((c :: G).drop 1 |>.take c.toNat).length = c.toNat := by simp; omega
    rw [fldL_eq (by rw [hl]; exact hm), hl, zerosB_iff, show 1 + c.toNat = c.toNat + 1 by omega]
    simp only [List.drop_succ_cons, List.drop_zero, UInt8.ofNat_toNat, List.cons.injEq, true_and]
    have e : G = G.take c.toNat ++ G.drop c.toNat := (List.take_append_drop _ _).symm
    have e2 : (G.drop c.toNat).length = 16 - c.toNat := by simp; omega
    rw [e2]
    constructor
    · intro h
      have h2 := congrArg (List.drop c.toNat) h
      rw [List.drop_append_of_le_length (by simp; omega), List.drop_of_length_le (by simp; omega), List.nil_append] at h2
      exact h2.symm
    · intro h
      rw [← h, ← e]
theorem fld_back {s : List UInt8} (h : s.length ≤ 16) : unF (fldL s) = some s := by
  have hl := fldL_length h
  have h0 : ((fldL s).getD 0 0) = UInt8.ofNat s.length := by rw [fldL_eq h]; rfl
  have hn : ((fldL s).getD 0 0).toNat = s.length := by rw [h0]; simp; omega
  have ht : ((fldL s).drop 1).take s.length = s := by rw [fldL_eq h]; simp
  unfold unF
  rw [if_pos ⟨by omega, (fld_same hl (by omega)).1 (by rw [hn, ht])⟩, hn, ht]

def strV : Value → ByteArray | .string s => s | _ => ByteArray.empty
set_option maxHeartbeats 1000000 in
theorem refPutText_any (s : ByteArray) (w : World) (hs : s.size ≤ maxLen) :
    Calls Try.prog 60 #[.string s] w fun e w' => e = .returned (.string (bs (fldL s.data.toList))) ∧ Below w.heap.size w w' := by
  unfold maxLen at hs
  have hdl := data_length s
  by_cases h16 : 16 < s.size
  · have HF := Lib.hid (fldL_long (s := s.data.toList) (by omega))
    clear hdl
    go_enter Try.func60, Try.ntmps60
    go_wp2
    go_ret
    exact ⟨ret_str (by rw [HF.out]; rfl), Below.refl _ _⟩
  have HF := Lib.hid (fldL_eq (s := s.data.toList) (by omega))
  have HD := Lib.hid hdl; clear hdl
  have hw : IntKind.u64.wrap (s.size : Int) = s.size := IntWalk.u64_in _ ⟨by omega, by omega⟩
  have hsz : ¬ 9223372036854775807 < (bs (putL s.size (cnt 1))).size + s.size := by rw [bs_size, putL_length]; simp [cnt]; omega
  go_enter Try.func60, Try.ntmps60
  go_wp2_with fail
  refine (refPut_any s.size 1 _ (by omega)).mono ?_; rintro e w1 ⟨rfl, hb1⟩
  go_wp2
  have h1 : bs (putL s.size (cnt 1)) ++ s = bs (UInt8.ofNat s.size :: (s.data.toList ++ List.replicate 0 0)) := by
    have e1 : putL s.size (cnt 1) = [UInt8.ofNat s.size] := by
      have : cnt 1 = 1 := by decide
      rw [this]; simp [putL, byt, List.range_succ]
    have e2 : bs [UInt8.ofNat s.size] ++ bs s.data.toList = bs (UInt8.ofNat s.size :: s.data.toList) := bs_append _ _
    rw [e1, List.replicate_zero, List.append_nil, ← e2, bs_of]
  rw [h1]
  clear h1
  go_loop [3] (fun t => ∃ (k : Nat) (T : ByteArray), s.size + k ≤ 16 ∧ T = bs (UInt8.ofNat s.size :: (s.data.toList ++ List.replicate k 0)) ∧ t = .string T) (fun t => 17 - (strV t).size)
  case atStart => exact ⟨0, _, by omega, rfl, rfl⟩
  case round =>
    obtain ⟨k, T, hk, hT, rfl⟩ := hrel
    have hTs : T.size = 1 + s.size + k := by rw [hT, bs_size]; simp; omega
    have HT := Lib.hid hT
    have HTS := Lib.hid hTs
    clear hT
    by_cases hlt : s.size + k < 16
    · have i1 : T.size < 17 := by omega
      have HA : Hid (T ++ ⟨#[0]⟩ = bs (UInt8.ofNat s.size :: (s.data.toList ++ List.replicate (k + 1) 0))) := by
        have e2 : bs (UInt8.ofNat s.size :: (s.data.toList ++ List.replicate k 0)) ++ bs [0] = bs (UInt8.ofNat s.size :: (s.data.toList ++ List.replicate (k + 1) 0)) := by
          rw [bs_append]; simp [List.replicate_succ']
        show _ = _; rw [HT.out]; exact e2
      have HSZ : Hid ((T ++ ⟨#[0]⟩ : ByteArray).size = 2 + s.size + k) := by show _ = _; rw [HA.out, bs_size]; simp; omega
      clear hTs
      go_wp2
      go_round
      case rel => exact ⟨k + 1, _, by omega, HA.out, rfl⟩
      case measure => show 17 - (T ++ ⟨#[0]⟩ : ByteArray).size < 17 - T.size; rw [HSZ.out, HTS.out]; omega
    · have i1 : ¬ T.size < 17 := by omega
      clear hTs
      go_wp2
      go_ret
      refine ⟨ret_str ?_, hb1⟩
      rw [HF.out, HT.out, HD.out, show k = 16 - s.size by omega]
end Go.Proofs.Ytkaafjcfcknbpaa

namespace Go.Proofs.Ytkaafjcfcknbpaa
open Go Go.RowKit Go.Sort

set_option maxHeartbeats 1000000 in
theorem refGetText_any (s : ByteArray) (p : Int) (w : World) (hl : s.size ≤ 1000000000000)
    (h3 : -9223372036854775808 ≤ p) (h4 : p ≤ 9223372036854775807) :
    Calls Try.prog 48 #[.string s, .int .i64 p] w
      fun e w' => e = .returned (.tuple #[.string (txt (getT s.data.toList p)), .bool (getT s.data.toList p).isSome]) ∧ Below w.heap.size w w' := by
  have hdl := data_length s
  by_cases hp0 : p < 0
  · have HN : Hid (getT s.data.toList p = none) := by show _ = _; unfold getT; rw [if_neg (by omega)]
    clear hdl
    go_enter Try.func48, Try.ntmps48
    go_wp2
    go_ret2
    exact ⟨ret_strb (by rw [HN.out]; rfl) (by rw [HN.out]; rfl), Below.refl _ _⟩
  obtain ⟨q, rfl⟩ : ∃ q : Nat, p = q := ⟨p.toNat, by omega⟩
  by_cases hp1 : s.size < q
  · have HN : Hid (getT s.data.toList q = none) := by show _ = _; unfold getT; rw [if_neg (by omega)]
    clear hdl
    go_enter Try.func48, Try.ntmps48
    go_wp2
    go_ret2
    exact ⟨ret_strb (by rw [HN.out]; rfl) (by rw [HN.out]; rfl), Below.refl _ _⟩
  by_cases hp2 : s.size < q + 17
  · have HN : Hid (getT s.data.toList q = none) := by show _ = _; unfold getT; rw [if_neg (by omega)]
    have i1 : (s.size : Int) - (q : Int) < 17 := by omega
    clear hdl
    go_enter Try.func48, Try.ntmps48
    go_wp2
    go_ret2
    exact ⟨ret_strb (by rw [HN.out]; rfl) (by rw [HN.out]; rfl), Below.refl _ _⟩
  have hq : q < s.size := by clear hdl; omega
  have i1 : ¬ (s.size : Int) - (q : Int) < 17 := by omega
  obtain ⟨F, hF⟩ : ∃ F, F = (s.data.toList.drop q).take 17 := ⟨_, rfl⟩
  have HT : Hid (getT s.data.toList q = unF F) := by show _ = _; unfold getT; rw [if_pos (by omega), hF, Int.toNat_natCast]
  have hFl : F.length = 17 := by rw [hF]; simp; omega
  have h0 : (F.getD 0 0).toNat = (s[q]'hq).toNat := by rw [← data_getD (s := s) (j := q) (by omega), hF]; simp [List.getD]
  obtain ⟨m, hm⟩ : ∃ m, m = (s[q]'hq).toNat := ⟨_, rfl⟩
  have hm256 : m < 256 := by rw [hm]; exact (s[q]'hq).toNat_lt
  by_cases hm16 : 16 < m
  · have HN : Hid (getT s.data.toList q = none) := by show _ = _; rw [HT.out]; unfold unF; rw [if_neg (by omega)]
    have hm2 : (16 : Int) < ((s[q]'hq).toNat : Int) := by omega
    have hm3 : ((s[q]'hq).toNat : Int) ≤ 255 := by omega
    have hm4 : (0 : Int) ≤ ((s[q]'hq).toNat : Int) := by omega
    clear hdl h0 hm hF hFl
    go_enter Try.func48, Try.ntmps48
    go_wp2
    go_ret2
    exact ⟨ret_strb (by rw [HN.out]; rfl) (by rw [HN.out]; rfl), Below.refl _ _⟩
  have hm2 : ((s[q]'hq).toNat : Int) ≤ 16 := by omega
  have i2 : (q : Int) + 1 ≤ (q : Int) + 1 + ((s[q]'hq).toNat : Int) := by omega
  have i3 : (q : Int) + 1 + ((s[q]'hq).toNat : Int) ≤ (s.size : Int) := by omega
  have i4 : (q : Int) + 17 ≤ (s.size : Int) := by omega
  have HM := Lib.hid hm
  have H0 := Lib.hid h0
  have HF := Lib.hid hF; have HFL := Lib.hid hFl; have HD := Lib.hid hdl
  clear hdl h0 hm hF hFl
  go_enter Try.func48, Try.ntmps48
  obtain ⟨T, hT⟩ : ∃ T, T = (F.drop 1).take (s[q]'hq).toNat := ⟨_, rfl⟩
  have ER : Hid (List.take (s[q]'hq).toNat (List.drop (q + 1) s.data.toList) = T) := by
    show _ = _; rw [hT, HF.out, List.drop_take, List.drop_drop, List.take_take, Nat.min_eq_left (by omega)]
  have EX : Hid (s.extract (q + 1) (q + 1 + (s[q]'hq).toNat) = bs T) := by
    show _ = _; rw [bs_extract, hT, HF.out]; congr 1
    rw [show q + 1 + (s[q]'hq).toNat - (q + 1) = (s[q]'hq).toNat by omega, List.drop_take, List.drop_drop, List.take_take, Nat.min_eq_left (by omega)]
  have EY : Hid (s.extract q (q + 17) = bs F) := by show _ = _; rw [bs_extract, HF.out, show q + 17 - q = 17 by omega]
  have HTT := Lib.hid hT
  clear hT
  have HC : Hid (fldL T = F ↔ zerosB (F.drop (1 + (F.getD 0 0).toNat)) = true) := by
    have := fld_same HFL.out (by rw [H0.out]; omega)
    rw [H0.out, ← HTT.out, ← H0.out] at this
    exact this
  have HU : Hid (unF F = if fldL T = F then some T else none) := by
    show _ = _
    unfold unF
    by_cases h : fldL T = F
    · rw [if_pos ⟨by rw [H0.out]; omega, HC.out.1 h⟩, if_pos h, H0.out, ← HTT.out]
    · rw [if_neg (fun h' => h (HC.out.2 h'.2)), if_neg h]
  go_wp2
  refine wp_region_quiet_below (by kernel_rfl) (by kernel_rfl) ?_
  iterate 8 (first | go_big_quiet_step (first | (go_at_call 60; exact Calls.regrown_of (refPutText_any _ _ (by rw [bs_extract, bs_size]; simp [maxLen]; omega)))) | fail)
  refine wpQuiet_nil ?_
  intro w' hw'
  obtain ⟨⟨d, os⟩, hw''⟩ := hw'
  have hb2 := below_regrown w d os
  rw [← hw''] at hb2
  clear hw''
  simp only [EX.out, EY.out, ER.out, bs_toList]
  by_cases hc : fldL T = F
  · have ⟨c1, c2⟩ := str_eq (x := bs (fldL T)) (y := bs F) (b := true) (by rw [hc]; simp)
    have HN : Hid (getT s.data.toList q = some T) := by show _ = _; rw [HT.out, HU.out, if_pos hc]
    clear hc
    rw [c1]
    go_wp2
    go_ret2
    exact ⟨ret_strb (by rw [HN.out]; rfl) (by rw [HN.out]; rfl), hb2⟩
  · have ⟨c1, c2⟩ := str_eq (x := bs (fldL T)) (y := bs F) (b := false) (by simp; exact fun h => hc (bs_inj h))
    have HN : Hid (getT s.data.toList q = none) := by show _ = _; rw [HT.out, HU.out, if_neg hc]
    clear hc
    rw [c1]
    go_wp2
    go_ret2
    exact ⟨ret_strb (by rw [HN.out]; rfl) (by rw [HN.out]; rfl), hb2⟩
end Go.Proofs.Ytkaafjcfcknbpaa

namespace Go.Proofs.Ytkaafjcfcknbpaa
open Go Go.RowKit Go.Sort

/-- A slice of bytes is answered that reads as L. -/
def BytesOut (w : World) (L : List UInt8) (e : Ending) (w' : World) : Prop :=
  ∃ a c, e = .returned (.slice a L.length c) ∧ L.length ≤ c ∧ c ≤ maxLen ∧ Rd w' w'.heap.size a (bV L) ∧ Below w.heap.size w w'
theorem own_out {w w' : World} {v : Value} {n : Nat} {L : List UInt8} {e : Ending} {base : Nat} {t : TypeId} (he : e = .returned v) (ho : w'.ownsRow base t 1 v n (bV L)) (hb : Below w.heap.size w w') : BytesOut w L e w' := by
  have hn : n = L.length := by have := ho.1; rw [bV_length] at this; omega
  subst hn
  obtain ⟨a, c, rfl, h1, h2, _⟩ := own_slice ho
  exact ⟨a, c, he, h1, h2, Rd.own ho, hb⟩
theorem put_out (a : Option Addr) (c : Nat) (l : List UInt8) (n : Nat) (s : Int) (w : World) (hr : Rd w w.heap.size a (bV l)) (hl : l.length ≤ 1000000000000) (hlc : l.length ≤ c) (hn : n < 18446744073709551616)
    (h1 : -9223372036854775808 ≤ s) (h2 : s ≤ 9223372036854775807) :
    Calls Try.prog 18 #[.slice a l.length c, .int .u64 n, .int .i64 s] w (BytesOut w (l ++ putL n (cnt s))) :=
  (put_any a c l n s w hr hl hlc hn h1 h2).mono fun _ _ ⟨_, he, ho, hb⟩ => own_out he ho hb
theorem putText_out (a : Option Addr) (c : Nat) (l : List UInt8) (s : ByteArray) (w : World) (hr : Rd w w.heap.size a (bV l)) (hl : l.length ≤ 1000000000000) (hlc : l.length ≤ c) (hs : s.size ≤ maxLen) :
    Calls Try.prog 52 #[.slice a l.length c, .string s] w (BytesOut w (l ++ fldL s.data.toList)) :=
  (putText_any a c l s w hr hl hlc hs).mono fun _ _ ⟨_, he, ho, hb⟩ => own_out he ho hb
theorem run_string_grown {W : World} {a : Option Addr} {l : List UInt8} (n c : Nat) (h : Rd W W.heap.size a (bV l)) (hn : n = l.length) :
    ∀ d os, (convert 23 9 (.slice a n c)).run Try.prog (grow (redrawn W d) os) = .ok (.string (bs l)) (grow (redrawn W d) os) :=
  fun d os => run_string_of n c (h.below (below_regrown W d os)) hn

theorem gN_append (l m : List UInt8) (i : Nat) : ∀ k, gN (l ++ m) (l.length + i) k = gN m i k
  | 0 => rfl
  | k + 1 => by
    have h := gN_append l m i k
    have e : (l ++ m).getD (l.length + i + k) 0 = m.getD (i + k) 0 := by
      simp only [List.getD]
      rw [List.getElem?_append_right (by omega), show l.length + i + k - l.length = i + k by omega]
    rw [gN, gN, h, e]
theorem getR_put (l : List UInt8) (n : Nat) (s : Int) : getR (l ++ putL n (cnt s)) l.length s = getR (putL n (cnt s)) 0 s ∧ (getR (putL n (cnt s)) 0 s).2 = true := by
  rw [getR_yes (l := l ++ putL n (cnt s)) (by rw [List.length_append, putL_length]; omega), getR_yes (by rw [putL_length]; omega)]
  exact ⟨by rw [Int.toNat_natCast]; exact Prod.ext (gN_append l _ 0 _) rfl, rfl⟩
end Go.Proofs.Ytkaafjcfcknbpaa

