import Derived.Test.YtlpalhlihckidaaPd
namespace Go.Proofs.Ytlpalhlihckidaa
open Go Go.RowKit

/-- The text of a field of 17 bytes. -/
def unF (f : List UInt8) : Option (List UInt8) := if (f.getD 0 0).toNat ≤ 16 ∧ zerosB (f.drop (1 + (f.getD 0 0).toNat)) = true then some ((f.drop 1).take (f.getD 0 0).toNat) else none
def getT (l : List UInt8) (p : Int) : Option (List UInt8) := if 0 ≤ p ∧ p + 17 ≤ l.length then unF ((l.drop p.toNat).take 17) else none
def txt (o : Option (List UInt8)) : ByteArray := bs (o.getD [])
theorem ret_strb {x y : ByteArray} {a b : Bool} (h : x = y) (h2 : a = b) : Ending.returned (.tuple #[.string x, .bool a]) = .returned (.tuple #[.string y, .bool b]) := by rw [h, h2]
theorem zeros_is (a : Option Addr) (n c : Nat) (l : List UInt8) (w : World) (hr : Rd w w.heap.size a (bV l)) (hn : n = l.length) (hl : l.length ≤ 1000000000000) (r : Bool) (h : zerosB l = r) :
    Calls Try.prog 47 #[.slice a n c] w fun e w' => e = .returned (.bool r) ∧ w = w' := by
  subst hn h; exact zeros_any a c l w hr hl
set_option maxHeartbeats 1000000 in
theorem getText_any (a : Option Addr) (c : Nat) (l : List UInt8) (p : Int) (w : World) (hr : Rd w w.heap.size a (bV l)) (hl : l.length ≤ 1000000000000) (hlc : l.length ≤ c) (hc : c ≤ maxLen)
    (h3 : -9223372036854775808 ≤ p) (h4 : p ≤ 9223372036854775807) :
    Calls Try.prog 45 #[.slice a l.length c, .int .i64 p] w
      fun e w' => e = .returned (.tuple #[.string (txt (getT l p)), .bool (getT l p).isSome]) ∧ w = w' := by
  have HR := Lib.hid hr; clear hr
  unfold maxLen at hc
  by_cases hp : 0 ≤ p ∧ p + 17 ≤ l.length
  case neg =>
    have HN : Hid (getT l p = none) := by show _ = _; unfold getT; rw [if_neg hp]
    have HS : Hid (stB l.length p 17 = false) := by show _ = _; simp [stB]; omega
    have H3 := Lib.hid h3; have H4 := Lib.hid h4; clear hp h3 h4
    go_enter Try.func45, Try.ntmps45
    go_wp2_with fail
    refine (stands_any _ _ _ _ _ _ hl H3.out H4.out).mono ?_; rw [HS.out]; rintro e w' ⟨rfl, rfl⟩
    go_wp2
    go_ret2
    exact ⟨ret_strb (by rw [HN.out]; rfl) (by rw [HN.out]; rfl), rfl⟩
  obtain ⟨q, rfl⟩ : ∃ q : Nat, p = q := ⟨p.toNat, by omega⟩
  obtain ⟨F, hF⟩ : ∃ F, F = (l.drop q).take 17 := ⟨_, rfl⟩
  have HT : Hid (getT l q = unF F) := by show _ = _; unfold getT; rw [if_pos hp, hF, Int.toNat_natCast]
  have hFl : F.length = 17 := by rw [hF]; simp; omega
  have HS : Hid (stB l.length q 17 = true) := by show _ = _; simp [stB]; omega
  obtain ⟨b, off, ha, _, hcell⟩ := HR.out.byte (i := q) (by omega)
  subst ha
  have HRF : Hid (Rd w w.heap.size (some ⟨b, off + q, none⟩) (bV F)) := by
    show Rd _ _ _ _; rw [hF, bV_take, bV_drop]; exact (HR.out.drop q).take 17
  have h0 : F.getD 0 0 = l[q]'(by omega) := by rw [hF]; simp [List.getD]; rw [List.getElem?_eq_getElem (by omega)]; rfl
  have HF0 := Lib.hid h0
  rw [← h0] at hcell
  clear h0 hF
  have HFL := Lib.hid hFl; clear hFl
  obtain ⟨m, hm⟩ : ∃ m, m = (F.getD 0 0).toNat := ⟨_, rfl⟩
  rw [← hm] at hcell
  have HM := Lib.hid hm; clear hm
  have hm256 : m < 256 := by rw [HM.out]; exact (F.getD 0 0).toNat_lt
  have i1 : (0 : Int) ≤ (q : Int) := by omega
  have i2 : (q : Int) + 17 ≤ (c : Int) := by omega
  by_cases hm16 : 16 < m
  · have HN : Hid (getT l q = none) := by show _ = _; rw [HT.out]; unfold unF; rw [if_neg (by rw [← HM.out]; omega)]
    go_enter Try.func45, Try.ntmps45
    go_wp2_with fail
    refine (stands_any _ _ _ _ _ _ hl (by omega) (by omega)).mono ?_; rw [HS.out]; rintro e w' ⟨rfl, rfl⟩
    go_wp2_with fail
    go_ret2
    exact ⟨ret_strb (by rw [HN.out]; rfl) (by rw [HN.out]; rfl), rfl⟩
  have j1 : (1 : Int) + (m : Int) ≤ (c : Int) - (q : Int) := by omega
  have j2 : (0 : Int) ≤ (1 : Int) + (m : Int) := by omega
  have HRD : Hid (Rd w w.heap.size (some ⟨b, off + q + (1 + m), none⟩) (bV (F.drop (1 + m)))) := by show Rd _ _ _ _; rw [bV_drop]; exact HRF.out.drop (1 + m)
  have HRZ : Hid (c - q = 1 + m → Rd w w.heap.size (some ⟨b, off + q, none⟩) (bV (F.drop (1 + m)))) := by
    intro h; rw [List.drop_of_length_le (by rw [HFL.out]; omega)]; exact Rd.nil _ _ _
  have HRT : Hid (Rd w w.heap.size (some ⟨b, off + q + 1, none⟩) (bV ((F.drop 1).take m))) := by show Rd _ _ _ _; rw [bV_take, bV_drop]; exact (HRF.out.drop 1).take m
  have HTL : Hid (m = ((F.drop 1).take m).length) := by show _ = _; simp [HFL.out]; omega
  have hcv := fun n (hn : n = m) c' => run_string_of (w := w) n c' HRT.out (hn.trans HTL.out)
  cases hz : zerosB (F.drop (1 + m))
  case false =>
    have HZ := Lib.hid hz
    have HN : Hid (getT l q = none) := by show _ = _; rw [HT.out]; unfold unF; rw [if_neg (by rw [← HM.out]; simp [hz])]
    clear hz hcv
    by_cases hcq : c - q = 1 + m
    · have HCQ := Lib.hid hcq
      go_enter Try.func45, Try.ntmps45
      go_wp2_with fail
      refine (stands_any _ _ _ _ _ _ hl (by omega) (by omega)).mono ?_; rw [HS.out]; rintro e w' ⟨rfl, rfl⟩
      go_wp2_with fail
      refine (zeros_is _ _ _ (F.drop (1 + m)) _ (HRZ.out HCQ.out) (by rw [List.length_drop, HFL.out]) (by rw [List.length_drop, HFL.out]; omega) false HZ.out).mono ?_; rintro e w' ⟨rfl, rfl⟩
      go_wp2
      go_ret2
      exact ⟨ret_strb (by rw [HN.out]; rfl) (by rw [HN.out]; rfl), rfl⟩
    · go_enter Try.func45, Try.ntmps45
      go_wp2_with fail
      refine (stands_any _ _ _ _ _ _ hl (by omega) (by omega)).mono ?_; rw [HS.out]; rintro e w' ⟨rfl, rfl⟩
      go_wp2_with fail
      refine (zeros_is _ _ _ (F.drop (1 + m)) _ HRD.out (by rw [List.length_drop, HFL.out]) (by rw [List.length_drop, HFL.out]; omega) false HZ.out).mono ?_; rintro e w' ⟨rfl, rfl⟩
      go_wp2
      go_ret2
      exact ⟨ret_strb (by rw [HN.out]; rfl) (by rw [HN.out]; rfl), rfl⟩
  case true =>
    have HZ := Lib.hid hz
    have HN : Hid (getT l q = some ((F.drop 1).take m)) := by show _ = _; rw [HT.out]; unfold unF; rw [if_pos (by rw [← HM.out]; exact ⟨by omega, hz⟩), ← HM.out]
    clear hz
    have HCV := Lib.hid hcv
    clear hcv
    by_cases hcq : c - q = 1 + m
    · have HCQ := Lib.hid hcq
      go_enter Try.func45, Try.ntmps45
      go_wp2_with fail
      refine (stands_any _ _ _ _ _ _ hl (by omega) (by omega)).mono ?_; rw [HS.out]; rintro e w' ⟨rfl, rfl⟩
      go_wp2_with fail
      refine (zeros_is _ _ _ (F.drop (1 + m)) _ (HRZ.out HCQ.out) (by rw [List.length_drop, HFL.out]) (by rw [List.length_drop, HFL.out]; omega) true HZ.out).mono ?_; rintro e w' ⟨rfl, rfl⟩
      have hcv := HCV.out
      go_wp2
      go_ret2
      exact ⟨ret_strb (by rw [HN.out]; simp [txt]) (by rw [HN.out]; rfl), rfl⟩
    · go_enter Try.func45, Try.ntmps45
      go_wp2_with fail
      refine (stands_any _ _ _ _ _ _ hl (by omega) (by omega)).mono ?_; rw [HS.out]; rintro e w' ⟨rfl, rfl⟩
      go_wp2_with fail
      refine (zeros_is _ _ _ (F.drop (1 + m)) _ HRD.out (by rw [List.length_drop, HFL.out]) (by rw [List.length_drop, HFL.out]; omega) true HZ.out).mono ?_; rintro e w' ⟨rfl, rfl⟩
      have hcv := HCV.out
      go_wp2
      go_ret2
      exact ⟨ret_strb (by rw [HN.out]; simp [txt]) (by rw [HN.out]; rfl), rfl⟩
end Go.Proofs.Ytlpalhlihckidaa
