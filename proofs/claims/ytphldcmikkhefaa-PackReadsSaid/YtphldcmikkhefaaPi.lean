import Derived.Test.YtphldcmikkhefaaPh
import Derived.Deep.RegionHeldLaw
namespace Go.Proofs.Ytphldcmikkhefaa
open Go Go.RowKit Go.Sort

theorem getT_field {l : List UInt8} {p : Int} {t : List UInt8} (h : getT l p = some t) : 0 ≤ p ∧ p + 17 ≤ l.length ∧ fldL t = (l.drop p.toNat).take 17 := by
  unfold getT at h
  split at h
  · rename_i hp
    refine ⟨hp.1, hp.2, ?_⟩
    have hF : ((l.drop p.toNat).take 17).length = 17 := by simp; omega
    unfold unF at h
    split at h
    · rename_i hz
      have := (fld_same hF hz.1).2 hz.2
      injection h with h
      rw [← h]; exact this
    · cases h
  · cases h
theorem putText_nil (s : ByteArray) (w : World) (hs : s.size ≤ maxLen) :
    Calls Try.prog 12 #[.slice none 0 0, .string s] w (BytesOut w (fldL s.data.toList)) :=
  putText_out none 0 [] s w (Rd.nil _ _ _) (by decide) (by decide) hs
set_option maxHeartbeats 1600000 in
theorem law_reads (a : Option Addr) (c : Nat) (l : List UInt8) (p : Int) (w : World) (hr : Rd w w.heap.size a (bV l)) (hlc : l.length ≤ c) (hc : c ≤ maxLen)
    (h3 : -9223372036854775808 ≤ p) (h4 : p ≤ 9223372036854775807) :
    Calls Try.prog 5 #[.slice a l.length c, .int .i64 p] w fun e w' => e = .returned (.bool true) ∧ Below w.heap.size w w' := by
  have HR := Lib.hid hr; have HC := Lib.hid hc; clear hr hc
  have hcm : c ≤ 9223372036854775807 := by have := HC.out; unfold maxLen at this; omega
  by_cases hlong : 200 < l.length
  · go_enter Try.func5, Try.ntmps5
    go_wp2_with (go_at_call 7; refine (fixed_any _).mono ?_; rintro e w' ⟨rfl, hb⟩)
    go_ret
    exact ⟨rfl, hb⟩
  have hcv := run_string_of (w := w) l.length c HR.out rfl
  have HLL : Hid ((bs l).data.toList = l) := bs_toList l
  obtain ⟨T, hT⟩ : ∃ T, T = getT l p := ⟨_, rfl⟩
  have ⟨t1, t2⟩ := str_eq (x := txt T) (y := txt T) (b := true) (by simp)
  go_enter Try.func5, Try.ntmps5
  go_wp2_with fail
  refine (getText_any a c l p w HR.out (by omega) hlc HC.out h3 h4).mono ?_
  rw [← hT]
  rintro e w' ⟨rfl, rfl⟩
  go_wp2_with fail
  refine (refGetText_any (bs l) p w (by rw [bs_size]; omega) h3 h4).mono ?_
  rw [HLL.out, ← hT]
  rintro e W1 ⟨rfl, hb1⟩
  clear hcv
  have HB1 := Lib.hid hb1; clear hb1
  have HR2 := Lib.hid ((HR.out.below HB1.out).more HB1.out.size)
  cases T with
  | none =>
    clear hT
    go_wp2
    refine wp_region_quiet_below (by kernel_rfl) (by kernel_rfl) ?_
    iterate 18 (first | go_big_quiet_step (first | (go_at_call 7; exact Calls.regrown_of (fixed_any _))) | fail)
    refine wpQuiet_nil ?_
    intro W3 hw'
    obtain ⟨⟨d, os⟩, hw''⟩ := hw'
    have hb3 := below_regrown W1 d os
    rw [← hw''] at hb3
    clear hw''
    go_wp2
    go_ret
    exact ⟨rfl, bel2 HB1.out hb3⟩
  | some t =>
    have hF := getT_field hT.symm
    obtain ⟨q, rfl⟩ : ∃ q : Nat, p = q := ⟨p.toNat, by omega⟩
    rw [Int.toNat_natCast] at hF
    have HF := Lib.hid hF
    have htl : (txt (some t)).size ≤ 16 := by
      show (bs t).size ≤ 16
      rw [bs_size]
      rcases Nat.lt_or_ge 16 t.length with h | h
      · have := hF.2.2; rw [fldL_long h] at this
        have := congrArg List.length this
        simp at this; omega
      · exact h
    have HTL := Lib.hid htl
    clear hT htl hF
    obtain ⟨b, off, ha, _, _⟩ := HR2.out.byte (i := q) (by have := HF.out; omega)
    subst ha
    have HRF : Hid (Rd W1 W1.heap.size (some ⟨b, off + q, none⟩) (bV ((l.drop q).take 17))) := by
      show Rd _ _ _ _; rw [bV_take, bV_drop]; exact (HR2.out.drop q).take 17
    have HF17 : Hid (17 = ((l.drop q).take 17).length) := by show _ = _; simp; have := HF.out; omega
    have i1 : (q : Int) + 17 ≤ (c : Int) := by have := HF.out; omega
    have i2 : (0 : Int) ≤ (q : Int) := by omega
    have i3 : ¬ c = q := by omega
    have i4 : ¬ c - q = 0 := by omega
    have htm : (txt (some t)).size ≤ maxLen := by have := HTL.out; unfold maxLen; omega
    have HTM := Lib.hid htm; clear htm
    obtain ⟨L2, hL2⟩ : ∃ L2, L2 = fldL (txt (some t)).data.toList := ⟨_, rfl⟩
    have HL2 : Hid (L2 = (l.drop q).take 17) := by
      show _ = _; rw [hL2, ← HF.out.2.2]; show fldL (bs t).data.toList = _; rw [bs_toList]
    have ⟨t3, t4⟩ := str_eq (x := bs L2) (y := bs ((l.drop q).take 17)) (b := true) (by rw [HL2.out]; simp)
    have HL2' := Lib.hid hL2; clear hL2
    have hcvS : ∀ w', RowKit.Below W1.heap.size W1 w' → (convert 22 9 (.slice (some ⟨b, off + q, none⟩) 17 (c - q))).run Try.prog w' = .ok (.string (bs ((l.drop q).take 17))) w' :=
      fun w' h => run_string_of 17 (c - q) (HRF.out.below h) HF17.out
    have e1 : IntKind.i64.wrap ((q : Int) + 17) = (q : Int) + 17 := IntWalk.i64_in _ (by omega)
    have i5 : (q : Int) ≤ (q : Int) + 17 := by omega
    have e2 : ((q : Int) + 17).toNat = q + 17 := by omega
    have e3 : q + 17 - q = 17 := by omega
    go_wp2
    go_region_held_law (fun w' => RowKit.Below W1.heap.size W1 w') (first | assumption | exact HB2.out | exact HB3.out | exact Below_drew (Below.refl _ _)) (first
      | (go_simp
         go_at_call 7
         refine (fixed_any _).mono ?_
         rintro e W2 ⟨rfl, hb2⟩
         have HB2 : Hid (Below W1.heap.size W1 W2) := bel2 (Below_drew (Below.refl _ _)) hb2
         clear hb2)
      | (go_simp
         go_at_call 12
         refine (putText_nil _ _ HTM.out).mono ?_
         rw [← HL2'.out]
         rintro e W3 ⟨a3, c3, rfl, _, _, hr3, hb3⟩
         have HB3 : Hid (Below W1.heap.size W1 W3) := bel2 HB2.out hb3
         have hcv3 := run_string_of (w := W3) L2.length c3 hr3 rfl
         clear hb3 hr3))
    go_wp2
    go_ret
    exact ⟨rfl, bel2 HB1.out HB3.out⟩
end Go.Proofs.Ytphldcmikkhefaa
