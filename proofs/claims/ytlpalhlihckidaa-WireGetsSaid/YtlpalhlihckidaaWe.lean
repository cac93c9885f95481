import Derived.Test.YtlpalhlihckidaaWd
namespace Go.Proofs.Ytlpalhlihckidaa
open Go Go.RowKit

theorem ret_stri {x y : ByteArray} {k : IntKind} {a b : Int} (h : x = y) (h2 : a = b) : Ending.returned (.tuple #[.string x, .int k a]) = .returned (.tuple #[.string y, .int k b]) := by rw [h, h2]
theorem flat_take {L : List Sp} {k : Nat} (h : k < L.length) : (L.take (k + 1)).flatMap spanL = (L.take k).flatMap spanL ++ spanL L[k] := by
  rw [List.take_succ_eq_append_getElem h, List.flatMap_append, List.flatMap_cons, List.flatMap_nil, List.append_nil]
/-- The first k spans' bytes behind the head. -/
def partL (L : List Sp) (k : Nat) : List UInt8 := letL ++ putL L.length 2 ++ (L.take k).flatMap spanL
theorem partL_zero (L : List Sp) : partL L 0 = letL ++ putL L.length 2 := by simp [partL]
theorem partL_succ {L : List Sp} {k : Nat} (h : k < L.length) : partL L (k + 1) = partL L k ++ spanL L[k] := by
  unfold partL; rw [flat_take h, List.append_assoc]; simp only [List.append_assoc]
theorem partL_all (L : List Sp) : partL L L.length = batchL L := by unfold partL; rw [List.take_length]; rfl
theorem partL_length {L : List Sp} (h : ∀ s ∈ L, mayB s = true) {k : Nat} (hk : k ≤ L.length) : (partL L k).length = 6 + 75 * k := by
  unfold partL
  rw [List.length_append, List.length_append, putL_length, flat_length (fun s hs => h s (List.mem_of_mem_take hs)), List.length_take, Nat.min_eq_left hk]; rfl
def putStr (L : List Sp) : ByteArray := if mayL L = true then bs (batchL L) else ByteArray.empty
def putErr (L : List Sp) : Int := if mayL L = true then 0 else 1
set_option maxHeartbeats 2000000 in
theorem refPutL_any (a : Option Addr) (c : Nat) (L : List Sp) (w : World) (hr : Rd w w.heap.size a (flatL L)) (hl : L.length ≤ maxLen) (ok : ∀ s ∈ L, s.Ok) :
    Calls Try.prog 10 #[.slice a L.length c] w fun e w' => e = .returned (.tuple #[.string (putStr L), .int .i64 (putErr L)]) ∧ Below w.heap.size w w' := by
  have HR := Lib.hid hr; have OK := Lib.hid ok; have HL := Lib.hid hl; clear hr ok
  unfold maxLen at hl
  cases hm : mayL L
  · have H1 : Hid (putStr L = ByteArray.empty) := by show _ = _; simp [putStr, hm]
    have H2 : Hid (putErr L = 1) := by show _ = _; simp [putErr, hm]
    have HM := Lib.hid hm; clear hm
    go_enter Try.func10, Try.ntmps10
    go_wp2_with fail
    refine (refMayL_any a c L _ HR.out HL.out OK.out).mono ?_; rw [HM.out]; rintro e w2 ⟨rfl, hb2⟩
    go_wp2_with fail
    go_ret2
    exact ⟨ret_stri H1.out.symm H2.out.symm, hb2⟩
  · have H1 : Hid (putStr L = bs (batchL L)) := by show _ = _; simp [putStr, hm]
    have H2 : Hid (putErr L = 0) := by show _ = _; simp [putErr, hm]
    obtain ⟨m1, m2, m3⟩ := mayL_iff.1 hm
    have HM := Lib.hid hm; have HM3 := Lib.hid m3; clear hm m3
    have hw : IntKind.u64.wrap (L.length : Int) = (L.length : Int) := IntWalk.u64_in _ ⟨by omega, by omega⟩
    obtain ⟨P, hP⟩ : ∃ P, P = putL L.length 2 := ⟨_, rfl⟩
    have hPs : (bs P).size = 2 := by rw [bs_size, hP, putL_length]
    have HP := Lib.hid hP; clear hP
    have HZ : Hid (ByteArray.mk #[83, 80, 65, 78] ++ bs P = bs (partL L 0)) := by
      show _ = _
      rw [partL_zero, ← HP.out, ← bs_append]; rfl
    go_enter Try.func10, Try.ntmps10
    go_wp2_with fail
    refine (refMayL_any a c L _ HR.out HL.out OK.out).mono ?_; rw [HM.out]; rintro e w2 ⟨rfl, hb2⟩
    have HR2 := Lib.hid ((HR.out.below hb2).more hb2.size)
    go_wp2_with fail
    refine (refPut_is L.length 2 2 rfl P HP.out _ (by omega)).mono ?_; rintro e w3 ⟨rfl, hb3⟩
    have HR3 := Lib.hid ((HR2.out.below hb3).more hb3.size)
    have HB3 := Lib.hid (bel2 hb2 hb3); clear hb2 hb3
    go_wp2_with fail
    go_loopw [4, 5] (fun v i wr => ∃ k : Nat, k ≤ L.length ∧ i = .int .i64 k ∧ v = .string (bs (partL L k)) ∧ RowKit.Below w3.heap.size w3 wr) (fun _ i _ => L.length - (intOf i).toNat)
    case atStart => exact ⟨0, Nat.zero_le _, rfl, by rw [← HZ.out], Below.refl _ _⟩
    case round =>
      obtain ⟨k, hk, rfl, rfl, hbw⟩ := hrel
      have HW := Lib.hid hbw; clear hbw
      by_cases hlt : k < L.length
      · obtain ⟨b1, o1, ha1, _, e0, e1, e2, e3, e4, e5, e6, e7⟩ := (HR3.out.below HW.out).elem hlt
        subst ha1
        have i1 : (0 : Int) ≤ (k : Int) := by omega
        have i2 : (k : Int) < (L.length : Int) := by omega
        have OKK := Lib.hid (OK.out L[k] (List.getElem_mem _))
        have HMK := Lib.hid (HM3.out L[k] (List.getElem_mem _))
        have HT := Lib.hid (partL_succ hlt)
        have q1 : (bs (partL L k)).size = 6 + 75 * k := by rw [bs_size, partL_length HM3.out hk]
        have q2 : (bs (spanL L[k])).size = 75 := by rw [bs_size, spanL_length HMK.out]
        generalize L[k] = s at *
        have hsz : ¬ 9223372036854775807 < 6 + 75 * k + 75 := by omega
        go_wp2_with fail
        refine (refSpan_any s _ OKK.out HMK.out).mono ?_; rintro e w4 ⟨rfl, hb4⟩
        go_wp2_with fail
        go_roundw
        case rel => exact ⟨k + 1, by omega, by go_num, by rw [HT.out, ← bs_append], bel2 HW.out hb4⟩
        case measure => simp [intOf]; omega
      · have : k = L.length := by omega
        subst this
        go_wp2_with fail
        go_ret2
        exact ⟨ret_stri (by rw [H1.out, partL_all]) H2.out.symm, bel2 HB3.out HW.out⟩
end Go.Proofs.Ytlpalhlihckidaa
