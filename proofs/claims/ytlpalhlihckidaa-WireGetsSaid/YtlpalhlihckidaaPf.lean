import Derived.Test.YtlpalhlihckidaaPe
namespace Go.Proofs.Ytlpalhlihckidaa
open Go Go.RowKit Go.Sort

theorem fldL_eq {s : List UInt8} (h : s.length ≤ 16) : fldL s = UInt8.ofNat s.length :: (s ++ List.replicate (16 - s.length) 0) := by
  unfold fldL; rw [if_pos h]
  refine List.ext_getElem (by simp; omega) fun i h1 h2 => ?_
  rw [List.getElem_map, List.getElem_range]
  cases i with
  | zero => simp [fldB]
  | succ j =>
    rw [List.getElem_cons_succ]
    unfold fldB
    rw [if_neg (by omega), Nat.add_sub_cancel]
    by_cases hj : j < s.length
    · rw [List.getElem_append_left hj, getD_lt hj]
    · rw [List.getElem_append_right (by omega), getD_ge (by omega)]; simp
theorem zerosB_iff : ∀ l : List UInt8, zerosB l = true ↔ l = List.replicate l.length 0
  | [] => by simp [zerosB]
  | c :: l => by
    have := zerosB_iff l
    simp only [zerosB, List.all_cons, Bool.and_eq_true, beq_iff_eq, List.length_cons, List.replicate_succ, List.cons.injEq] at this ⊢
    exact and_congr_right fun _ => this
theorem fld_same {F : List UInt8} (hF : F.length = 17) (hm : (F.getD 0 0).toNat ≤ 16) :
    fldL ((F.drop 1).take (F.getD 0 0).toNat) = F ↔ zerosB (F.drop (1 + (F.getD 0 0).toNat)) = true := by
  cases F with
  | nil => simp at hF
  | cons c G =>
    have hc : (c :: G).getD 0 0 = c := rfl
    rw [hc] at hm ⊢
    have hG : G.length = 16 := by simpa using hF
    have hl : ((c :: G).drop 1 |>.take c.toNat).length = c.toNat := by simp; omega
    rw [fldL_eq (by rw [hl]; exact hm), hl, zerosB_iff, show 1 + c.toNat = c.toNat + 1 by omega]
    simp only [List.drop_succ_cons, List.drop_zero, UInt8.ofNat_toNat, List.cons.injEq, true_and]
    have e : G = G.take c.toNat ++ G.drop c.toNat := (List.take_append_drop _ _).symm
    have e2 : (G.drop c.toNat).length = 16 - c.toNat := by simp; omega
    rw [e2]
    constructor
    · intro h
      have h2 := congrArg (List.drop c.toNat) h
      rw [List.drop_append_of_le_length (by simp; omega), List.drop_of_length_le (by simp; omega), List.nil_append] at h2
      exact h2.symm
    · intro h
      rw [← h, ← e]
theorem fld_back {s : List UInt8} (h : s.length ≤ 16) : unF (fldL s) = some s := by
  have hl := fldL_length h
  have h0 : ((fldL s).getD 0 0) = UInt8.ofNat s.length := by rw [fldL_eq h]; rfl
  have hn : ((fldL s).getD 0 0).toNat = s.length := by rw [h0]; simp; omega
  have ht : ((fldL s).drop 1).take s.length = s := by rw [fldL_eq h]; simp
  unfold unF
  rw [if_pos ⟨by omega, (fld_same hl (by omega)).1 (by rw [hn, ht])⟩, hn, ht]

def strV : Value → ByteArray | .string s => s | _ => ByteArray.empty
set_option maxHeartbeats 1000000 in
theorem refPutText_any (s : ByteArray) (w : World) (hs : s.size ≤ maxLen) :
    Calls Try.prog 33 #[.string s] w fun e w' => e = .returned (.string (bs (fldL s.data.toList))) ∧ Below w.heap.size w w' := by
  unfold maxLen at hs
  have hdl := data_length s
  by_cases h16 : 16 < s.size
  · have HF := Lib.hid (fldL_long (s := s.data.toList) (by omega))
    clear hdl
    go_enter Try.func33, Try.ntmps33
    go_wp2
    go_ret
    exact ⟨ret_str (by rw [HF.out]; rfl), Below.refl _ _⟩
  have HF := Lib.hid (fldL_eq (s := s.data.toList) (by omega))
  have HD := Lib.hid hdl; clear hdl
  have hw : IntKind.u64.wrap (s.size : Int) = s.size := IntWalk.u64_in _ ⟨by omega, by omega⟩
  have hsz : ¬ 9223372036854775807 < (bs (putL s.size (cnt 1))).size + s.size := by rw [bs_size, putL_length]; simp [cnt]; omega
  go_enter Try.func33, Try.ntmps33
  go_wp2_with fail
  refine (refPut_any s.size 1 _ (by omega)).mono ?_; rintro e w1 ⟨rfl, hb1⟩
  go_wp2
  have h1 : bs (putL s.size (cnt 1)) ++ s = bs (UInt8.ofNat s.size :: (s.data.toList ++ List.replicate 0 0)) := by
    have e1 : putL s.size (cnt 1) = [UInt8.ofNat s.size] := by
      have : cnt 1 = 1 := by decide
      rw [this]; simp [putL, byt, List.range_succ]
    have e2 : bs [UInt8.ofNat s.size] ++ bs s.data.toList = bs (UInt8.ofNat s.size :: s.data.toList) := bs_append _ _
    rw [e1, List.replicate_zero, List.append_nil, ← e2, bs_of]
  rw [h1]
  clear h1
  go_loop [3] (fun t => ∃ (k : Nat) (T : ByteArray), s.size + k ≤ 16 ∧ T = bs (UInt8.ofNat s.size :: (s.data.toList ++ List.replicate k 0)) ∧ t = .string T) (fun t => 17 - (strV t).size)
  case atStart => exact ⟨0, _, by omega, rfl, rfl⟩
  case round =>
    obtain ⟨k, T, hk, hT, rfl⟩ := hrel
    have hTs : T.size = 1 + s.size + k := by rw [hT, bs_size]; simp; omega
    have HT := Lib.hid hT
    have HTS := Lib.hid hTs
    clear hT
    by_cases hlt : s.size + k < 16
    · have i1 : T.size < 17 := by omega
      have HA : Hid (T ++ ⟨#[0]⟩ = bs (UInt8.ofNat s.size :: (s.data.toList ++ List.replicate (k + 1) 0))) := by
        have e2 : bs (UInt8.ofNat s.size :: (s.data.toList ++ List.replicate k 0)) ++ bs [0] = bs (UInt8.ofNat s.size :: (s.data.toList ++ List.replicate (k + 1) 0)) := by
          rw [bs_append]; simp [List.replicate_succ']
        show _ = _; rw [HT.out]; exact e2
      have HSZ : Hid ((T ++ ⟨#[0]⟩ : ByteArray).size = 2 + s.size + k) := by show _ = _; rw [HA.out, bs_size]; simp; omega
      clear hTs
      go_wp2
      go_round
      case rel => exact ⟨k + 1, _, by omega, HA.out, rfl⟩
      case measure => show 17 - (T ++ ⟨#[0]⟩ : ByteArray).size < 17 - T.size; rw [HSZ.out, HTS.out]; omega
    · have i1 : ¬ T.size < 17 := by omega
      clear hTs
      go_wp2
      go_ret
      refine ⟨ret_str ?_, hb1⟩
      rw [HF.out, HT.out, HD.out, show k = 16 - s.size by omega]
end Go.Proofs.Ytlpalhlihckidaa
