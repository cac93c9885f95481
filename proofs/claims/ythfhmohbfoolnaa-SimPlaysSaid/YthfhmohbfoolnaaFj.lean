import Derived.Test.YthfhmohbfoolnaaFi
namespace Go.Proofs.Ythfhmohbfoolnaa
open Go Go.RowKit Go.Sort

theorem common_step {a b : List UInt8} {k : Nat} (h1 : k < a.length) (h2 : k < b.length) (e : a[k] = b[k]) : commonF (a.drop k) (b.drop k) = commonF (a.drop (k + 1)) (b.drop (k + 1)) + 1 := by
  rw [List.drop_eq_getElem_cons h1, List.drop_eq_getElem_cons h2, commonF, if_pos e]
theorem common_diff {a b : List UInt8} {k : Nat} (h1 : k < a.length) (h2 : k < b.length) (e : ¬ a[k] = b[k]) : commonF (a.drop k) (b.drop k) = 0 := by
  rw [List.drop_eq_getElem_cons h1, List.drop_eq_getElem_cons h2, commonF, if_neg e]
theorem common_end {a b : List UInt8} {k : Nat} (h : a.length ≤ k ∨ b.length ≤ k) : commonF (a.drop k) (b.drop k) = 0 := by
  rcases h with h | h
  · rw [List.drop_of_length_le h]; rfl
  · rw [List.drop_of_length_le h]; cases a.drop k <;> rfl
theorem common_le : ∀ (a b : List UInt8), commonF a b ≤ a.length ∧ commonF a b ≤ b.length
  | [], _ => by simp [commonF]
  | _ :: _, [] => by simp [commonF]
  | x :: xs, y :: ys => by
    obtain ⟨h1, h2⟩ := common_le xs ys
    unfold commonF
    split
    · simp; omega
    · simp
set_option maxRecDepth 20000 in
set_option maxHeartbeats 2000000 in
theorem common_any (a b : ByteArray) (w : World) (ha : a.size ≤ 1000000000000) (hb : b.size ≤ 1000000000000) :
    Calls Try.prog 64 #[.string a, .string b] w fun e w' => e = .returned (.int .i64 (commonF a.data.toList b.data.toList : Nat)) ∧ Below w.heap.size w w' := by
  go_enter Try.func64, Try.ntmps64
  go_wp2_with fail
  go_loopw [5] (fun i wr => ∃ k : Nat, k ≤ a.size ∧ k ≤ b.size ∧ i = .int .i64 k ∧ commonF a.data.toList b.data.toList = commonF (a.data.toList.drop k) (b.data.toList.drop k) + k ∧ RowKit.Below w.heap.size w wr) (fun i _ => a.size - (intOf i).toNat)
  case atStart => exact ⟨0, Nat.zero_le _, Nat.zero_le _, rfl, rfl, Below.refl _ _⟩
  case round =>
    obtain ⟨k, hk, hk2, rfl, he, hbw⟩ := hrel
    have HE := Lib.hid he; have HW := Lib.hid hbw; clear he hbw
    by_cases h1 : k < a.size
    · have d1 : decide (k < a.size) = true := decide_eq_true h1
      by_cases h2 : k < b.size
      · have d2 : decide (k < b.size) = true := decide_eq_true h2
        have i1 : (0 : Int) ≤ (k : Int) := by omega
        have i2 : (k : Int) < (a.size : Int) := by omega
        have i3 : (k : Int) < (b.size : Int) := by omega
        by_cases hx : a[k] = b[k]
        · have HT : Hid (commonF a.data.toList b.data.toList = commonF (a.data.toList.drop (k + 1)) (b.data.toList.drop (k + 1)) + (k + 1)) := by
            show _ = _
            rw [HE.out, common_step (k := k) (by rw [data_length]; exact h1) (by rw [data_length]; exact h2) (by simp; exact hx)]; omega
          have hy : ((a[k].toNat : Int) == (b[k].toNat : Int)) = true := by simp [hx]
          clear hx
          go_wp2_with fail
          go_region_held3 (fun _ => True) (exact trivial) (fail)
          all_goals
            go_wp2_with fail
            go_roundw
            case rel => exact ⟨k + 1, by omega, by omega, by go_num, HT.out, Below_drew HW.out⟩
            case measure => simp [intOf]; omega
        · have HT : Hid (commonF a.data.toList b.data.toList = k) := by
            show _ = _
            rw [HE.out, common_diff (k := k) (by rw [data_length]; exact h1) (by rw [data_length]; exact h2) (by simp; exact hx)]; omega
          have hy : ((a[k].toNat : Int) == (b[k].toNat : Int)) = false := by
            refine beq_eq_false_iff_ne.2 fun e => hx (UInt8.toNat_inj.1 (by omega))
          clear hx
          go_wp2_with fail
          go_region_held3 (fun _ => True) (exact trivial) (fail)
          all_goals
            go_wp2_with fail
            go_ret
            exact ⟨by rw [HT.out]; rfl, Below_drew HW.out⟩
      · have d2 : decide (k < b.size) = false := decide_eq_false h2
        have HT : Hid (commonF a.data.toList b.data.toList = k) := by
          show _ = _
          rw [HE.out, common_end (.inr (by rw [data_length]; omega))]; omega
        clear h2
        go_wp2_with fail
        go_region
        all_goals
          go_wp2_with fail
          go_ret
          exact ⟨by rw [HT.out]; rfl, Below_drew HW.out⟩
    · have d1 : decide (k < a.size) = false := decide_eq_false h1
      have HT : Hid (commonF a.data.toList b.data.toList = k) := by
        show _ = _
        rw [HE.out, common_end (.inl (by rw [data_length]; omega))]; omega
      go_wp2_with fail
      go_region
      all_goals
        go_wp2_with fail
        go_ret
        exact ⟨by rw [HT.out]; rfl, Below_drew HW.out⟩
end Go.Proofs.Ythfhmohbfoolnaa
