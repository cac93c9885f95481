import Derived.Test.YthpdaimeaomnkaaSe
import Derived.Laws.StructEq
import Derived.Deep.DeepCutAuto
namespace Go.Proofs.Ythpdaimeaomnkaa
open Go.RowKit Go.Sort
deriving instance DecidableEq for Sp
theorem toList_inj' {a b : ByteArray} (h : a.toList = b.toList) : a = b := by
  rw [ByteArray.toList_eq, ByteArray.toList_eq] at h
  cases a; cases b; simp at h; rw [h]
theorem eql_same (a : Sp) (w : World) : (binOp .eql 29 a.v a.v).run Try.prog w = .ok (.bool true) w := by
  unfold Sp.v
  simp [go_sem]
theorem eql_not (a b : Sp) (w : World) (h : a ≠ b) : (binOp .eql 29 a.v b.v).run Try.prog w = .ok (.bool false) w := by
  unfold Sp.v
  simp [go_sem]
  intro h1 h2 h3 h4 h5 h6 h7 h8
  apply h
  cases a; cases b
  simp only [Sp.mk.injEq]
  exact ⟨h1, h2, h3, h4, toList_inj' h5, toList_inj' h6, h7, h8⟩


theorem neq_same (a : Sp) (w : World) : (binOp .neq 29 a.v a.v).run Try.prog w = .ok (.bool false) w := by
  unfold Sp.v
  simp [go_sem]
theorem neq_not (a b : Sp) (w : World) (h : a ≠ b) : (binOp .neq 29 a.v b.v).run Try.prog w = .ok (.bool true) w := by
  unfold Sp.v
  simp [go_sem]
  intro h1 h2 h3 h4 h5 h6 h7 h8
  apply h
  cases a; cases b
  simp only [Sp.mk.injEq]
  exact ⟨h1, h2, h3, h4, toList_inj' h5, toList_inj' h6, h7, h8⟩

set_option maxHeartbeats 1000000 in
theorem same_any (a b : Option Addr) (c d : Nat) (L M : List Sp) (w : World) (ha : Rd w w.heap.size a (flatL L)) (hb : Rd w w.heap.size b (flatL M)) (hl : L.length ≤ maxLen) (_hm : M.length ≤ maxLen) :
    Calls Try.prog 10 #[.slice a L.length c, .slice b M.length d] w fun e w' => e = .returned (.bool (decide (L = M))) ∧ Below w.heap.size w w' := by
  unfold maxLen at hl
  by_cases hne : L.length = M.length
  case neg =>
    have h1 : ((L.length : Int) != (M.length : Int)) = true := by simpa using (by omega : ¬ (L.length : Int) = (M.length : Int))
    have h2 : ((L.length : Int) == (M.length : Int)) = false := by simpa using (by omega : ¬ (L.length : Int) = (M.length : Int))
    have HE : Hid (decide (L = M) = false) := by show _ = _; simp; intro e; exact hne (by rw [e])
    clear hne
    go_enter Try.func10, Try.ntmps10
    go_wp2
    go_ret
    exact ⟨ret_bool HE.out.symm, Below.refl _ _⟩
  have h1 : ((L.length : Int) != (M.length : Int)) = false := by simp [hne]
  have h2 : ((L.length : Int) == (M.length : Int)) = true := by simp [hne]
  have HN := Lib.hid hne; clear hne
  have HA := Lib.hid ha; have HB := Lib.hid hb; clear ha hb
  go_enter Try.func10, Try.ntmps10
  go_wp2
  go_loopw [5] (fun i wr => ∃ k : Nat, k ≤ L.length ∧ i = .int .i64 k ∧ L.take k = M.take k ∧ Below w.heap.size w wr) (fun i _ => L.length - (intOf i).toNat)
  case atStart => exact ⟨0, Nat.zero_le _, rfl, rfl, Below.refl _ _⟩
  case round =>
    obtain ⟨k, hk, rfl, he, hbw⟩ := hrel
    have HE := Lib.hid he; clear he
    have HW := Lib.hid hbw; clear hbw
    by_cases hlt : k < L.length
    · have hltM : k < M.length := by have := HN.out; omega
      obtain ⟨b1, o1, ha1, _, e0, e1, e2, e3, e4, e5, e6, e7⟩ := (HA.out.below HW.out).elem hlt
      obtain ⟨b2, o2, hb1, _, f0, f1, f2, f3, f4, f5, f6, f7⟩ := (HB.out.below HW.out).elem hltM
      subst ha1 hb1
      have i1 : (0 : Int) ≤ (k : Int) := by omega
      have i2 : (k : Int) < (L.length : Int) := by omega
      have i3 : (k : Int) < (M.length : Int) := by omega
      have hsL := List.take_succ_eq_append_getElem hlt
      have hsM := List.take_succ_eq_append_getElem hltM
      by_cases hs : L[k] = M[k]
      · have HS : Hid (L.take (k + 1) = M.take (k + 1)) := by show _ = _; rw [hsL, hsM, HE.out, hs]
        clear hsL hsM
        rw [← hs] at f0 f1 f2 f3 f4 f5 f6 f7
        clear hs
        generalize L[k] = s at *
        go_wp2
        go_quiet (fail)
        go_wp2
        go_roundw
        case rel => exact ⟨k + 1, by omega, by go_num, HS.out, Below_drewN HW.out _⟩
        case measure => simp [intOf]; omega
      · have HD : Hid (decide (L = M) = false) := by
          show _ = _; simp; intro e; apply hs; simp [e]
        clear hsL hsM
        have hq : ∀ w, (binOp .neq 29 (L[k]).v (M[k]).v).run Try.prog w = .ok (.bool true) w := fun w => neq_not _ _ w hs
        unfold Sp.v at hq
        clear hs
        generalize L[k] = s at *
        generalize M[k] = t at *
        go_wp2
        go_quiet (fail)
        go_wp2
        go_ret
        exact ⟨ret_bool HD.out.symm, Below_drewN HW.out _⟩
    · have HD : Hid (decide (L = M) = true) := by
        show _ = _
        have h := HE.out
        rw [List.take_of_length_le (by omega), List.take_of_length_le (by have := HN.out; omega)] at h
        simpa using h
      go_wp2
      go_ret
      exact ⟨ret_bool HD.out.symm, HW.out⟩
theorem same_is (a b : Option Addr) (c d n m : Nat) (L M : List Sp) (r : Bool) (hr : r = decide (L = M)) (hn : n = L.length) (hm' : m = M.length) (w : World) (ha : Rd w w.heap.size a (flatL L)) (hb : Rd w w.heap.size b (flatL M)) (hl : L.length ≤ maxLen) (hm : M.length ≤ maxLen) :
    Calls Try.prog 10 #[.slice a n c, .slice b m d] w fun e w' => e = .returned (.bool r) ∧ Below w.heap.size w w' := by
  subst hn hm' hr; exact same_any a b c d L M w ha hb hl hm
end Go.Proofs.Ythpdaimeaomnkaa
