import Derived.Test.YtlpalhlihckidaaPa
namespace Go.Proofs.Ytlpalhlihckidaa
open Go Go.RowKit

/-- The lowest bytes of a number. -/
def putL (n k : Nat) : List UInt8 := (List.range k).map (byt n)
theorem putL_length (n k : Nat) : (putL n k).length = k := by simp [putL]
set_option maxHeartbeats 1000000 in
theorem put_any (a : Option Addr) (c : Nat) (l : List UInt8) (n : Nat) (s : Int) (w : World) (hr : Rd w w.heap.size a (bV l)) (hl : l.length ≤ 1000000000000) (hlc : l.length ≤ c) (hn : n < 18446744073709551616)
    (h1 : -9223372036854775808 ≤ s) (h2 : s ≤ 9223372036854775807) :
    Calls Try.prog 16 #[.slice a l.length c, .int .u64 n, .int .i64 s] w
      fun e w' => ∃ v, e = .returned v ∧ w'.ownsRow w.heap.size 5 1 v (l.length + cnt s) (bV (l ++ putL n (cnt s))) ∧ Below w.heap.size w w' := by
  have HR := Lib.hid hr; clear hr
  have hmf : ∀ (fn : Fn) (first cap : Array Value) (w : World), (Instr.makeFunc fn first cap).run Try.prog w = .ok (.func fn first cap) w := fun _ _ _ _ => rfl
  have hk := cnt_le s
  have H1 := Lib.hid h1; have H2 := Lib.hid h2; clear h1 h2
  go_enter Try.func16, Try.ntmps16
  go_wp2_with (go_at_call 29; refine (counted_any _ _ H1.out H2.out).mono ?_; rintro e w' ⟨rfl, rfl⟩)
  refine (lay_any (.func (.func 30) #[] #[.pointer (some ⟨w.heap.size, 0, none⟩)]) 30 #[.pointer (some ⟨w.heap.size, 0, none⟩)] (byt n) (cnt s) a c l _ ((HR.out.below (box1 w _)).more (by simp)) hl hlc (by omega) (fun _ => rfl) (fun _ => enters_at Try.func30 (by kernel_rfl) rfl) ?_).mono ?_
  · intro i hi W hW
    exact put1_any n i _ W (by omega) hn (by rw [hW.cell (by simp)]; go_simp)
  rintro e w1 ⟨v, rfl, hown, hb⟩
  go_wp2
  go_ret
  exact ⟨v, rfl, own_base hown (by simp), bel2 (box1 w _) hb⟩

/-- The field of a text. -/
def fldB (s : List UInt8) (i : Nat) : UInt8 := if i = 0 then UInt8.ofNat s.length else s.getD (i - 1) 0
def fldL (s : List UInt8) : List UInt8 := if s.length ≤ 16 then (List.range 17).map (fldB s) else []
set_option maxHeartbeats 1000000 in
theorem fieldByte_any (s : ByteArray) (i : Nat) (w : World) (hs : s.size ≤ 16) (hi : i < 17) :
    Calls Try.prog 41 #[.string s, .int .i64 i] w fun e w' => e = .returned (.int .u8 ((fldB s.data.toList i).toNat : Int)) ∧ w = w' := by
  by_cases h0 : i = 0
  · subst h0
    have HE : Hid (((fldB s.data.toList 0).toNat : Int) = s.size) := by
      show _ = _; simp [fldB]; omega
    go_enter Try.func41, Try.ntmps41
    go_wp2
    go_ret
    exact ⟨ret_int HE.out.symm, rfl⟩
  have e0 : ((i : Int) == 0) = false := by simp; omega
  by_cases h1 : i ≤ s.size
  · obtain ⟨j, rfl⟩ : ∃ j, i = j + 1 := ⟨i - 1, by omega⟩
    have hj : j < s.size := by omega
    have HE : Hid (((fldB s.data.toList (j + 1)).toNat : Int) = s[j].toNat) := by
      show _ = _
      have h := data_getD hj
      unfold fldB; rw [if_neg (by omega), Nat.add_sub_cancel, h]
    have e1 : ((j + 1 : Nat) : Int) - 1 = j := by omega
    go_enter Try.func41, Try.ntmps41
    go_wp2
    go_ret
    exact ⟨ret_int HE.out.symm, rfl⟩
  · have HE : Hid (((fldB s.data.toList i).toNat : Int) = 0) := by
      show _ = _
      unfold fldB; rw [if_neg h0, getD_ge (by rw [data_length]; omega)]; rfl
    go_enter Try.func41, Try.ntmps41
    go_wp2
    go_ret
    exact ⟨ret_int HE.out.symm, rfl⟩

theorem putText1_any (s : ByteArray) (i : Nat) (b : Nat) (w : World) (hs : s.size ≤ 16) (hi : i < 17) (hc : w.cell? ⟨b, 0, none⟩ = some (.string s)) :
    Calls Try.prog 40 #[.int .i64 i, .pointer (some ⟨b, 0, none⟩)] w fun e w' => e = .returned (.int .u8 ((fldB s.data.toList i).toNat : Int)) ∧ w = w' := by
  go_enter Try.func40, Try.ntmps40
  go_wp2_with (go_at_call 41; refine (fieldByte_any _ _ _ hs hi).mono ?_; rintro e w' ⟨rfl, rfl⟩)
  go_ret
  exact ⟨rfl, rfl⟩
theorem fldL_length {s : List UInt8} (h : s.length ≤ 16) : (fldL s).length = 17 := by simp [fldL, h]
theorem fldL_long {s : List UInt8} (h : 16 < s.length) : fldL s = [] := by unfold fldL; rw [if_neg (by omega)]
set_option maxHeartbeats 1000000 in
theorem putText_any (a : Option Addr) (c : Nat) (l : List UInt8) (s : ByteArray) (w : World) (hr : Rd w w.heap.size a (bV l)) (hl : l.length ≤ 1000000000000) (hlc : l.length ≤ c) (hs : s.size ≤ maxLen) :
    Calls Try.prog 31 #[.slice a l.length c, .string s] w
      fun e w' => ∃ v, e = .returned v ∧ w'.ownsRow w.heap.size 5 1 v (l.length + (fldL s.data.toList).length) (bV (l ++ fldL s.data.toList)) ∧ Below w.heap.size w w' := by
  have HR := Lib.hid hr; clear hr
  have hmf : ∀ (fn : Fn) (first cap : Array Value) (w : World), (Instr.makeFunc fn first cap).run Try.prog w = .ok (.func fn first cap) w := fun _ _ _ _ => rfl
  unfold maxLen at hs
  by_cases h16 : 16 < s.size
  · have HF := Lib.hid (fldL_long (s := s.data.toList) (by rw [data_length]; omega))
    go_enter Try.func31, Try.ntmps31
    go_wp2_with fail
    refine (lay_any .nilFunc 0 #[] (fun _ => 0) 0 a c l _ ((HR.out.below (box1 w _)).more (by simp)) hl hlc (by omega) (fun h => absurd h (by omega)) (fun h => absurd h (by omega)) (fun i hi => absurd hi (by omega))).mono ?_
    rintro e w1 ⟨v, rfl, hown, hb⟩
    go_wp2
    go_ret
    refine ⟨v, rfl, ?_, bel2 (box1 w _) hb⟩
    rw [HF.out]
    simpa using own_base hown (by simp)
  · have HF : Hid (fldL s.data.toList = (List.range 17).map (fldB s.data.toList)) := by
      show _ = _; unfold fldL; rw [if_pos (by rw [data_length]; omega)]
    have h16' : s.size ≤ 16 := by omega
    go_enter Try.func31, Try.ntmps31
    go_wp2_with fail
    refine (lay_any (.func (.func 40) #[] #[.pointer (some ⟨w.heap.size, 0, none⟩)]) 40 #[.pointer (some ⟨w.heap.size, 0, none⟩)] (fldB s.data.toList) 17 a c l _ ((HR.out.below (box1 w _)).more (by simp)) hl hlc (by omega) (fun _ => rfl) (fun _ => enters_at Try.func40 (by kernel_rfl) rfl) ?_).mono ?_
    · intro i hi W hW
      exact putText1_any s i _ W h16' hi (by rw [hW.cell (by simp)]; go_simp)
    rintro e w1 ⟨v, rfl, hown, hb⟩
    go_wp2
    go_ret
    refine ⟨v, rfl, ?_, bel2 (box1 w _) hb⟩
    rw [HF.out]
    simpa using own_base hown (by simp)

def stB (n : Nat) (at_ size : Int) : Bool := decide (0 ≤ at_) && decide (size ≤ n - at_)
set_option maxHeartbeats 400000 in
theorem stands_any (a : Option Addr) (c n : Nat) (at_ size : Int) (w : World) (hn : n ≤ 1000000000000) (h1 : -9223372036854775808 ≤ at_) (h2 : at_ ≤ 9223372036854775807) :
    Calls Try.prog 42 #[.slice a n c, .int .i64 at_, .int .i64 size] w fun e w' => e = .returned (.bool (stB n at_ size)) ∧ w = w' := by
  by_cases h0 : 0 ≤ at_
  · go_enter Try.func42, Try.ntmps42
    go_wp2
    go_ret
    exact ⟨ret_bool (by simp [stB, h0]), rfl⟩
  · go_enter Try.func42, Try.ntmps42
    go_wp2
    go_ret
    exact ⟨ret_bool (by simp [stB]; omega), rfl⟩
end Go.Proofs.Ytlpalhlihckidaa
