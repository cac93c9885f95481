import Derived.Test.YteaafjkgopmmdaaRows
import Derived.Test.YteaafjkgopmmdaaGc
namespace Go.Proofs.Yteaafjkgopmmdaa
open Go.RowKit
def inN (b : Int) : Bool := (b == 45) || (b == 46) || (b == 95) || (decide (97 ≤ b) && decide (b ≤ 122)) || (decide (48 ≤ b) && decide (b ≤ 57))

set_option maxHeartbeats 400000 in
theorem inNames_any (b : Int) (w : World) :
    Calls Try.prog 49 #[.int .u8 b] w fun e w' => e = .returned (.bool (inN b)) ∧ w = w' := by
  by_cases h1 : b = 45
  · subst h1
    go_enter Try.func49, Try.ntmps49
    go_wp2
    go_ret
    exact ⟨rfl, rfl⟩
  by_cases h2 : b = 46
  · subst h2
    go_enter Try.func49, Try.ntmps49
    go_wp2
    go_ret
    exact ⟨rfl, rfl⟩
  by_cases h3 : b = 95
  · subst h3
    go_enter Try.func49, Try.ntmps49
    go_wp2
    go_ret
    exact ⟨rfl, rfl⟩
  by_cases h4 : 97 ≤ b <;> by_cases h5 : b ≤ 122 <;> by_cases h6 : 48 ≤ b <;> by_cases h7 : b ≤ 57
  all_goals
    try omega
  all_goals
    go_enter Try.func49, Try.ntmps49
    go_wp2
    go_ret
    exact ⟨ret_bool (by simp [inN, h1, h2, h3] <;> omega), rfl⟩

theorem take_snoc (s : ByteArray) (k : Nat) (h : k < s.size) : s.data.toList.take (k + 1) = s.data.toList.take k ++ [s[k]] := by
  rw [List.take_succ_eq_append_getElem (by simpa using h)]; rfl
def allN (l : List UInt8) : Bool := l.all fun c => inN c.toNat
theorem allN_snoc (l : List UInt8) (c : UInt8) : allN (l ++ [c]) = (allN l && inN c.toNat) := by simp [allN]
theorem allN_false {l l' : List UInt8} (h : allN l = false) : allN (l ++ l') = false := by
  simp only [allN, List.all_append] at *; rw [h]; rfl
def nameB (s : ByteArray) : Bool := decide (1 ≤ s.size) && decide (s.size ≤ 16) && allN s.data.toList

set_option maxHeartbeats 400000 in
theorem name_any (s : ByteArray) (w : World) (hs : s.size ≤ maxLen) :
    Calls Try.prog 46 #[.string s] w fun e w' => e = .returned (.bool (nameB s)) ∧ w = w' := by
  unfold maxLen at hs
  by_cases h1 : s.size < 1
  · go_enter Try.func46, Try.ntmps46
    go_wp2
    go_ret
    exact ⟨by simp [nameB]; omega, rfl⟩
  by_cases h2 : 16 < s.size
  · go_enter Try.func46, Try.ntmps46
    go_wp2
    go_ret
    exact ⟨by simp [nameB]; omega, rfl⟩
  go_enter Try.func46, Try.ntmps46
  go_wp2
  go_loop [14] (fun i => ∃ k : Nat, k ≤ s.size ∧ i = .int .i64 k ∧ allN (s.data.toList.take k) = true) (fun i => s.size - (intOf i).toNat)
  case atStart => exact ⟨0, Nat.zero_le _, rfl, rfl⟩
  case round =>
    obtain ⟨k, hk, rfl, ha⟩ := hrel
    have HA := Lib.hid ha; clear ha
    by_cases hlt : k < s.size
    · have hsn := take_snoc s k hlt
      have HS : Hid (allN (s.data.toList.take (k + 1)) = inN s[k].toNat) := by
        show _ = _; rw [hsn, allN_snoc, HA.out]; rfl
      clear hsn
      by_cases hin : inN (s[k].toNat : Int) = true
      · go_wp2_with (go_at_call 49; refine (inNames_any _ _).mono ?_; rintro e w' ⟨rfl, rfl⟩)
        go_round
        case rel => exact ⟨k + 1, by omega, by go_num, by rw [HS.out]; exact hin⟩
        case measure => simp [intOf]; omega
      · have hin' : inN (s[k].toNat : Int) = false := by simpa using hin
        clear hin
        go_wp2_with (go_at_call 49; refine (inNames_any _ _).mono ?_; rintro e w' ⟨rfl, rfl⟩)
        go_ret
        refine ⟨?_, rfl⟩
        have : allN s.data.toList = false := by
          rw [← List.take_append_drop (k+1) s.data.toList]
          exact allN_false (by rw [HS.out]; exact hin')
        simp [nameB, this]
    · have : k = s.size := by omega
      subst this
      go_wp2
      go_ret
      refine ⟨?_, rfl⟩
      have h := HA.out
      rw [List.take_of_length_le (by simp)] at h
      simp [nameB, h]; omega

/-- The document's signs. -/
def signs : ByteArray := ⟨#[97, 98, 99, 100, 101, 102, 103, 104, 105, 106, 107, 108, 109, 110, 111, 112, 113, 114, 115, 116, 117, 118, 119, 120, 121, 122, 48, 49, 50, 51, 52, 53, 54, 55, 56, 57, 45, 46, 95]⟩
theorem signs_size : signs.size = 39 := by decide
def among (l : List UInt8) (c : UInt8) : Bool := l.any fun x => x == c
theorem among_fin : ∀ n : Fin 256, among signs.data.toList ⟨⟨n⟩⟩ = inN ((n : Nat) : Int) := by decide +kernel
theorem among_signs (c : UInt8) : among signs.data.toList c = inN (c.toNat : Int) := by
  obtain ⟨⟨n⟩⟩ := c; exact among_fin n
theorem among_snoc (l : List UInt8) (c x : UInt8) : among (l ++ [c]) x = (among l x || c == x) := by simp [among]

theorem toList_empty {s : ByteArray} (h : s.size < 1) : s.toList = [] := by
  rw [ByteArray.toList_eq]; have : s.data.toList.length = s.size := by simp
  exact List.length_eq_zero_iff.1 (by omega)
theorem toList_not {s : ByteArray} (h : ¬ s.size < 1) : s.toList.isEmpty = false ∧ ¬ s.toList = [] := by
  rw [ByteArray.toList_eq]; have : s.data.toList.length = s.size := by simp
  have : ¬ s.data.toList = [] := fun e => by rw [e] at this; simp at this; omega
  exact ⟨by simpa using this, this⟩

set_option maxHeartbeats 1000000 in
theorem refName_any (s : ByteArray) (w : World) (hs : s.size ≤ maxLen) :
    Calls Try.prog 31 #[.string s] w fun e w' => e = .returned (.bool (nameB s)) ∧ Below w.heap.size w w' := by
  unfold maxLen at hs
  by_cases h1 : s.size < 1
  · have h0 := toList_empty h1
    go_enter Try.func31, Try.ntmps31
    go_wp2
    go_ret
    exact ⟨ret_bool (by simp [nameB]; omega), Below.refl _ _⟩
  have ⟨h0, h00⟩ := toList_not h1
  by_cases h2 : 16 < s.size
  · go_enter Try.func31, Try.ntmps31
    go_wp2
    go_ret
    exact ⟨ret_bool (by simp [nameB]; omega), Below.refl _ _⟩
  go_enter Try.func31, Try.ntmps31
  go_wp2
  rw [show (ByteArray.mk #[97, 98, 99, 100, 101, 102, 103, 104, 105, 106, 107, 108, 109, 110, 111, 112, 113, 114, 115, 116, 117, 118, 119, 120, 121, 122, 48, 49, 50, 51, 52, 53, 54, 55, 56, 57, 45, 46, 95]) = signs from rfl]
  have hss := signs_size
  have HSS := Lib.hid hss; clear hss
  have hsg0 : signs.size ≤ 39 := by rw [HSS.out]; decide
  have hsg1 : 39 ≤ signs.size := by rw [HSS.out]; decide
  go_loopw [4] (fun i wr => ∃ k : Nat, k ≤ s.size ∧ i = .int .i64 k ∧ allN (s.data.toList.take k) = true ∧ Below w.heap.size w wr) (fun i _ => s.size - (intOf i).toNat)
  case atStart => exact ⟨0, Nat.zero_le _, rfl, rfl, Below.refl _ _⟩
  case round =>
    obtain ⟨k, hk, rfl, ha, hb⟩ := hrel
    have HA := Lib.hid ha; clear ha
    by_cases hlt : k < s.size
    · go_wp2
      go_loopw [5, 6] (fun t i wr => ∃ j : Nat, j ≤ signs.size ∧ i = .int .i64 j ∧ t = .bool (among (signs.data.toList.take j) s[k]) ∧ Below w.heap.size w wr) (fun _ i _ => signs.size - (intOf i).toNat)
      case atStart => exact ⟨0, Nat.zero_le _, rfl, rfl, hb⟩
      case round =>
        obtain ⟨j, hj, rfl, rfl, hb⟩ := hrel
        by_cases hjl : j < signs.size
        · have i1 : (0 : Int) ≤ (j : Int) := by omega
          have i2 : (j : Int) < (signs.size : Int) := by omega
          have i3 : (0 : Int) ≤ (k : Int) := by omega
          have i4 : (k : Int) < (s.size : Int) := by omega
          have hts := take_snoc signs j hjl
          have HS : Hid (among (signs.data.toList.take (j + 1)) s[k] = (among (signs.data.toList.take j) s[k] || signs[j] == s[k])) := by
            show _ = _; rw [hts, among_snoc]
          clear hts
          by_cases heq : (signs[j].toNat : Int) = (s[k].toNat : Int)
          · have hE : Hid ((signs[j] == s[k]) = true) := by
              show _ = _; rw [beq_iff_eq]; exact UInt8.toNat_inj.1 (by omega)
            have he2 : ((signs[j].toNat : Int) == (s[k].toNat : Int)) = true := by simpa using heq
            clear heq
            go_wp2
            go_quiet (fail)
            go_wp2
            go_roundw
            case rel => exact ⟨j + 1, by omega, by go_num, by rw [HS.out, hE.out]; simp, Below_drewN hb _⟩
            case measure => simp [intOf]; omega
          · have hE : Hid ((signs[j] == s[k]) = false) := by
              show _ = _; rw [beq_eq_false_iff_ne]; intro e; exact heq (by rw [e])
            have he2 : ((signs[j].toNat : Int) == (s[k].toNat : Int)) = false := by simpa using heq
            clear heq
            go_wp2
            go_quiet (fail)
            go_wp2
            go_roundw
            case rel => exact ⟨j + 1, by omega, by go_num, by rw [HS.out, hE.out]; simp, Below_drewN hb _⟩
            case measure => simp [intOf]; omega
        · have hjj : j = signs.size := by omega
          have HJ : Hid (among (signs.data.toList.take j) s[k] = inN (s[k].toNat : Int)) := by
            show _ = _; rw [List.take_of_length_le (by simp; omega)]; exact among_signs _
          clear hjj
          have hsn := take_snoc s k hlt
          have HS : Hid (allN (s.data.toList.take (k + 1)) = inN s[k].toNat) := by
            show _ = _; rw [hsn, allN_snoc, HA.out]; rfl
          clear hsn
          rw [HJ.out]
          by_cases hin : inN (s[k].toNat : Int) = true
          · go_wp2
            go_roundw
            case rel => exact ⟨k + 1, by omega, by go_num, by rw [HS.out]; exact hin, hb⟩
            case measure => simp [intOf]; omega
          · have hin' : inN (s[k].toNat : Int) = false := by simpa using hin
            clear hin
            go_wp2
            go_ret
            refine ⟨ret_bool ?_, hb⟩
            have : allN s.data.toList = false := by
              rw [← List.take_append_drop (k+1) s.data.toList]
              exact allN_false (by rw [HS.out]; exact hin')
            simp [nameB, this]
    · have : k = s.size := by omega
      subst this
      go_wp2
      go_ret
      refine ⟨ret_bool ?_, hb⟩
      have h := HA.out
      rw [List.take_of_length_le (by simp)] at h
      simp [nameB, h]; omega
end Go.Proofs.Yteaafjkgopmmdaa

namespace Go.Proofs.Yteaafjkgopmmdaa
open Go.RowKit

structure Sp where
  trace : Int
  id : Int
  parent : Int
  kind : Int
  host : ByteArray
  name : ByteArray
  start : Int
  dur : Int
def Sp.c (s : Sp) : Array Value := #[.int .u64 s.trace, .int .u64 s.id, .int .u64 s.parent, .int .u8 s.kind, .string s.host, .string s.name, .int .i64 s.start, .int .i64 s.dur]
def Sp.v (s : Sp) : Value := .agg #[.int .u64 s.trace, .int .u64 s.id, .int .u64 s.parent, .int .u8 s.kind, .string s.host, .string s.name, .int .i64 s.start, .int .i64 s.dur]

theorem bcell {W w1 : World} (hb : Below W.heap.size W w1) : (∀ b o, b < W.heap.size → w1.cell? ⟨b, o, none⟩ = W.cell? ⟨b, o, none⟩) ∧ (∀ b o, b < W.heap.size → w1.frozen? ⟨b, o, none⟩ = W.frozen? ⟨b, o, none⟩) :=
  ⟨fun b o h => hb.cell (p := ⟨b, o, none⟩) h, fun b o h => hb.frozen (p := ⟨b, o, none⟩) h⟩


/-- Block n holds the span s. -/
def Box (w : World) (n : Nat) (s : Sp) : Prop := n < w.heap.size ∧ ∀ i, i < 8 → w.cell? ⟨n, i, none⟩ = s.c[i]?
theorem Box.below {w w' : World} {n : Nat} {s : Sp} (h : Box w n s) {B : Nat} (hb : Below B w w') (hB : n < B) : Box w' n s :=
  ⟨Nat.lt_of_lt_of_le h.1 hb.size, fun i hi => by rw [hb.cell (p := ⟨n, i, none⟩) hB]; exact h.2 i hi⟩
theorem Box.all {w : World} {n : Nat} {s : Sp} (h : Box w n s) :
    w.cell? ⟨n, 0, none⟩ = some (.int .u64 s.trace) ∧ w.cell? ⟨n, 1, none⟩ = some (.int .u64 s.id) ∧ w.cell? ⟨n, 2, none⟩ = some (.int .u64 s.parent) ∧ w.cell? ⟨n, 3, none⟩ = some (.int .u8 s.kind)
    ∧ w.cell? ⟨n, 4, none⟩ = some (.string s.host) ∧ w.cell? ⟨n, 5, none⟩ = some (.string s.name) ∧ w.cell? ⟨n, 6, none⟩ = some (.int .i64 s.start) ∧ w.cell? ⟨n, 7, none⟩ = some (.int .i64 s.dur) :=
  ⟨h.2 0 (by omega), h.2 1 (by omega), h.2 2 (by omega), h.2 3 (by omega), h.2 4 (by omega), h.2 5 (by omega), h.2 6 (by omega), h.2 7 (by omega)⟩
theorem Box.new (w : World) (s : Sp) (t : TypeId) : Box (w.alloc (.cells s.c t)) w.heap.size s := ⟨by simp, fun i _ => by simp⟩

end Go.Proofs.Yteaafjkgopmmdaa

