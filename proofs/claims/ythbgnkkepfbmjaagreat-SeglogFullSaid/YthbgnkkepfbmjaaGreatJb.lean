import Derived.Test.YthbgnkkepfbmjaaGreatRows
import Derived.Test.YthbgnkkepfbmjaaGreatJa
import Derived.Deep.RegionWith
import Derived.ProofKit
import Derived.OpenShut
import Derived.ShutString
import Derived.ChangeOld
import Derived.Deep.Slices
import Derived.Deep.Fields
import Derived.ChangeSame
import Derived.Lib.SmallJoins
import Derived.Laws.StructEq
import Derived.Deep.DeepCutAuto
namespace Go.Proofs.YthbgnkkepfbmjaaGreat
open Go.RowKit
set_option maxRecDepth 20000
def inN (b : Int) : Bool := (b == 45) || (b == 46) || (b == 95) || (decide (97 ≤ b) && decide (b ≤ 122)) || (decide (48 ≤ b) && decide (b ≤ 57))

set_option maxHeartbeats 400000 in
theorem inNames_any (b : Int) (w : World) :
    Calls Tryz.prog 172 #[.int .u8 b] w fun e w' => e = .returned (.bool (inN b)) ∧ w = w' := by
  by_cases h1 : b = 45
  · subst h1
    go_enter Tryz.func172, Tryz.ntmps172
    go_wp2
    go_ret
    exact ⟨rfl, rfl⟩
  by_cases h2 : b = 46
  · subst h2
    go_enter Tryz.func172, Tryz.ntmps172
    go_wp2
    go_ret
    exact ⟨rfl, rfl⟩
  by_cases h3 : b = 95
  · subst h3
    go_enter Tryz.func172, Tryz.ntmps172
    go_wp2
    go_ret
    exact ⟨rfl, rfl⟩
  by_cases h4 : 97 ≤ b <;> by_cases h5 : b ≤ 122 <;> by_cases h6 : 48 ≤ b <;> by_cases h7 : b ≤ 57
  all_goals
    try omega
  all_goals
    go_enter Tryz.func172, Tryz.ntmps172
    go_wp2
    go_ret
    exact ⟨ret_bool (by simp [inN, h1, h2, h3] <;> omega), rfl⟩

theorem take_snoc (s : ByteArray) (k : Nat) (h : k < s.size) : s.data.toList.take (k + 1) = s.data.toList.take k ++ [s[k]] := by
  rw [List.take_succ_eq_append_getElem (by simpa using h)]; rfl
def allN (l : List UInt8) : Bool := l.all fun c => inN c.toNat
theorem allN_snoc (l : List UInt8) (c : UInt8) : allN (l ++ [c]) = (allN l && inN c.toNat) := by simp [allN]
theorem allN_false {l l' : List UInt8} (h : allN l = false) : allN (l ++ l') = false := by
  simp only [allN, List.all_append] at *; rw [h]; rfl
def nameB (s : ByteArray) : Bool := decide (1 ≤ s.size) && decide (s.size ≤ 16) && allN s.data.toList

set_option maxHeartbeats 400000 in
theorem name_any (s : ByteArray) (w : World) (hs : s.size ≤ maxLen) :
    Calls Tryz.prog 162 #[.string s] w fun e w' => e = .returned (.bool (nameB s)) ∧ w = w' := by
  unfold maxLen at hs
  by_cases h1 : s.size < 1
  · go_enter Tryz.func162, Tryz.ntmps162
    go_wp2
    go_ret
    exact ⟨by simp [nameB]; omega, rfl⟩
  by_cases h2 : 16 < s.size
  · go_enter Tryz.func162, Tryz.ntmps162
    go_wp2
    go_ret
    exact ⟨by simp [nameB]; omega, rfl⟩
  go_enter Tryz.func162, Tryz.ntmps162
  go_wp2
  go_loop [14] (fun i => ∃ k : Nat, k ≤ s.size ∧ i = .int .i64 k ∧ allN (s.data.toList.take k) = true) (fun i => s.size - (intOf i).toNat)
  case atStart => exact ⟨0, Nat.zero_le _, rfl, rfl⟩
  case round =>
    obtain ⟨k, hk, rfl, ha⟩ := hrel
    have HA := Lib.hid ha; clear ha
    by_cases hlt : k < s.size
    · have hsn := take_snoc s k hlt
      have HS : Hid (allN (s.data.toList.take (k + 1)) = inN s[k].toNat) := by
        show _ = _; rw [hsn, allN_snoc, HA.out]; rfl
      clear hsn
      by_cases hin : inN (s[k].toNat : Int) = true
      · go_wp2_with (go_at_call 172; refine (inNames_any _ _).mono ?_; rintro e w' ⟨rfl, rfl⟩)
        go_round
        case rel => exact ⟨k + 1, by omega, by go_num, by rw [HS.out]; exact hin⟩
        case measure => simp [intOf]; omega
      · have hin' : inN (s[k].toNat : Int) = false := by simpa using hin
        clear hin
        go_wp2_with (go_at_call 172; refine (inNames_any _ _).mono ?_; rintro e w' ⟨rfl, rfl⟩)
        go_ret
        refine ⟨?_, rfl⟩
        have : allN s.data.toList = false := by
          rw [← List.take_append_drop (k+1) s.data.toList]
          exact allN_false (by rw [HS.out]; exact hin')
        simp [nameB, this]
    · have : k = s.size := by omega
      subst this
      go_wp2
      go_ret
      refine ⟨?_, rfl⟩
      have h := HA.out
      rw [List.take_of_length_le (by simp)] at h
      simp [nameB, h]; omega

/-- The document's signs. -/
def signs : ByteArray := ⟨#[97, 98, 99, 100, 101, 102, 103, 104, 105, 106, 107, 108, 109, 110, 111, 112, 113, 114, 115, 116, 117, 118, 119, 120, 121, 122, 48, 49, 50, 51, 52, 53, 54, 55, 56, 57, 45, 46, 95]⟩
theorem signs_size : signs.size = 39 := by decide
def among (l : List UInt8) (c : UInt8) : Bool := l.any fun x => x == c
theorem among_fin : ∀ n : Fin 256, among signs.data.toList ⟨⟨n⟩⟩ = inN ((n : Nat) : Int) := by decide +kernel
theorem among_signs (c : UInt8) : among signs.data.toList c = inN (c.toNat : Int) := by
  obtain ⟨⟨n⟩⟩ := c; exact among_fin n
theorem among_snoc (l : List UInt8) (c x : UInt8) : among (l ++ [c]) x = (among l x || c == x) := by simp [among]

theorem toList_empty {s : ByteArray} (h : s.size < 1) : s.toList = [] := by
  rw [ByteArray.toList_eq]; have : s.data.toList.length = s.size := by simp
  exact List.length_eq_zero_iff.1 (by omega)
theorem toList_not {s : ByteArray} (h : ¬ s.size < 1) : s.toList.isEmpty = false ∧ ¬ s.toList = [] := by
  rw [ByteArray.toList_eq]; have : s.data.toList.length = s.size := by simp
  have : ¬ s.data.toList = [] := fun e => by rw [e] at this; simp at this; omega
  exact ⟨by simpa using this, this⟩

set_option maxHeartbeats 1000000 in
theorem refName_any (s : ByteArray) (w : World) (hs : s.size ≤ maxLen) :
    Calls Tryz.prog 139 #[.string s] w fun e w' => e = .returned (.bool (nameB s)) ∧ Below w.heap.size w w' := by
  unfold maxLen at hs
  by_cases h1 : s.size < 1
  · have h0 := toList_empty h1
    go_enter Tryz.func139, Tryz.ntmps139
    go_wp2
    go_ret
    exact ⟨ret_bool (by simp [nameB]; omega), Below.refl _ _⟩
  have ⟨h0, h00⟩ := toList_not h1
  by_cases h2 : 16 < s.size
  · go_enter Tryz.func139, Tryz.ntmps139
    go_wp2
    go_ret
    exact ⟨ret_bool (by simp [nameB]; omega), Below.refl _ _⟩
  go_enter Tryz.func139, Tryz.ntmps139
  go_wp2
  rw [show (ByteArray.mk #[97, 98, 99, 100, 101, 102, 103, 104, 105, 106, 107, 108, 109, 110, 111, 112, 113, 114, 115, 116, 117, 118, 119, 120, 121, 122, 48, 49, 50, 51, 52, 53, 54, 55, 56, 57, 45, 46, 95]) = signs from rfl]
  have hss := signs_size
  have HSS := Lib.hid hss; clear hss
  have hsg0 : signs.size ≤ 39 := by rw [HSS.out]; decide
  have hsg1 : 39 ≤ signs.size := by rw [HSS.out]; decide
  go_loopw [4] (fun i wr => ∃ k : Nat, k ≤ s.size ∧ i = .int .i64 k ∧ allN (s.data.toList.take k) = true ∧ Below w.heap.size w wr) (fun i _ => s.size - (intOf i).toNat)
  case atStart => exact ⟨0, Nat.zero_le _, rfl, rfl, Below.refl _ _⟩
  case round =>
    obtain ⟨k, hk, rfl, ha, hb⟩ := hrel
    have HA := Lib.hid ha; clear ha
    by_cases hlt : k < s.size
    · go_wp2
      go_loopw [5, 6] (fun t i wr => ∃ j : Nat, j ≤ signs.size ∧ i = .int .i64 j ∧ t = .bool (among (signs.data.toList.take j) s[k]) ∧ Below w.heap.size w wr) (fun _ i _ => signs.size - (intOf i).toNat)
      case atStart => exact ⟨0, Nat.zero_le _, rfl, rfl, hb⟩
      case round =>
        obtain ⟨j, hj, rfl, rfl, hb⟩ := hrel
        by_cases hjl : j < signs.size
        · have i1 : (0 : Int) ≤ (j : Int) := by omega
          have i2 : (j : Int) < (signs.size : Int) := by omega
          have i3 : (0 : Int) ≤ (k : Int) := by omega
          have i4 : (k : Int) < (s.size : Int) := by omega
          have hts := take_snoc signs j hjl
          have HS : Hid (among (signs.data.toList.take (j + 1)) s[k] = (among (signs.data.toList.take j) s[k] || signs[j] == s[k])) := by
            show _ = _; rw [hts, among_snoc]
          clear hts
          by_cases heq : (signs[j].toNat : Int) = (s[k].toNat : Int)
          · have hE : Hid ((signs[j] == s[k]) = true) := by
              show _ = _; rw [beq_iff_eq]; exact UInt8.toNat_inj.1 (by omega)
            have he2 : ((signs[j].toNat : Int) == (s[k].toNat : Int)) = true := by simpa using heq
            clear heq
            go_wp2
            go_quiet (fail)
            go_wp2
            go_roundw
            case rel => exact ⟨j + 1, by omega, by go_num, by rw [HS.out, hE.out]; simp, Below_drewN hb _⟩
            case measure => simp [intOf]; omega
          · have hE : Hid ((signs[j] == s[k]) = false) := by
              show _ = _; rw [beq_eq_false_iff_ne]; intro e; exact heq (by rw [e])
            have he2 : ((signs[j].toNat : Int) == (s[k].toNat : Int)) = false := by simpa using heq
            clear heq
            go_wp2
            go_quiet (fail)
            go_wp2
            go_roundw
            case rel => exact ⟨j + 1, by omega, by go_num, by rw [HS.out, hE.out]; simp, Below_drewN hb _⟩
            case measure => simp [intOf]; omega
        · have hjj : j = signs.size := by omega
          have HJ : Hid (among (signs.data.toList.take j) s[k] = inN (s[k].toNat : Int)) := by
            show _ = _; rw [List.take_of_length_le (by simp; omega)]; exact among_signs _
          clear hjj
          have hsn := take_snoc s k hlt
          have HS : Hid (allN (s.data.toList.take (k + 1)) = inN s[k].toNat) := by
            show _ = _; rw [hsn, allN_snoc, HA.out]; rfl
          clear hsn
          rw [HJ.out]
          by_cases hin : inN (s[k].toNat : Int) = true
          · go_wp2
            go_roundw
            case rel => exact ⟨k + 1, by omega, by go_num, by rw [HS.out]; exact hin, hb⟩
            case measure => simp [intOf]; omega
          · have hin' : inN (s[k].toNat : Int) = false := by simpa using hin
            clear hin
            go_wp2
            go_ret
            refine ⟨ret_bool ?_, hb⟩
            have : allN s.data.toList = false := by
              rw [← List.take_append_drop (k+1) s.data.toList]
              exact allN_false (by rw [HS.out]; exact hin')
            simp [nameB, this]
    · have : k = s.size := by omega
      subst this
      go_wp2
      go_ret
      refine ⟨ret_bool ?_, hb⟩
      have h := HA.out
      rw [List.take_of_length_le (by simp)] at h
      simp [nameB, h]; omega
end Go.Proofs.YthbgnkkepfbmjaaGreat

namespace Go.Proofs.YthbgnkkepfbmjaaGreat
open Go.RowKit

set_option maxRecDepth 20000
structure Sp where
  trace : Int
  id : Int
  parent : Int
  kind : Int
  host : ByteArray
  name : ByteArray
  start : Int
  dur : Int
def Sp.c (s : Sp) : Array Value := #[.int .u64 s.trace, .int .u64 s.id, .int .u64 s.parent, .int .u8 s.kind, .string s.host, .string s.name, .int .i64 s.start, .int .i64 s.dur]
def Sp.v (s : Sp) : Value := .agg #[.int .u64 s.trace, .int .u64 s.id, .int .u64 s.parent, .int .u8 s.kind, .string s.host, .string s.name, .int .i64 s.start, .int .i64 s.dur]

theorem bcell {W w1 : World} (hb : Below W.heap.size W w1) : (∀ b o, b < W.heap.size → w1.cell? ⟨b, o, none⟩ = W.cell? ⟨b, o, none⟩) ∧ (∀ b o, b < W.heap.size → w1.frozen? ⟨b, o, none⟩ = W.frozen? ⟨b, o, none⟩) :=
  ⟨fun b o h => hb.cell (p := ⟨b, o, none⟩) h, fun b o h => hb.frozen (p := ⟨b, o, none⟩) h⟩


/-- Block n holds the span s. -/
def Box (w : World) (n : Nat) (s : Sp) : Prop := n < w.heap.size ∧ ∀ i, i < 8 → w.cell? ⟨n, i, none⟩ = s.c[i]?
theorem Box.below {w w' : World} {n : Nat} {s : Sp} (h : Box w n s) {B : Nat} (hb : Below B w w') (hB : n < B) : Box w' n s :=
  ⟨Nat.lt_of_lt_of_le h.1 hb.size, fun i hi => by rw [hb.cell (p := ⟨n, i, none⟩) hB]; exact h.2 i hi⟩
theorem Box.all {w : World} {n : Nat} {s : Sp} (h : Box w n s) :
    w.cell? ⟨n, 0, none⟩ = some (.int .u64 s.trace) ∧ w.cell? ⟨n, 1, none⟩ = some (.int .u64 s.id) ∧ w.cell? ⟨n, 2, none⟩ = some (.int .u64 s.parent) ∧ w.cell? ⟨n, 3, none⟩ = some (.int .u8 s.kind)
    ∧ w.cell? ⟨n, 4, none⟩ = some (.string s.host) ∧ w.cell? ⟨n, 5, none⟩ = some (.string s.name) ∧ w.cell? ⟨n, 6, none⟩ = some (.int .i64 s.start) ∧ w.cell? ⟨n, 7, none⟩ = some (.int .i64 s.dur) :=
  ⟨h.2 0 (by omega), h.2 1 (by omega), h.2 2 (by omega), h.2 3 (by omega), h.2 4 (by omega), h.2 5 (by omega), h.2 6 (by omega), h.2 7 (by omega)⟩
theorem Box.new (w : World) (s : Sp) (t : TypeId) : Box (w.alloc (.cells s.c t)) w.heap.size s := ⟨by simp, fun i _ => by simp⟩

end Go.Proofs.YthbgnkkepfbmjaaGreat

namespace Go.Proofs.YthbgnkkepfbmjaaGreat
open Go.RowKit Go.Sort

set_option maxRecDepth 20000
def nmB (s : Sp) : Bool := !(s.trace == 0) && !(s.id == 0) && !(s.parent == s.id) && decide (s.kind ≤ 2)
def tmB (s : Sp) : Bool := decide (0 ≤ s.start) && decide (s.start < 1125899906842624) && decide (0 ≤ s.dur) && decide (s.dur ≤ 1125899906842624)
def mayB (s : Sp) : Bool := nmB s && tmB s && nameB s.host && nameB s.name

set_option maxHeartbeats 1000000 in
theorem numbersMay_any (s : Sp) (w : World) : Calls Tryz.prog 160 #[s.v] w fun e w' => e = .returned (.bool (nmB s)) ∧ Below w.heap.size w w' := by
  unfold Sp.v
  by_cases h1 : s.trace = 0
  · go_enter Tryz.func160, Tryz.ntmps160
    go_wp2
    go_ret
    exact ⟨ret_bool (by simp [nmB, h1]), box1 _ _⟩
  by_cases h2 : s.id = 0
  · go_enter Tryz.func160, Tryz.ntmps160
    go_wp2
    go_ret
    exact ⟨ret_bool (by simp [nmB, h2]), box1 _ _⟩
  by_cases h3 : s.parent = s.id
  · go_enter Tryz.func160, Tryz.ntmps160
    go_wp2
    go_ret
    exact ⟨ret_bool (by simp [nmB, h3]), box1 _ _⟩
  have e3 : (s.parent == s.id) = false := by simpa using h3
  go_enter Tryz.func160, Tryz.ntmps160
  go_wp2
  go_ret
  exact ⟨ret_bool (by simp [nmB, bne]), box1 _ _⟩
set_option maxHeartbeats 1000000 in
theorem timesMay_any (s : Sp) (w : World) : Calls Tryz.prog 161 #[s.v] w fun e w' => e = .returned (.bool (tmB s)) ∧ Below w.heap.size w w' := by
  unfold Sp.v
  by_cases h1 : 0 ≤ s.start
  case neg =>
    go_enter Tryz.func161, Tryz.ntmps161
    go_wp2
    go_ret
    exact ⟨ret_bool (by simp [tmB]; omega), box1 _ _⟩
  by_cases h2 : s.start < 1125899906842624
  case neg =>
    go_enter Tryz.func161, Tryz.ntmps161
    go_wp2
    go_ret
    exact ⟨ret_bool (by simp [tmB]; omega), box1 _ _⟩
  by_cases h3 : 0 ≤ s.dur
  case neg =>
    go_enter Tryz.func161, Tryz.ntmps161
    go_wp2
    go_ret
    exact ⟨ret_bool (by simp [tmB]; omega), box1 _ _⟩
  go_enter Tryz.func161, Tryz.ntmps161
  go_wp2
  go_ret
  exact ⟨ret_bool (by simp [tmB, h1, h2, h3]), box1 _ _⟩


set_option maxHeartbeats 1000000 in
theorem may_any (s : Sp) (w : World) (hh : s.host.size ≤ maxLen) (hn : s.name.size ≤ maxLen) : Calls Tryz.prog 132 #[s.v] w fun e w' => e = .returned (.bool (mayB s)) ∧ Below w.heap.size w w' := by
  unfold Sp.v
  have HH := Lib.hid hh; have HN := Lib.hid hn; clear hh hn
  have HB := Lib.hid (box1 w (.cells s.c 126))
  cases h1 : nmB s
  · have HE : Hid (mayB s = false) := by show _ = _; simp [mayB, h1]
    go_enter Tryz.func132, Tryz.ntmps132
    go_wp2_with (go_at_call 160; refine (numbersMay_any s _).mono ?_; rintro e w' ⟨rfl, hb⟩)
    go_ret
    exact ⟨ret_bool HE.out.symm, bel2 HB.out hb⟩
  cases h2 : tmB s
  · have HE : Hid (mayB s = false) := by show _ = _; simp [mayB, h2]
    go_enter Tryz.func132, Tryz.ntmps132
    go_wp2_with (first
      | (go_at_call 160; refine (numbersMay_any s _).mono ?_; rintro e w' ⟨rfl, hb⟩; have hA := (Box.new w s 126).below hb (by simp); obtain ⟨c0, c1, c2, c3, c4, c5, c6, c7⟩ := hA.all; have HA := Lib.hid hA; clear hA; have HB1 := Lib.hid hb; clear hb)
      | (go_at_call 161; refine (timesMay_any s _).mono ?_; rintro e w' ⟨rfl, hb2⟩))
    go_ret
    exact ⟨ret_bool HE.out.symm, bel2 (bel2 HB.out HB1.out) hb2⟩
  cases h3 : nameB s.host
  · have HE : Hid (mayB s = false) := by show _ = _; simp [mayB, h3]
    go_enter Tryz.func132, Tryz.ntmps132
    go_wp2_with (first
      | (go_at_call 160; refine (numbersMay_any s _).mono ?_; rintro e w' ⟨rfl, hb⟩; have hA := (Box.new w s 126).below hb (by simp); obtain ⟨c0, c1, c2, c3, c4, c5, c6, c7⟩ := hA.all; have HA := Lib.hid hA; clear hA; have HB1 := Lib.hid hb; clear hb)
      | (go_at_call 161; refine (timesMay_any s _).mono ?_; rintro e w' ⟨rfl, hb2⟩; clear c0 c1 c2 c3 c4 c5 c6 c7; have hA := HA.out.below hb2 HA.out.1; obtain ⟨_, _, _, _, c4, c5, _, _⟩ := hA.all; clear hA)
      | (go_at_call 162; refine (name_any _ _ HH.out).mono ?_; rintro e w' ⟨rfl, rfl⟩))
    go_ret
    exact ⟨ret_bool HE.out.symm, bel2 (bel2 HB.out HB1.out) hb2⟩
  have HE : Hid (mayB s = nameB s.name) := by show _ = _; simp [mayB, h1, h2, h3]
  go_enter Tryz.func132, Tryz.ntmps132
  go_wp2_with (first
      | (go_at_call 160; refine (numbersMay_any s _).mono ?_; rintro e w' ⟨rfl, hb⟩; have hA := (Box.new w s 126).below hb (by simp); obtain ⟨c0, c1, c2, c3, c4, c5, c6, c7⟩ := hA.all; have HA := Lib.hid hA; clear hA; have HB1 := Lib.hid hb; clear hb)
      | (go_at_call 161; refine (timesMay_any s _).mono ?_; rintro e w' ⟨rfl, hb2⟩; clear c0 c1 c2 c3 c4 c5 c6 c7; have hA := HA.out.below hb2 HA.out.1; obtain ⟨_, _, _, _, c4, c5, _, _⟩ := hA.all; clear hA)
      | (go_at_call_of 162 (Value.string s.host); refine (name_any _ _ HH.out).mono ?_; rintro e w' ⟨rfl, rfl⟩)
      | (go_at_call_of 162 (Value.string s.name); refine (name_any _ _ HN.out).mono ?_; rintro e w' ⟨rfl, rfl⟩))
  go_ret
  exact ⟨ret_bool HE.out.symm, bel2 (bel2 HB.out HB1.out) hb2⟩
set_option maxHeartbeats 2000000 in
theorem refMay_any (s : Sp) (w : World) (hh : s.host.size ≤ maxLen) (hn : s.name.size ≤ maxLen) (hk : 0 ≤ s.kind) : Calls Tryz.prog 115 #[s.v] w fun e w' => e = .returned (.bool (mayB s)) ∧ Below w.heap.size w w' := by
  unfold Sp.v
  have HH := Lib.hid hh; have HN := Lib.hid hn; clear hh hn
  cases h1 : (s.trace == 0)
  case true =>
    have HE : Hid (mayB s = false) := by show _ = _; simp [mayB, nmB, h1]
    go_enter Tryz.func115, Tryz.ntmps115
    go_wp2
    go_ret
    exact ⟨ret_bool HE.out.symm, box1 _ _⟩
  cases h2 : (s.id == 0)
  case true =>
    have HE : Hid (mayB s = false) := by show _ = _; simp [mayB, nmB, h2]
    go_enter Tryz.func115, Tryz.ntmps115
    go_wp2
    go_ret
    exact ⟨ret_bool HE.out.symm, box1 _ _⟩
  cases h3 : (s.parent == s.id)
  case true =>
    have HE : Hid (mayB s = false) := by show _ = _; simp [mayB, nmB, h3]
    go_enter Tryz.func115, Tryz.ntmps115
    go_wp2
    go_ret
    exact ⟨ret_bool HE.out.symm, box1 _ _⟩
  by_cases h4 : 2 < s.kind
  · have HE : Hid (mayB s = false) := by
      show _ = _
      have : ¬ s.kind ≤ 2 := by omega
      simp [mayB, nmB, this]
    have k0 : (s.kind == 0) = false := by simp; omega
    have k1 : (s.kind == 1) = false := by simp; omega
    have k2 : (s.kind == 2) = false := by simp; omega
    have k0' : (s.kind != 0) = true := by simp; omega
    have k1' : (s.kind != 1) = true := by simp; omega
    have k2' : (s.kind != 2) = true := by simp; omega
    go_enter Tryz.func115, Tryz.ntmps115
    go_wp2
    go_ret
    exact ⟨ret_bool HE.out.symm, box1 _ _⟩
  have HM : Hid (mayB s = (tmB s && nameB s.host && nameB s.name)) := by
    show _ = _
    have : s.kind ≤ 2 := by omega
    simp [mayB, nmB, h1, h2, h3, this]
  have hkk : s.kind = 0 ∨ s.kind = 1 ∨ s.kind = 2 := by omega
  clear hk h4
  have hkk : ((s.kind == 0) = true ∧ (s.kind != 0) = false) ∨ ((s.kind == 0) = false ∧ (s.kind != 0) = true ∧ (s.kind == 1) = true ∧ (s.kind != 1) = false) ∨ ((s.kind == 0) = false ∧ (s.kind != 0) = true ∧ (s.kind == 1) = false ∧ (s.kind != 1) = true ∧ (s.kind == 2) = true ∧ (s.kind != 2) = false) := by
    rcases hkk with h | h | h <;> simp [h]
  by_cases t1 : s.start < 0
  · have HE : Hid (mayB s = false) := by
      rw [Hid, HM.out]
      have : tmB s = false := by simp [tmB]; omega
      simp [this]
    rcases hkk with ⟨_, _⟩ | ⟨_, _, _, _⟩ | ⟨_, _, _, _, _, _⟩
    all_goals
      go_enter Tryz.func115, Tryz.ntmps115
      go_wp2
      go_ret
      exact ⟨ret_bool HE.out.symm, box1 _ _⟩
  by_cases t2 : 1125899906842623 < s.start
  · have HE : Hid (mayB s = false) := by
      rw [Hid, HM.out]
      have : tmB s = false := by simp [tmB]; omega
      simp [this]
    rcases hkk with ⟨_, _⟩ | ⟨_, _, _, _⟩ | ⟨_, _, _, _, _, _⟩
    all_goals
      go_enter Tryz.func115, Tryz.ntmps115
      go_wp2
      go_ret
      exact ⟨ret_bool HE.out.symm, box1 _ _⟩
  by_cases t3 : s.dur < 0
  · have HE : Hid (mayB s = false) := by
      rw [Hid, HM.out]
      have : tmB s = false := by simp [tmB]; omega
      simp [this]
    rcases hkk with ⟨_, _⟩ | ⟨_, _, _, _⟩ | ⟨_, _, _, _, _, _⟩
    all_goals
      go_enter Tryz.func115, Tryz.ntmps115
      go_wp2
      go_ret
      exact ⟨ret_bool HE.out.symm, box1 _ _⟩
  by_cases t4 : 1125899906842624 < s.dur
  · have HE : Hid (mayB s = false) := by
      rw [Hid, HM.out]
      have : tmB s = false := by simp [tmB]; omega
      simp [this]
    rcases hkk with ⟨_, _⟩ | ⟨_, _, _, _⟩ | ⟨_, _, _, _, _, _⟩
    all_goals
      go_enter Tryz.func115, Tryz.ntmps115
      go_wp2
      go_ret
      exact ⟨ret_bool HE.out.symm, box1 _ _⟩
  have HT : Hid (mayB s = (nameB s.host && nameB s.name)) := by
    rw [Hid, HM.out]
    have : tmB s = true := by simp [tmB]; omega
    simp [this]
  cases h5 : nameB s.host
  · have HE : Hid (mayB s = false) := by rw [Hid, HT.out, h5]; rfl
    rcases hkk with ⟨_, _⟩ | ⟨_, _, _, _⟩ | ⟨_, _, _, _, _, _⟩
    all_goals
      go_enter Tryz.func115, Tryz.ntmps115
      go_wp2_with (go_at_call 139; refine (refName_any _ _ HH.out).mono ?_; rintro e w' ⟨rfl, hb⟩)
      go_ret
      exact ⟨ret_bool HE.out.symm, bel2 (box1 _ _) hb⟩
  · have HE : Hid (mayB s = nameB s.name) := by rw [Hid, HT.out, h5]; rfl
    rcases hkk with ⟨_, _⟩ | ⟨_, _, _, _⟩ | ⟨_, _, _, _, _, _⟩
    all_goals
      go_enter Tryz.func115, Tryz.ntmps115
      go_wp2_with (first
        | (go_at_call_of 139 (Value.string s.host); refine (refName_any _ _ HH.out).mono ?_; rintro e w' ⟨rfl, hb⟩; have hA := (Box.new w s 126).below hb (by simp); obtain ⟨c0, c1, c2, c3, c4, c5, c6, c7⟩ := hA.all; clear hA; have HB1 := Lib.hid hb; clear hb)
        | (go_at_call_of 139 (Value.string s.name); refine (refName_any _ _ HN.out).mono ?_; rintro e w' ⟨rfl, hb2⟩))
      go_ret
      exact ⟨ret_bool HE.out.symm, bel2 (bel2 (box1 _ _) HB1.out) hb2⟩

theorem mayB_times {s : Sp} (h : mayB s = true) : 0 ≤ s.start ∧ s.start < 1125899906842624 ∧ 0 ≤ s.dur ∧ s.dur ≤ 1125899906842624 := by
  simp [mayB, tmB] at h; omega
theorem may_is {s : Sp} {b : Bool} (h : mayB s = b) (w : World) (hh : s.host.size ≤ maxLen) (hn : s.name.size ≤ maxLen) : Calls Tryz.prog 132 #[s.v] w fun e w' => e = .returned (.bool b) ∧ Below w.heap.size w w' := by
  subst h; exact may_any s w hh hn
theorem refMay_is {s : Sp} {b : Bool} (h : mayB s = b) (w : World) (hh : s.host.size ≤ maxLen) (hn : s.name.size ≤ maxLen) (hk : 0 ≤ s.kind) : Calls Tryz.prog 115 #[s.v] w fun e w' => e = .returned (.bool b) ∧ Below w.heap.size w w' := by
  subst h; exact refMay_any s w hh hn hk

end Go.Proofs.YthbgnkkepfbmjaaGreat

namespace Go.Proofs.YthbgnkkepfbmjaaGreat
open Go.ChangeShapes Go.WideShapes Go.ChangeAt Go.RowKit Go.Deep Go.Joins

set_option maxRecDepth 20000
def U64 (x : Int) : Prop := 0 ≤ x ∧ x < 18446744073709551616
def I64 (x : Int) : Prop := -9223372036854775808 ≤ x ∧ x < 9223372036854775808
def U8 (x : Int) : Prop := 0 ≤ x ∧ x < 256
structure Sp.Ok (s : Sp) : Prop where
  trace : U64 s.trace
  id : U64 s.id
  parent : U64 s.parent
  kind : U8 s.kind
  host : s.host.size ≤ maxLen
  name : s.name.size ≤ maxLen
  start : I64 s.start
  dur : I64 s.dur

theorem cells_sp : Tryz.prog.cellsOf 126 = 8 := by kernel_rfl
theorem cells_u64 : Tryz.prog.cellsOf 69 = 1 := by kernel_rfl
theorem cells_i64 : Tryz.prog.cellsOf 2 = 1 := by kernel_rfl
theorem cells_u8 : Tryz.prog.cellsOf 5 = 1 := by kernel_rfl
theorem cells_str : Tryz.prog.cellsOf 9 = 1 := by kernel_rfl
section
variable {H : Type} {enc : TypeId × Value → H} {w : World} {base : Nat} {spare : Nat → Bool} {held : Bool}
theorem one_int {P : Program} {t : TypeId} {k : IntKind} {n : Nat} {v : Value} {xs : List (DataW H × List MemPlace)} {i : Nat} (hi : i < xs.length) (ht : P.underlying t = some (.int k))
    (h : DataW.trod enc P w base spare held n t [v] = xs[i]?) : ∃ x, v = .int k x ∧ (Lit.int k x).wf = true := by
  rw [List.getElem?_eq_getElem hi] at h
  obtain ⟨x, hx, _, hw⟩ := DataW.trod_int ht h
  simp at hx
  exact ⟨x, hx, hw⟩
theorem one_string {P : Program} {t : TypeId} {n : Nat} {v : Value} {xs : List (DataW H × List MemPlace)} {i : Nat} (hi : i < xs.length) (ht : P.underlying t = some .string)
    (h : DataW.trod enc P w base spare held n t [v] = xs[i]?) : ∃ s : ByteArray, v = .string s ∧ s.size ≤ maxLen := by
  rw [List.getElem?_eq_getElem hi] at h
  obtain ⟨x, hx, _, hw⟩ := DataW.trod_string ht h
  simp at hx
  exact ⟨x, hx, hw⟩
set_option maxRecDepth 20000 in
theorem sp_cells {fuel : Nat} {cs : List Value} {x : DataW H × List MemPlace} (h : DataW.trod enc Tryz.prog w base spare held fuel 126 cs = some x) :
    ∃ s : Sp, s.Ok ∧ cs = s.c.toList := by
  obtain ⟨xs, n, _, hx, hcl, hlen, hg⟩ := DataW.trod_struct Tryz.underlying126 h
  rw [cells_sp] at hcl
  match cs, hcl with
  | [c0, c1, c2, c3, c4, c5, c6, c7], _ =>
    have hl : xs.length = 8 := hlen
    have g0 : DataW.trod enc Tryz.prog w base spare held n 69 [c0] = xs[0]? := by simpa [cells_u64] using hg 0 _ rfl
    have g1 : DataW.trod enc Tryz.prog w base spare held n 69 [c1] = xs[1]? := by simpa [cells_u64] using hg 1 _ rfl
    have g2 : DataW.trod enc Tryz.prog w base spare held n 69 [c2] = xs[2]? := by simpa [cells_u64] using hg 2 _ rfl
    have g3 : DataW.trod enc Tryz.prog w base spare held n 5 [c3] = xs[3]? := by simpa [cells_u8] using hg 3 _ rfl
    have g4 : DataW.trod enc Tryz.prog w base spare held n 9 [c4] = xs[4]? := by simpa [cells_str] using hg 4 _ rfl
    have g5 : DataW.trod enc Tryz.prog w base spare held n 9 [c5] = xs[5]? := by simpa [cells_str] using hg 5 _ rfl
    have g6 : DataW.trod enc Tryz.prog w base spare held n 2 [c6] = xs[6]? := by simpa [cells_i64] using hg 6 _ rfl
    have g7 : DataW.trod enc Tryz.prog w base spare held n 2 [c7] = xs[7]? := by simpa [cells_i64] using hg 7 _ rfl
    obtain ⟨x0, rfl, h0⟩ := one_int (by omega) Tryz.underlying69 g0
    obtain ⟨x1, rfl, h1⟩ := one_int (by omega) Tryz.underlying69 g1
    obtain ⟨x2, rfl, h2⟩ := one_int (by omega) Tryz.underlying69 g2
    obtain ⟨x3, rfl, h3⟩ := one_int (by omega) Tryz.underlying5 g3
    obtain ⟨x4, rfl, h4⟩ := one_string (by omega) Tryz.underlying9 g4
    obtain ⟨x5, rfl, h5⟩ := one_string (by omega) Tryz.underlying9 g5
    obtain ⟨x6, rfl, h6⟩ := one_int (by omega) Tryz.underlying2 g6
    obtain ⟨x7, rfl, h7⟩ := one_int (by omega) Tryz.underlying2 g7
    exact ⟨⟨x0, x1, x2, x3, x4, x5, x6, x7⟩, ⟨u64_of h0, u64_of h1, u64_of h2, u8_of h3, h4, h5, i64_of h6, i64_of h7⟩, rfl⟩

set_option maxRecDepth 20000 in
/-- A span that came in. -/
theorem open_sp {b0 : Nat} {r : Reach} {v : Value} {d : DataW H} {p : List MemPlace} (hv : Value.okWide Tryz.prog w r b0 126 v) (h : DataW.Trod enc Tryz.prog w base spare held 126 v d p) :
    ∃ s : Sp, s.Ok ∧ v = s.v := by
  obtain ⟨cs, rfl, hsz⟩ := okWide_struct Tryz.underlying126 hv
  obtain ⟨fuel, hf⟩ := h
  obtain ⟨s, ho, hc⟩ := sp_cells hf
  refine ⟨s, ho, ?_⟩
  have : cs = s.c := by rw [← Array.toList_inj]; simpa [Value.cells] using hc
  rw [this]; rfl

/-- Block b holds, from place off on, the spans L, eight cells each. -/
def SpRow (w : World) (b off : Nat) (L : List Sp) : Prop := ∀ i (h : i < L.length), ∀ j, j < 8 → w.cell? ⟨b, off + i * 8 + j, none⟩ = (L[i]).c[j]?
/-- The slice v reads as the spans L. -/
def Spans (w : World) (v : Value) (L : List Sp) : Prop :=
  ∃ a cap, v = .slice a L.length cap ∧ L.length ≤ cap ∧ cap ≤ maxLen ∧ (0 < L.length → ∃ b off, a = some ⟨b, off, none⟩ ∧ b < w.heap.size ∧ SpRow w b off L)
deriving instance Inhabited for Sp
set_option maxRecDepth 20000 in
theorem open_spans {b0 : Nat} {r : Reach} {t : TypeId} (ht : Tryz.prog.underlying t = some (.slice 126)) {v : Value} {d : DataW H} {p : List MemPlace} (hv : Value.okWide Tryz.prog w r b0 t v) (h : DataW.Trod enc Tryz.prog w base spare held t v d p) :
    ∃ L : List Sp, (∀ s ∈ L, s.Ok) ∧ Spans w v L := by
  obtain ⟨a, len, cap, rfl⟩ := okWide_slice ht hv
  obtain ⟨fuel, hf⟩ := h
  rcases open_slice ht hf with ⟨hcs, _⟩ | ⟨a', len', cap', m, n, D, Pl, hcs, hb, hl, hm, hmm, hx, hi⟩
  · simp [Value.cells] at hcs
    obtain ⟨rfl, rfl, rfl⟩ := hcs
    exact ⟨[], by simp, none, 0, rfl, Nat.le_refl _, by decide, fun h => by simp at h⟩
  simp [Value.cells] at hcs
  obtain ⟨rfl, rfl, rfl⟩ := hcs
  have hlm : len ≤ m := by rw [hmm]; split <;> omega
  rw [cells_sp] at hi
  obtain ⟨S, hS⟩ := choose_lt (α := Sp) (n := len) (p := fun i s => s.Ok ∧ w.cells? base (a'.add (i * 8)) 8 = some s.c.toList) (fun i hil => by
    obtain ⟨cs', h1, h2⟩ := hi i (by omega)
    obtain ⟨s, ho, rfl⟩ := sp_cells h2
    exact ⟨s, ho, h1⟩)
  have hcell : ∀ i, i < len → ∀ j, j < 8 → w.cell? (a'.add (i * 8 + j)) = (S i).c[j]? := fun i hil j hj => by
    have := (World.cells?_some (hS i hil).2).2.2 j hj
    rw [Go.Deep.add_add] at this
    simpa using this
  refine ⟨(List.range len).map S, fun s hs => ?_, some a', cap, by simp, by simpa using hl, hm, fun h0 => ?_⟩
  · obtain ⟨i, hir, rfl⟩ := List.mem_map.1 hs
    exact (hS i (by simpa using hir)).1
  · have h0' : 0 < len := by simpa using h0
    have h00 : w.cell? a' = some (.int .u64 (S 0).trace) := by simpa [Addr.add, Sp.c] using hcell 0 h0' 0 (by omega)
    have hspot := World.cell?_spot h00
    obtain ⟨b, off, sp⟩ := a'
    simp at hspot
    subst hspot
    refine ⟨b, off, rfl, block_lt_of_cell h00, fun i hil j hj => ?_⟩
    have hil' : i < len := by simpa using hil
    have := hcell i hil' j hj
    have e : (⟨b, off, none⟩ : Addr).add (i * 8 + j) = ⟨b, off + i * 8 + j, none⟩ := by
      unfold Addr.add; split
      · congr 1; omega
      · simp [Nat.add_assoc]
    rw [e] at this
    simpa using this
end
end Go.Proofs.YthbgnkkepfbmjaaGreat

namespace Go.Proofs.YthbgnkkepfbmjaaGreat
open Go.RowKit

set_option maxRecDepth 20000
def flatL (L : List Sp) : List Value := L.flatMap fun s => s.c.toList
theorem c_len (s : Sp) : s.c.toList.length = 8 := rfl
theorem flatL_nil : flatL [] = [] := rfl
theorem flatL_cons (s : Sp) (L : List Sp) : flatL (s :: L) = s.c.toList ++ flatL L := rfl
theorem flatL_append (L M : List Sp) : flatL (L ++ M) = flatL L ++ flatL M := by simp [flatL]
theorem flatL_length : ∀ L : List Sp, (flatL L).length = L.length * 8
  | [] => rfl
  | s :: L => by rw [flatL_cons, List.length_append, flatL_length L, c_len]; simp; omega
theorem flatL_get : ∀ (L : List Sp) (i : Nat) (h : i < L.length) (j : Nat), j < 8 → (flatL L)[i * 8 + j]? = (L[i]).c[j]?
  | [], i, h, _, _ => absurd h (by simp)
  | s :: L, 0, _, j, hj => by
    rw [flatL_cons, List.getElem?_append_left (by rw [c_len]; omega)]
    simp
  | s :: L, i + 1, h, j, hj => by
    rw [flatL_cons, List.getElem?_append_right (by rw [c_len]; omega), c_len, show (i + 1) * 8 + j - 8 = i * 8 + j by omega]
    exact flatL_get L i (by simpa using h) j hj
theorem flatL_take : ∀ (L : List Sp) (k : Nat), (flatL L).take (k * 8) = flatL (L.take k)
  | [], k => by simp [flatL]
  | s :: L, 0 => by simp [flatL]
  | s :: L, k + 1 => by
    rw [flatL_cons, List.take_succ_cons, flatL_cons, ← flatL_take L k, List.take_append, List.take_of_length_le (by rw [c_len]; omega), c_len]
    congr 2; omega
theorem flatL_drop : ∀ (L : List Sp) (k : Nat), (flatL L).drop (k * 8) = flatL (L.drop k)
  | [], k => by simp [flatL]
  | s :: L, 0 => by simp
  | s :: L, k + 1 => by
    rw [flatL_cons, List.drop_succ_cons, ← flatL_drop L k, List.drop_append, List.drop_of_length_le (by rw [c_len]; omega), c_len]
    simp only [List.nil_append]; congr 1; omega
theorem flatL_one (L : List Sp) : ∀ u ∈ flatL L, u.oneCell' = true := by
  intro u hu
  obtain ⟨s, _, h⟩ := List.mem_flatMap.1 hu
  simp [Sp.c] at h
  rcases h with rfl | rfl | rfl | rfl | rfl | rfl | rfl | rfl <;> rfl

/-- What came in, as cells that are read. -/
theorem Spans.rd {w : World} {v : Value} {L : List Sp} (h : Spans w v L) : ∃ a c, v = .slice a L.length c ∧ L.length ≤ c ∧ c ≤ maxLen ∧ Rd w w.heap.size a (flatL L) := by
  obtain ⟨a, c, rfl, h1, h2, h3⟩ := h
  refine ⟨a, c, rfl, h1, h2, fun h0 => ?_⟩
  rw [flatL_length] at h0
  obtain ⟨b, off, rfl, hb, hr⟩ := h3 (by omega)
  refine ⟨b, off, rfl, hb, fun j u hu => ?_⟩
  have hj : j < (flatL L).length := by
    rcases Nat.lt_or_ge j (flatL L).length with h | h
    · exact h
    · rw [List.getElem?_eq_none h] at hu; cases hu
  rw [flatL_length] at hj
  have e : j = j / 8 * 8 + j % 8 := by omega
  have hi : j / 8 < L.length := by omega
  have := hr (j / 8) hi (j % 8) (by omega)
  rw [← flatL_get L (j / 8) hi (j % 8) (by omega), ← e, hu] at this
  rw [← this]; congr 2; omega

/-- One element of what is read. -/
def Elem (w : World) (b o : Nat) (s : Sp) : Prop :=
  w.cell? ⟨b, o, none⟩ = some (.int .u64 s.trace) ∧ w.cell? ⟨b, o + 1, none⟩ = some (.int .u64 s.id) ∧ w.cell? ⟨b, o + 2, none⟩ = some (.int .u64 s.parent) ∧ w.cell? ⟨b, o + 3, none⟩ = some (.int .u8 s.kind)
    ∧ w.cell? ⟨b, o + 4, none⟩ = some (.string s.host) ∧ w.cell? ⟨b, o + 5, none⟩ = some (.string s.name) ∧ w.cell? ⟨b, o + 6, none⟩ = some (.int .i64 s.start) ∧ w.cell? ⟨b, o + 7, none⟩ = some (.int .i64 s.dur)
theorem Rd.elem {w : World} {B : Nat} {a : Option Addr} {L : List Sp} (h : Rd w B a (flatL L)) {i : Nat} (hi : i < L.length) : ∃ b off, a = some ⟨b, off, none⟩ ∧ b < B ∧ Elem w b (off + i * 8) L[i] := by
  obtain ⟨b, off, ha, hb, hc⟩ := h (by rw [flatL_length]; omega)
  have key : ∀ j u, j < 8 → (L[i]).c[j]? = some u → w.cell? ⟨b, off + i * 8 + j, none⟩ = some u := fun j u hj hu => by
    have := hc (i * 8 + j) u (by rw [flatL_get L i hi j hj]; exact hu)
    rwa [← Nat.add_assoc] at this
  exact ⟨b, off, ha, hb, key 0 _ (by omega) rfl, key 1 _ (by omega) rfl, key 2 _ (by omega) rfl, key 3 _ (by omega) rfl, key 4 _ (by omega) rfl, key 5 _ (by omega) rfl, key 6 _ (by omega) rfl, key 7 _ (by omega) rfl⟩
end Go.Proofs.YthbgnkkepfbmjaaGreat

namespace Go.Proofs.YthbgnkkepfbmjaaGreat
open Go.RowKit Go.Sort
set_option maxRecDepth 20000
deriving instance DecidableEq for Sp
theorem toList_inj' {a b : ByteArray} (h : a.toList = b.toList) : a = b := by
  rw [ByteArray.toList_eq, ByteArray.toList_eq] at h
  cases a; cases b; simp at h; rw [h]
theorem eql_same (a : Sp) (w : World) : (binOp .eql 126 a.v a.v).run Tryz.prog w = .ok (.bool true) w := by
  unfold Sp.v
  simp [go_sem]
theorem eql_not (a b : Sp) (w : World) (h : a ≠ b) : (binOp .eql 126 a.v b.v).run Tryz.prog w = .ok (.bool false) w := by
  unfold Sp.v
  simp [go_sem]
  intro h1 h2 h3 h4 h5 h6 h7 h8
  apply h
  cases a; cases b
  simp only [Sp.mk.injEq]
  exact ⟨h1, h2, h3, h4, toList_inj' h5, toList_inj' h6, h7, h8⟩


theorem neq_same (a : Sp) (w : World) : (binOp .neq 126 a.v a.v).run Tryz.prog w = .ok (.bool false) w := by
  unfold Sp.v
  simp [go_sem]
theorem neq_not (a b : Sp) (w : World) (h : a ≠ b) : (binOp .neq 126 a.v b.v).run Tryz.prog w = .ok (.bool true) w := by
  unfold Sp.v
  simp [go_sem]
  intro h1 h2 h3 h4 h5 h6 h7 h8
  apply h
  cases a; cases b
  simp only [Sp.mk.injEq]
  exact ⟨h1, h2, h3, h4, toList_inj' h5, toList_inj' h6, h7, h8⟩

end Go.Proofs.YthbgnkkepfbmjaaGreat

