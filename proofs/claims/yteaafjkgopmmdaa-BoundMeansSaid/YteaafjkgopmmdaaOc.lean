import Derived.Test.YteaafjkgopmmdaaOa
import Derived.Test.YteaafjkgopmmdaaGc
import Derived.Deep.RegionWith
namespace Go.Proofs.Yteaafjkgopmmdaa
open Go.RowKit Go.Sort
def numI (x y : Bool) : Int := if x then -1 else if y then 1 else 0
theorem numI_c3 (x y : Int) : numI (decide (x < y)) (decide (y < x)) = c3 x y := by
  simp [numI, c3]

theorem lexI_step (x y : ByteArray) (k : Nat) (h1 : k < x.size) (h2 : k < y.size) :
    lexI (x.data.toList.drop k) (y.data.toList.drop k) = if x[k] < y[k] then -1 else if y[k] < x[k] then 1 else lexI (x.data.toList.drop (k + 1)) (y.data.toList.drop (k + 1)) := by
  rw [List.drop_eq_getElem_cons (l := x.data.toList) (by simpa using h1), List.drop_eq_getElem_cons (l := y.data.toList) (by simpa using h2)]
  rfl
theorem lexI_end (x y : ByteArray) (k : Nat) (hx : k ≤ x.size) (_hy : k ≤ y.size) (h : ¬ (k < x.size ∧ k < y.size)) :
    lexI (x.data.toList.drop k) (y.data.toList.drop k) = if x.size < y.size then -1 else if y.size < x.size then 1 else 0 := by
  by_cases h1 : k < x.size
  · have : y.data.toList.drop k = [] := List.drop_eq_nil_of_le (by simp; omega)
    rw [this, List.drop_eq_getElem_cons (by simpa using h1), if_neg (by omega), if_pos (by omega)]; rfl
  · have : x.data.toList.drop k = [] := List.drop_eq_nil_of_le (by simp; omega)
    rw [this]
    by_cases h2 : k < y.size
    · rw [List.drop_eq_getElem_cons (by simpa using h2), if_pos (by omega)]; rfl
    · have : y.data.toList.drop k = [] := List.drop_eq_nil_of_le (by simp; omega)
      rw [this, if_neg (by omega), if_neg (by omega)]; rfl

set_option maxHeartbeats 1000000 in
theorem refText_any (x y : ByteArray) (w : World) (hx : x.size ≤ maxLen) (_hy : y.size ≤ maxLen) :
    Calls Try.prog 38 #[.string x, .string y] w fun e w' => e = .returned (.int .i64 (lexS x y)) ∧ Below w.heap.size w w' := by
  unfold maxLen at hx
  go_enter Try.func38, Try.ntmps38
  go_wp2
  go_loopw [5] (fun i wr => ∃ k : Nat, k ≤ x.size ∧ k ≤ y.size ∧ i = .int .i64 k ∧ lexS x y = lexI (x.data.toList.drop k) (y.data.toList.drop k) ∧ Below w.heap.size w wr) (fun i _ => x.size - (intOf i).toNat)
  case atStart => exact ⟨0, Nat.zero_le _, Nat.zero_le _, rfl, rfl, Below.refl _ _⟩
  case round =>
    obtain ⟨k, hk, hk', rfl, hl, hb⟩ := hrel
    have HL := Lib.hid hl; clear hl
    by_cases hlt : k < x.size ∧ k < y.size
    · obtain ⟨hlx, hly⟩ := hlt
      have HS := Lib.hid (lexI_step x y k hlx hly)
      have i1 : (0 : Int) ≤ (k : Int) := by omega
      have i2 : (k : Int) < (x.size : Int) := by omega
      have i4 : (k : Int) < (y.size : Int) := by omega
      by_cases c1 : (x[k].toNat : Int) < (y[k].toNat : Int)
      · have HE : Hid (lexS x y = -1) := by
          show _ = _; rw [HL.out, HS.out, if_pos (UInt8.lt_iff_toNat_lt.2 (by omega))]
        clear HS HL
        go_wp2
        go_quiet (fail)
        go_wp2
        go_ret
        exact ⟨ret_i64 HE.out.symm, Below_drewN hb _⟩
      · have hn : ¬ x[k] < y[k] := fun h => c1 (by have := UInt8.lt_iff_toNat_lt.1 h; omega)
        by_cases c2 : (y[k].toNat : Int) < (x[k].toNat : Int)
        · have HE : Hid (lexS x y = 1) := by
            show _ = _; rw [HL.out, HS.out, if_neg hn, if_pos (UInt8.lt_iff_toNat_lt.2 (by omega))]
          clear HS HL hn
          go_wp2
          go_quiet (fail)
          go_wp2
          go_quiet (fail)
          go_wp2
          go_ret
          exact ⟨ret_i64 HE.out.symm, Below_drewN (Below_drewN hb _) _⟩
        · have hn2 : ¬ y[k] < x[k] := fun h => c2 (by have := UInt8.lt_iff_toNat_lt.1 h; omega)
          have HE : Hid (lexS x y = lexI (x.data.toList.drop (k + 1)) (y.data.toList.drop (k + 1))) := by
            show _ = _; rw [HL.out, HS.out, if_neg hn, if_neg hn2]
          clear HS HL hn hn2
          go_wp2
          go_quiet (fail)
          go_wp2
          go_quiet (fail)
          go_wp2
          go_roundw
          case rel => exact ⟨k + 1, by omega, by omega, by go_num, HE.out, Below_drewN hb _⟩
          case measure => simp [intOf]; omega
    · have HS := Lib.hid (lexI_end x y k hk hk' hlt)
      by_cases hkx : k < x.size
      · have h1 : ¬ k < y.size := by omega
        clear hlt
        go_wp2
        go_ret
        exact ⟨ret_i64 (by rw [HL.out, HS.out, if_neg (by omega), if_pos (by omega)]), hb⟩
      · clear hlt
        by_cases hky : x.size < y.size
        · go_wp2
          go_ret
          exact ⟨ret_i64 (by rw [HL.out, HS.out, if_pos (by omega)]), hb⟩
        · by_cases hkz : y.size < x.size
          · go_wp2
            go_ret
            exact ⟨ret_i64 (by rw [HL.out, HS.out, if_neg (by omega), if_pos (by omega)]), hb⟩
          · go_wp2
            go_ret
            exact ⟨ret_i64 (by rw [HL.out, HS.out, if_neg (by omega), if_neg (by omega)]), hb⟩

end Go.Proofs.Yteaafjkgopmmdaa

