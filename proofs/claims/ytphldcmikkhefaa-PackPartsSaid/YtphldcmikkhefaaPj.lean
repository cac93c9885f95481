import Derived.Test.YtphldcmikkhefaaPi
namespace Go.Proofs.Ytphldcmikkhefaa
open Go Go.RowKit Go.Sort

/-- How many bytes number i gets. -/
def sz (m : List UInt8) (i : Nat) : Nat := if i < m.length then 1 + (m.getD i 0).toNat % 8 else 8
theorem sz_le (m : List UInt8) (i : Nat) : sz m i ≤ 8 := by unfold sz; split <;> omega
theorem sz_pos (m : List UInt8) (i : Nat) : 1 ≤ sz m i := by unfold sz; split <;> omega
theorem cnt_of {k : Nat} (h : k ≤ 8) : cnt (k : Int) = k := by unfold cnt; omega
/-- The bytes of the first k numbers. -/
def cat (l : List Nat) (m : List UInt8) : Nat → List UInt8
  | 0 => []
  | k + 1 => cat l m k ++ putL (l.getD k 0) (sz m k)
theorem cat_len (l : List Nat) (m : List UInt8) : ∀ k, (cat l m k).length ≤ 8 * k
  | 0 => by simp [cat]
  | k + 1 => by
    have := cat_len l m k; have := sz_le m k
    rw [cat, List.length_append, putL_length]; omega
theorem cat_pre (l : List Nat) (m : List UInt8) (k : Nat) : ∀ d, ∃ r, cat l m (k + d) = cat l m k ++ r
  | 0 => ⟨[], by simp⟩
  | d + 1 => by
    obtain ⟨r, h⟩ := cat_pre l m k d
    exact ⟨r ++ putL (l.getD (k + d) 0) (sz m (k + d)), by rw [← Nat.add_assoc, cat, h, List.append_assoc]⟩
theorem gN_left (l r : List UInt8) (i : Nat) : ∀ k, i + k ≤ l.length → gN (l ++ r) i k = gN l i k
  | 0, _ => rfl
  | k + 1, h => by
    have e : (l ++ r).getD (i + k) 0 = l.getD (i + k) 0 := by
      simp only [List.getD]; rw [List.getElem?_append_left (by omega)]
    rw [gN, gN, gN_left l r i k (by omega), e]
theorem gN_put (n m : Nat) : ∀ k, k ≤ m → gN (putL n m) 0 k = n % 2 ^ (8 * k)
  | 0, _ => by simp [gN]; omega
  | k + 1, h => by
    have e : (putL n m).getD (0 + k) 0 = byt n k := by
      rw [getD_lt (by rw [putL_length]; omega)]; simp [putL]
    rw [gN, gN_put n m k (by omega), e, byt_nat, show 8 * (k + 1) = 8 * k + 8 by omega, Nat.pow_add, Nat.mod_mul, Nat.mul_comm (n / 2 ^ (8 * k) % 256)]
theorem getR_part (l : List Nat) (m : List UInt8) (k N : Nat) (hk : k < N) : getR (cat l m N) (cat l m k).length (sz m k) = (l.getD k 0 % 2 ^ (8 * sz m k), true) := by
  obtain ⟨r, hr⟩ := cat_pre l m (k + 1) (N - (k + 1))
  rw [show k + 1 + (N - (k + 1)) = N by omega, cat] at hr
  have hc := cnt_of (sz_le m k)
  rw [getR_yes (by rw [hr, hc, List.length_append, List.length_append, putL_length]; omega), hc, Int.toNat_natCast, hr, List.append_assoc]
  have h1 := gN_append (cat l m k) (putL (l.getD k 0) (sz m k) ++ r) 0 (sz m k)
  rw [Nat.add_zero] at h1
  rw [h1, gN_left _ _ _ _ (by rw [putL_length]; omega), gN_put _ _ _ (Nat.le_refl _)]
def uV (l : List Nat) : List Value := l.map fun (n : Nat) => .int .u64 (n : Int)
theorem Rd.u64 {w : World} {B : Nat} {a : Option Addr} {l : List Nat} (h : Rd w B a (uV l)) {i : Nat} (hi : i < l.length) :
    ∃ b off, a = some ⟨b, off, none⟩ ∧ b < B ∧ w.cell? ⟨b, off + i, none⟩ = some (.int .u64 (l.getD i 0 : Int)) := by
  obtain ⟨b, off, ha, hb, hc⟩ := h (by simp [uV]; omega)
  exact ⟨b, off, ha, hb, hc i _ (by simp [uV, hi, List.getD])⟩

set_option maxHeartbeats 400000 in
theorem size_any (i g c : Nat) (a : Option Addr) (m : List UInt8) (w : World) (hr : Rd w w.heap.size a (bV m)) (hc : w.cell? ⟨g, 0, none⟩ = some (.slice a m.length c))  :
    Calls Try.prog 16 #[.int .i64 i, .pointer (some ⟨g, 0, none⟩)] w fun e w' => e = .returned (.int .i64 (sz m i)) ∧ w = w' := by
  have HR := Lib.hid hr; clear hr
  by_cases h : i < m.length
  · obtain ⟨b, off, ha, _, hcell⟩ := HR.out.byte h
    subst ha
    have HS : Hid (((sz m i : Nat) : Int) = 1 + (m[i].toNat : Int) % 8) := by
      show _ = _; unfold sz; rw [if_pos h, getD_lt h]; omega
    have hb : m[i].toNat < 256 := m[i].toNat_lt
    generalize m[i].toNat = x at *
    go_enter Try.func16, Try.ntmps16
    go_wp2
    go_ret
    exact ⟨ret_i64 HS.out.symm, rfl⟩
  · have HS : Hid (sz m i = 8) := by show _ = _; unfold sz; rw [if_neg h]
    go_enter Try.func16, Try.ntmps16
    go_wp2
    go_ret
    exact ⟨ret_i64 (by rw [HS.out]; rfl), rfl⟩

theorem and_mask (n s : Nat) (hn : n < 18446744073709551616) (hs : s < 8) :
    bits BinOp.and IntKind.u64 (n : Int) (IntKind.u64.wrap (IntKind.u64.wrap ((2 : Int) ^ (8 * s)) - 1)) = ((n % 2 ^ (8 * s) : Nat) : Int) := by
  have h2 : 2 ^ (8 * s) ≤ 2 ^ 56 := Nat.pow_le_pow_right (by omega) (by omega)
  have h1 : 1 ≤ 2 ^ (8 * s) := Nat.one_le_two_pow
  rw [pow_nat]
  have e1 : IntKind.u64.wrap ((2 ^ (8 * s) : Nat) : Int) = ((2 ^ (8 * s) : Nat) : Int) := IntWalk.u64_in _ ⟨by generalize 2 ^ (8 * s) = X at *; omega, by generalize 2 ^ (8 * s) = X at *; omega⟩
  have e2 : ((2 ^ (8 * s) : Nat) : Int) - 1 = ((2 ^ (8 * s) - 1 : Nat) : Int) := by generalize 2 ^ (8 * s) = X at *; omega
  have e3 : IntKind.u64.wrap ((2 ^ (8 * s) - 1 : Nat) : Int) = ((2 ^ (8 * s) - 1 : Nat) : Int) := IntWalk.u64_in _ ⟨by omega, by generalize 2 ^ (8 * s) = X at *; omega⟩
  rw [e1, e2, e3, u64_and_nat _ _ hn (by generalize 2 ^ (8 * s) = X at *; omega), Nat.and_two_pow_sub_one_eq_mod]
set_option maxHeartbeats 2000000 in
theorem law_parts (a : Option Addr) (c : Nat) (l : List Nat) (a2 : Option Addr) (c2 : Nat) (m : List UInt8) (w : World) (hr : Rd w w.heap.size a (uV l)) (_hc : c ≤ maxLen) (hr2 : Rd w w.heap.size a2 (bV m)) (_hc2 : c2 ≤ maxLen)
    (hn : ∀ i, l.getD i 0 < 18446744073709551616) :
    Calls Try.prog 6 #[.slice a l.length c, .slice a2 m.length c2] w fun e w' => e = .returned (.bool true) ∧ Below w.heap.size w w' := by
  have HR := Lib.hid hr; have HR2 := Lib.hid hr2; have HN := Lib.hid hn; clear hr hr2 hn
  have hmf : ∀ (fn : Fn) (first cap : Array Value) (w : World), (Instr.makeFunc fn first cap).run Try.prog w = .ok (.func fn first cap) w := fun _ _ _ _ => rfl
  by_cases hlong : 40 < l.length
  · go_enter Try.func6, Try.ntmps6
    go_wp2_with (go_at_call 7; refine (fixed_any _).mono ?_; rintro e w' ⟨rfl, hb⟩)
    go_ret
    exact ⟨rfl, bel2 (box1 _ _) hb⟩
  by_cases hlong2 : 40 < m.length
  · go_enter Try.func6, Try.ntmps6
    go_wp2_with (go_at_call 7; refine (fixed_any _).mono ?_; rintro e w' ⟨rfl, hb⟩)
    go_ret
    exact ⟨rfl, bel2 (box1 _ _) hb⟩
  obtain ⟨W0, hW0⟩ : ∃ W0, W0 = w.alloc (.cells #[.slice a2 m.length c2] 22) := ⟨_, rfl⟩
  have hb0 : Below w.heap.size w W0 := by rw [hW0]; exact box1 _ _
  have hs0 : w.heap.size < W0.heap.size := by rw [hW0]; simp
  have hc0 : W0.cell? ⟨w.heap.size, 0, none⟩ = some (.slice a2 m.length c2) := by rw [hW0]; go_simp
  have HC0 := Lib.hid hc0; clear hc0
  have HB0 := Lib.hid hb0; clear hb0
  have HW0 := Lib.hid hW0; clear hW0
  go_enter Try.func6, Try.ntmps6
  go_wp2
  rw [← HW0.out]
  clear HW0
  go_loopw [6, 27] (fun v i wr => ∃ (k : Nat) (a1 : Option Addr) (c1 : Nat), k ≤ l.length ∧ i = .int .i64 k ∧ v = .slice a1 (cat l m k).length c1 ∧ (cat l m k).length ≤ c1 ∧ c1 ≤ maxLen ∧ Rd wr wr.heap.size a1 (bV (cat l m k)) ∧ RowKit.Below W0.heap.size W0 wr) (fun _ i _ => l.length - (intOf i).toNat)
  case atStart => exact ⟨0, none, 0, Nat.zero_le _, rfl, rfl, Nat.le_refl _, Nat.zero_le _, Rd.nil _ _ _, RowKit.Below.refl _ _⟩
  case round =>
    obtain ⟨k, a1, c1, hk, rfl, rfl, hcc, hcm, hrd, hb⟩ := hrel
    have HRD := Lib.hid hrd; have HB := Lib.hid hb; clear hrd hb
    generalize wr = W1 at *
    have hcell0 : W1.cell? ⟨w.heap.size, 0, none⟩ = some (.slice a2 m.length c2) := by rw [HB.out.cell (p := ⟨w.heap.size, 0, none⟩) hs0]; exact HC0.out
    have hW1 : w.heap.size ≤ W1.heap.size := by have := HB.out.size; omega
    have HRM := Lib.hid ((HR2.out.below (HB0.out.trans (HB.out.mono (Nat.le_of_lt hs0)))).more hW1)
    have HCM := Lib.hid hcm; clear hcm
    have HC1 := Lib.hid hcell0; clear hcell0
    have hcl := cat_len l m k
    by_cases hlt : k < l.length
    · obtain ⟨b, off, ha, hbB, hcell⟩ := (HR.out.below (HB0.out.trans (HB.out.mono (Nat.le_of_lt hs0)))).u64 hlt
      subst ha
      have hNk := HN.out k
      have HCT : Hid (cat l m (k + 1) = cat l m k ++ putL (l.getD k 0) (sz m k)) := rfl
      have HSA := Lib.hid (size_any k w.heap.size c2 a2 m W1 HRM.out HC1.out)
      generalize l.getD k 0 = n at *
      have hszc := cnt_of (sz_le m k)
      have hsz := sz_le m k
      have HSZ := Lib.hid hszc
      clear hszc
      generalize sz m k = s at *
      go_wp2_with fail
      refine (HSA.out).mono ?_
      rintro e W1' ⟨rfl, rfl⟩
      go_wp2_with fail
      ((with_reducible refine (put_out a1 c1 (cat l m k) n (s : Int) W1 HRD.out (by omega) hcc hNk (by omega) (by omega)).mono ?_); rw [HSZ.out, ← HCT.out]; rintro e W2 ⟨a3, c3, rfl, hcc3, hcm3, hrd3, hb3⟩)
      have HX := Lib.hid hcc3; have HY := Lib.hid hcm3; have HZ := Lib.hid hrd3; have HB3 := Lib.hid hb3
      clear hcc3 hcm3 hrd3 hb3
      go_wp2
      go_roundw
      case rel => exact ⟨k + 1, a3, c3, by omega, by go_num, rfl, HX.out, HY.out, HZ.out, HB.out.trans (HB3.out.mono HB.out.size)⟩
      case measure => simp [intOf]; omega
    · have : k = l.length := by omega
      subst this
      go_wp2
      go_loop [9, 41] (fun t i => ∃ j : Nat, j ≤ l.length ∧ i = .int .i64 j ∧ t = .int .i64 ((cat l m j).length : Nat)) (fun _ i => l.length - (intOf i).toNat)
      case atStart => exact ⟨0, Nat.zero_le _, rfl, rfl⟩
      case round =>
        obtain ⟨j, hj, rfl, rfl⟩ := hrel
        have hcj := cat_len l m j
        by_cases hlt : j < l.length
        · obtain ⟨b, off, ha, hbB, hcell⟩ := (HR.out.below (HB0.out.trans (HB.out.mono (Nat.le_of_lt hs0)))).u64 hlt
          subst ha
          have hNj := HN.out j
          have HCT : Hid (cat l m (j + 1) = cat l m j ++ putL (l.getD j 0) (sz m j)) := rfl
          have HCL : Hid ((cat l m (j + 1)).length = (cat l m j).length + sz m j) := by show _ = _; rw [HCT.out, List.length_append, putL_length]
          have hsz := sz_le m j
          have hsp := sz_pos m j
          obtain ⟨x, hx⟩ : ∃ x, x = l.getD j 0 % 2 ^ (8 * sz m j) := ⟨_, rfl⟩
          have HGA : Hid (getR (cat l m l.length) (cat l m j).length (sz m j) = (x, true)) := by show _ = _; rw [hx]; exact getR_part l m j l.length hlt
          have HX := Lib.hid hx; clear hx HCT
          have HSA := Lib.hid (size_any j w.heap.size c2 a2 m W1 HRM.out HC1.out)
          have hcl2 := cat_len l m (j + 1)
          generalize l.getD j 0 = n at *
          generalize sz m j = s at *
          by_cases hs8 : s = 8
          · subst hs8
            have HG8 : Hid (getR (cat l m l.length) (cat l m j).length 8 = (x, true)) := HGA.out
            have HXN : Hid (x = n) := by show _ = _; rw [HX.out]; exact Nat.mod_eq_of_lt (by omega)
            go_wp2_with fail
            refine (HSA.out).mono ?_
            rintro e W1' ⟨rfl, rfl⟩
            go_wp2_with fail
            ((with_reducible refine (get_any a1 c1 (cat l m l.length) (cat l m j).length 8 W1 HRD.out (by omega) (by omega) (by omega) (by omega) (by omega)).mono ?_); rw [HG8.out, HXN.out]; rintro e W1' ⟨rfl, rfl⟩)
            go_wp2
            go_round
            case rel => exact ⟨j + 1, by omega, by go_num, by rw [HCL.out]; go_num⟩
            case measure => simp [intOf]; omega
          · have hbit := and_mask n s hNj (by omega)
            rw [← HX.out] at hbit
            go_wp2_with fail
            refine (HSA.out).mono ?_
            rintro e W1' ⟨rfl, rfl⟩
            go_wp2_with fail
            ((with_reducible refine (get_any a1 c1 (cat l m l.length) (cat l m j).length (s : Int) W1 HRD.out (by omega) (by omega) (by omega) (by omega) (by omega)).mono ?_); rw [HGA.out]; rintro e W1' ⟨rfl, rfl⟩)
            go_wp2
            go_round
            case rel => exact ⟨j + 1, by omega, by go_num, by rw [HCL.out]; go_num⟩
            case measure => simp [intOf]; omega
        · have : j = l.length := by omega
          subst this
          go_wp2_with fail
          refine (fixed_any _).mono ?_
          rintro e W5 ⟨rfl, hb5⟩
          go_wp2
          go_ret
          exact ⟨rfl, bel2 (HB0.out.trans (HB.out.mono (Nat.le_of_lt hs0))) hb5⟩
end Go.Proofs.Ytphldcmikkhefaa
