import Derived.Test.YteaafjkgopmmdaaUd
import Derived.Test.YteaafjkgopmmdaaGe
import Derived.Deep.DeepMust
import Derived.Deep.DeepCutAuto
namespace Go.Proofs.Yteaafjkgopmmdaa
open Go Go.RowKit Go.Sort
set_option linter.unusedVariables false

/-! Rows of numbers. -/
def intV (l : List Int) : List Value := l.map (Value.int .i64)
theorem intV_length (l : List Int) : (intV l).length = l.length := by simp [intV]
theorem intV_append (l m : List Int) : intV (l ++ m) = intV l ++ intV m := by simp [intV]
theorem intV_one (l : List Int) : ∀ u ∈ intV l, u.oneCell' = true := by
  intro u hu; obtain ⟨x, _, rfl⟩ := List.mem_map.1 hu; rfl
theorem intV_get {l : List Int} {i : Nat} (h : i < l.length) : (intV l)[i]? = some (.int .i64 l[i]) := by simp [intV, h]
theorem Rd.num {w : World} {B : Nat} {a : Option Addr} {l : List Int} (h : Rd w B a (intV l)) {i : Nat} (hi : i < l.length) : ∃ b off, a = some ⟨b, off, none⟩ ∧ b < B ∧ w.cell? ⟨b, off + i, none⟩ = some (.int .i64 l[i]) := by
  obtain ⟨b, off, ha, hb, hc⟩ := h (by rw [intV_length]; omega)
  exact ⟨b, off, ha, hb, hc i _ (intV_get hi)⟩
theorem upL_stop {P : List Int} {a : Int} {n k : Nat} (hk : k ≤ n) (h : upL P k a < 0) : upL P n a = upL P k a := by
  rw [show n = k + (n - k) by omega, upL_add, upL_neg h]
set_option maxHeartbeats 1000000 in
theorem refUp_any (a : Option Addr) (c : Nat) (P : List Int) (at_ : Int) (n : Nat) (w : World) (hP : ValidP P) (ha : Rd w w.heap.size a (intV P)) (hl : P.length ≤ maxLen) (h1 : -1 ≤ at_) (h2 : at_ < P.length) (hn : n ≤ maxLen) :
    Calls Try.prog 32 #[.slice a P.length c, .int .i64 at_, .int .i64 (n : Int)] w fun e w' => e = .returned (.int .i64 (upL P n at_)) ∧ Below w.heap.size w w' := by
  have HA := Lib.hid ha; have HP := Lib.hid hP; clear ha hP
  unfold maxLen at hl hn
  have HR := Lib.hid (fun k => upL_range HP.out k at_ h1 h2)
  have HS := Lib.hid (fun k => upL_next P k at_)
  have HST := Lib.hid (fun k (hk : k ≤ n) (h : upL P k at_ < 0) => upL_stop hk h)
  have H0 : Hid (upL P 0 at_ = at_) := rfl
  clear h1 h2
  go_enter Try.func32, Try.ntmps32
  go_wp2
  go_loopw [1, 7] (fun x i wr => ∃ (k : Nat) (y : Int), k ≤ n ∧ i = .int .i64 (k : Int) ∧ x = .int .i64 y ∧ Hid (y = upL P k at_) ∧ Below w.heap.size w wr) (fun _ i _ => n - (intOf i).toNat)
  case atStart => exact ⟨0, at_, Nat.zero_le _, rfl, rfl, Lib.hid rfl, Below.refl _ _⟩
  case round =>
    obtain ⟨k, y, hk, rfl, rfl, HY, hb⟩ := hrel
    have HB := Lib.hid hb; clear hb
    by_cases hlt : k < n
    · have i1 : (k : Int) < (n : Int) := by omega
      by_cases hy : 0 ≤ y
      · have hyl : y < P.length := by have := (HR.out k).2; rw [← HY.out] at this; exact this
        have hyn : y.toNat < P.length := by omega
        obtain ⟨b1, o1, ha1, _, c0⟩ := (HA.out.below HB.out).num hyn
        subst ha1
        have HN : Hid (P[y.toNat] = upL P (k + 1) at_) := by
          show _ = _
          rw [HS.out k, ← HY.out, upL_one hy]; simp [List.getD, hyn]
        have i2 : y < (P.length : Int) := hyl
        generalize P[y.toNat] = z at *
        go_wp2
        go_roundw
        case rel => exact ⟨k + 1, z, by omega, by go_num, rfl, HN, HB.out⟩
        case measure => simp [intOf]; omega
      · have HE : Hid (upL P n at_ = y) := by
          show _ = _
          rw [HST.out k (by omega) (by rw [← HY.out]; omega)]; exact HY.out.symm
        go_wp2
        go_ret
        exact ⟨ret_i64 HE.out.symm, HB.out⟩
    · have HE : Hid (upL P n at_ = y) := by
        show _ = _
        rw [show n = k by omega]; exact HY.out.symm
      go_wp2
      go_ret
      exact ⟨ret_i64 HE.out.symm, HB.out⟩
theorem onL_none {P : List Int} {a : Int} (h : ∀ m, 1 ≤ m → m ≤ P.length → upL P m a ≠ a) : onL P a = false := by
  cases ho : onL P a with
  | false => rfl
  | true =>
    obtain ⟨n, h1, h2, h3⟩ := onL_iff.1 ho
    exact absurd h3 (h n h1 h2)
set_option maxHeartbeats 1000000 in
theorem refOn_any (a : Option Addr) (c : Nat) (P : List Int) (at_ : Int) (w : World) (hP : ValidP P) (ha : Rd w w.heap.size a (intV P)) (hl : P.length ≤ 100000) (h1 : -1 ≤ at_) (h2 : at_ < P.length) :
    Calls Try.prog 20 #[.slice a P.length c, .int .i64 at_] w fun e w' => e = .returned (.bool (onL P at_)) ∧ Below w.heap.size w w' := by
  have HA := Lib.hid ha; have HP := Lib.hid hP; have HR := Lib.hid (And.intro h1 h2); clear ha hP h1 h2
  go_enter Try.func20, Try.ntmps20
  go_wp2
  go_loopw [5] (fun i wr => ∃ k : Nat, 1 ≤ k ∧ k ≤ P.length + 1 ∧ i = .int .i64 (k : Int) ∧ (∀ m, 1 ≤ m → m < k → upL P m at_ ≠ at_) ∧ Below w.heap.size w wr) (fun i _ => P.length + 1 - (intOf i).toNat)
  case atStart => exact ⟨1, Nat.le_refl _, by omega, rfl, fun m h1 h2 => by omega, Below.refl _ _⟩
  case round =>
    obtain ⟨k, hk1, hk, rfl, hno, hb⟩ := hrel
    have HB := Lib.hid hb; have HNO := Lib.hid hno; clear hb hno
    generalize wr = W1 at *
    by_cases hlt : k ≤ P.length
    · have i1 : (k : Int) ≤ (P.length : Int) := by omega
      have hup := refUp_any a c P at_ k W1 HP.out ((HA.out.below HB.out).more HB.out.size) (by unfold maxLen; omega) HR.out.1 HR.out.2 (by unfold maxLen; omega)
      have HUP := Lib.hid hup; clear hup
      generalize hu : upL P k at_ = u at *
      have HU := Lib.hid hu; clear hu
      by_cases hq : u = at_
      · have HE : Hid (onL P at_ = true) := onL_iff.2 ⟨k, hk1, hlt, HU.out.trans hq⟩
        have hq1 : (u == at_) = true := by simpa using hq
        have hq2 : (u != at_) = false := by simpa using hq
        clear hq
        go_wp2_with (go_at_call 32; refine HUP.out.mono ?_; rintro e w2 ⟨rfl, hb2⟩)
        go_ret
        exact ⟨ret_bool HE.out.symm, bel2 HB.out hb2⟩
      · have HE : Hid (∀ m, 1 ≤ m → m < k + 1 → upL P m at_ ≠ at_) := fun m h1 h2 => by
          by_cases e : m = k
          · subst e; rw [HU.out]; exact hq
          · exact HNO.out m h1 (by omega)
        have hq1 : (u == at_) = false := by simpa using hq
        have hq2 : (u != at_) = true := by simpa using hq
        clear hq
        go_wp2_with (go_at_call 32; refine HUP.out.mono ?_; rintro e w2 ⟨rfl, hb2⟩)
        go_roundw
        case rel => exact ⟨k + 1, by omega, by omega, by go_num, HE.out, bel2 HB.out hb2⟩
        case measure => simp [intOf]; omega
    · have HE : Hid (onL P at_ = false) := onL_none fun m h1 h2 => HNO.out m h1 (by omega)
      go_wp2
      go_ret
      exact ⟨ret_bool HE.out.symm, HB.out⟩
end Go.Proofs.Yteaafjkgopmmdaa

