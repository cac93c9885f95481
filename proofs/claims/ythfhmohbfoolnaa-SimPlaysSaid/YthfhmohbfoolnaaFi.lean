import Derived.Test.YthfhmohbfoolnaaFh
namespace Go.Proofs.Ythfhmohbfoolnaa
open Go Go.RowKit

theorem u32_elem {w : World} {B : Nat} {a : Option Addr} {N : List Nat} (h : Rd w B a (u32V N)) {i : Nat} (hi : i < N.length) : ∃ b off, a = some ⟨b, off, none⟩ ∧ b < B ∧ w.cell? ⟨b, off + i, none⟩ = some (.int .u32 (N[i] : Int)) := by
  obtain ⟨b, off, ha, hb, hc⟩ := h (by rw [u32V_length]; omega)
  exact ⟨b, off, ha, hb, hc i _ (by simp [u32V, hi])⟩
theorem take_eq_succ {N M : List Nat} {k : Nat} (h : N.take k = M.take k) (h1 : k < N.length) (h2 : k < M.length) (e : N[k] = M[k]) : N.take (k + 1) = M.take (k + 1) := by
  rw [List.take_succ_eq_append_getElem h1, List.take_succ_eq_append_getElem h2, h, e]
set_option maxRecDepth 20000 in
set_option maxHeartbeats 2000000 in
theorem same_any (a b : Option Addr) (c d : Nat) (N M : List Nat) (w : World) (ha : Rd w w.heap.size a (u32V N)) (hb : Rd w w.heap.size b (u32V M)) (hl : N.length ≤ 1000000000) (hm : M.length ≤ 1000000000) :
    Calls Try.prog 56 #[.slice a N.length c, .slice b M.length d] w fun e w' => e = .returned (.bool (decide (N = M))) ∧ Below w.heap.size w w' := by
  have HA := Lib.hid ha; have HB := Lib.hid hb; clear ha hb
  by_cases hlen : N.length = M.length
  case neg =>
    have HE : Hid (decide (N = M) = false) := decide_eq_false fun e => hlen (by rw [e])
    have hq : ((N.length : Int) != (M.length : Int)) = true := by simp; omega
    go_enter Try.func56, Try.ntmps56
    go_wp2_with fail
    go_ret
    exact ⟨ret_bool HE.out.symm, Below.refl _ _⟩
  have hq : ((N.length : Int) != (M.length : Int)) = false := by simp [hlen]
  have HL := Lib.hid hlen
  clear hlen
  go_enter Try.func56, Try.ntmps56
  go_wp2_with fail
  go_loopw [5] (fun i wr => ∃ k : Nat, k ≤ N.length ∧ i = .int .i64 k ∧ N.take k = M.take k ∧ RowKit.Below w.heap.size w wr) (fun i _ => N.length - (intOf i).toNat)
  case atStart => exact ⟨0, Nat.zero_le _, rfl, rfl, Below.refl _ _⟩
  case round =>
    obtain ⟨k, hk, rfl, he, hbw⟩ := hrel
    have HE := Lib.hid he; have HW := Lib.hid hbw; clear he hbw
    by_cases hlt : k < N.length
    · have hlt2 : k < M.length := by rw [← HL.out]; exact hlt
      obtain ⟨b1, o1, ha1, _, e1⟩ := u32_elem (HA.out.below HW.out) hlt
      obtain ⟨b2, o2, ha2, _, e2⟩ := u32_elem (HB.out.below HW.out) hlt2
      subst ha1 ha2
      have i1 : (0 : Int) ≤ (k : Int) := by omega
      have i2 : (k : Int) < (N.length : Int) := by omega
      have i3 : (k : Int) < (M.length : Int) := by omega
      by_cases hx : N[k] = M[k]
      · have HT := Lib.hid (take_eq_succ HE.out hlt hlt2 hx)
        rw [hx] at e1
        have hy : ((M[k] : Int) != (M[k] : Int)) = false := by simp
        clear hx
        generalize M[k] = y at *
        go_wp2_with fail
        go_region_held3 (fun w' => w'.cell? ⟨b1, o1 + k, none⟩ = some (.int .u32 (y : Int)) ∧ w'.cell? ⟨b2, o2 + k, none⟩ = some (.int .u32 (y : Int))) (go_keep) (fail)
        all_goals
          go_wp2_with fail
          go_roundw
          case rel => exact ⟨k + 1, by omega, by go_num, HT.out, Below_drew HW.out⟩
          case measure => simp [intOf]; omega
      · have HN : Hid (decide (N = M) = false) := decide_eq_false fun e => hx (by subst e; rfl)
        have hy : ((N[k] : Int) != (M[k] : Int)) = true := by simp; omega
        clear hx
        generalize M[k] = y at *
        generalize N[k] = x at *
        go_wp2_with fail
        go_region_held3 (fun w' => w'.cell? ⟨b1, o1 + k, none⟩ = some (.int .u32 (x : Int)) ∧ w'.cell? ⟨b2, o2 + k, none⟩ = some (.int .u32 (y : Int))) (go_keep) (fail)
        all_goals
          go_wp2_with fail
          go_ret
          exact ⟨ret_bool HN.out.symm, Below_drew HW.out⟩
    · have : k = N.length := by omega
      subst this
      have HN : Hid (decide (N = M) = true) := decide_eq_true (by have h := HE.out; rwa [List.take_length, HL.out, List.take_length] at h)
      go_wp2_with fail
      go_ret
      exact ⟨ret_bool HN.out.symm, HW.out⟩
end Go.Proofs.Ythfhmohbfoolnaa
