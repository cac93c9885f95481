import Derived.Test.YthcnjljjncgdfaaUo
namespace Go.Proofs.Ythcnjljjncgdfaa
open Go Go.RowKit Go.Sort Go.Maps
set_option linter.unusedVariables false

/-! The law ParentForest: its own walk round a cycle. -/
theorem parL_next {L : List Sp} {i : Nat} (hi : i < L.length) {r : Nat} (hr : upL (parL L) r i = i) {m : Nat} (hm : m < r) :
    ∃ k, ∃ h : k < L.length, upL (parL L) m i = (k : Int) ∧ (L[k]).parent ≠ 0 ∧ upL (parL L) (m + 1) i = firstAt (idsL L) (L[k]).parent 0 := by
  obtain ⟨k, h, h1, h2, h3⟩ := on_next (ids := idsL L) (pars := parsL L) (by simp [idsL, parsL]) (i := i) (by simpa [parsL] using hi) hr hm
  have hk : k < L.length := by simpa [parsL] using h
  have e : (parsL L)[k] = (L[k]).parent := by simp [parsL]
  rw [e] at h2 h3
  exact ⟨k, hk, h1, h2, h3⟩
set_option maxHeartbeats 4000000 in
theorem loop_any (a : Option Addr) (c : Nat) (L : List Sp) (i : Nat) (w : World) (ha : Rd w w.heap.size a (flatL L)) (hl : L.length ≤ 100000) (hi : i < L.length) (hon : onL (parL L) (i : Int) = true) :
    Calls Try.prog 13 #[.slice a L.length c, .int .i64 (i : Int)] w fun e w' => e = .returned (.bool true) ∧ Below w.heap.size w w' := by
  obtain ⟨r, r1, r2, r3, r4⟩ := first_back hon
  rw [parL_length] at r2
  have HA := Lib.hid ha; have HR3 := Lib.hid r3; have HR4 := Lib.hid r4; clear ha r3 r4 hon
  have HNX := Lib.hid (fun m hm => parL_next hi HR3.out (m := m) hm)
  have HPOS := Lib.hid (fun m hm => back_pos (by omega) HR3.out (m := m) hm)
  obtain ⟨k0, hk0, e0, e1, e2⟩ := HNX.out 0 (by omega)
  have e0 : (i : Int) = (k0 : Int) := e0
  obtain rfl : i = k0 := by omega
  obtain ⟨b1, o1, ha1, _, f0, f1, f2, f3, f4, f5, f6, f7⟩ := HA.out.elem hi
  have E0 : Hid ((L[i]).parent ≠ 0 ∧ upL (parL L) (0 + 1) i = firstAt (idsL L) (L[i]).parent 0) := ⟨e1, e2⟩
  clear e0 e1 e2
  generalize (L[i]).parent = x0 at *
  subst ha1
  have i0 : (i : Int) < (L.length : Int) := by omega
  go_enter Try.func13, Try.ntmps13
  go_wp2_with fail
  go_loopw [5, 15] (fun d j wr => ∃ (m : Nat) (x : Int), m < r ∧ j = .int .i64 (m : Int) ∧ d = .int .u64 x ∧ Hid (x ≠ 0 ∧ upL (parL L) (m + 1) i = firstAt (idsL L) x 0) ∧ wr = w) (fun _ j _ => L.length - (intOf j).toNat)
  case atStart => exact ⟨0, x0, by omega, rfl, rfl, E0, rfl⟩
  clear f0 f1 f2 f3 f4 f5 f6 f7
  case round =>
    obtain ⟨m, x, hm, rfl, rfl, HX, hw⟩ := hrel
    subst hw
    have i3 : (m : Int) < (L.length : Int) := by omega
    have i5 : IntKind.i64.wrap ((L.length : Int) - 1) = (L.length : Int) - 1 := IntWalk.i64_in _ (by omega)
    go_wp2_with fail
    go_loopw [6, 7] (fun p k wr2 => ∃ kn : Nat, kn ≤ L.length ∧ k = .int .i64 ((kn : Int) - 1) ∧ p = .int .i64 (firstAt ((idsL L).drop kn) x kn) ∧ wr2 = wr) (fun _ k _ => ((intOf k) + 1).toNat)
    case atStart => exact ⟨L.length, Nat.le_refl _, rfl, by rw [List.drop_of_length_le (by simp [idsL])]; rfl, rfl⟩
    case round =>
      obtain ⟨kn, hkn, rfl, rfl, hw2⟩ := hrel
      subst hw2
      by_cases hk0 : 0 < kn
      · obtain ⟨kk, rfl⟩ : ∃ kk, kn = kk + 1 := ⟨kn - 1, by omega⟩
        have hkl : kk < L.length := by omega
        have e1 : ((kk + 1 : Nat) : Int) - 1 = (kk : Int) := by omega
        rw [e1]
        obtain ⟨b1, o1, ha1, _, e0, e1, e2, e3, e4, e5, e6, e7⟩ := HA.out.elem hkl
        obtain ⟨rfl, rfl⟩ := And.intro (Addr.mk.inj (Option.some.inj ha1)).1 (Addr.mk.inj (Option.some.inj ha1)).2.1
        have HST := Lib.hid (firstAt_step hkl x)
        generalize (L[kk]).id = y at *
        have j1 : (0 : Int) ≤ (kk : Int) := by omega
        have j2 : (kk : Int) < (L.length : Int) := by omega
        have j5 : IntKind.i64.wrap ((kk : Int) - 1) = (kk : Int) - 1 := IntWalk.i64_in _ (by omega)
        clear e0 e2 e3 e4 e5 e6 e7 ha1
        by_cases hyx : y = x
        · have q2 : (y == x) = true := by simpa using hyx
          have HP : Hid (firstAt ((idsL L).drop kk) x kk = (kk : Int)) := by show _ = _; rw [HST.out, if_pos hyx]
          clear hyx
          generalize firstAt ((idsL L).drop (kk + 1)) x (kk + 1) = pp at *
          go_wp2_with fail
          go_roundw
          case rel => exact ⟨kk, by omega, by go_num, by rw [HP.out], trivial⟩
          case measure => first | (simp [intOf]; done) | (simp [intOf]; omega)
        · have q2 : (y == x) = false := by simpa using hyx
          have HP : Hid (firstAt ((idsL L).drop kk) x kk = firstAt ((idsL L).drop (kk + 1)) x (kk + 1)) := by show _ = _; rw [HST.out, if_neg hyx]
          clear hyx
          generalize hpp : firstAt ((idsL L).drop (kk + 1)) x (kk + 1) = pp at *
          clear hpp
          go_wp2_with fail
          go_roundw
          case rel => exact ⟨kk, by omega, by go_num, by rw [HP.out], trivial⟩
          case measure => first | (simp [intOf]; done) | (simp [intOf]; omega)
      · obtain rfl : kn = 0 := by omega
        rw [List.drop_zero, ← HX.out.2]
        by_cases hq : upL (parL L) (m + 1) (i : Int) = (i : Int)
        · rw [hq]
          clear hq
          go_wp2_with fail
          go_ret
          exact ⟨rfl, Below.refl _ _⟩
        · have hmr : m + 1 < r := by
            rcases Nat.lt_or_ge (m + 1) r with h | h
            · exact h
            · exfalso; apply hq; rw [show m + 1 = r by omega]; exact HR3.out
          obtain ⟨k, hk, g0, g1, g2⟩ := HNX.out (m + 1) hmr
          rw [g0]
          have q1 : ((k : Int) == (i : Int)) = false := by
            rw [g0] at hq; simpa using hq
          obtain ⟨b1, o1, ha1, _, e0, e1, e2, e3, e4, e5, e6, e7⟩ := HA.out.elem hk
          obtain ⟨rfl, rfl⟩ := And.intro (Addr.mk.inj (Option.some.inj ha1)).1 (Addr.mk.inj (Option.some.inj ha1)).2.1
          have HE : Hid ((L[k]).parent ≠ 0 ∧ upL (parL L) (m + 1 + 1) i = firstAt (idsL L) (L[k]).parent 0) := ⟨g1, g2⟩
          generalize (L[k]).parent = z at *
          have q2 : (z == 0) = false := by simpa using g1
          have j1 : (0 : Int) ≤ (k : Int) := by omega
          have j2 : (k : Int) < (L.length : Int) := by omega
          have j3 : decide ((k : Int) < 0) = false := decide_eq_false (by omega)
          clear e0 e1 e3 e4 e5 e6 e7 hq g0 g1 g2 ha1
          go_wp2_with fail
          go_roundw
          case rel => exact ⟨m + 1, z, hmr, by go_num, rfl, HE.out, trivial⟩
          case measure => simp [intOf]; omega
end Go.Proofs.Ythcnjljjncgdfaa
