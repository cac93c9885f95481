import Derived.Test.YthcnjljjncgdfaaUh
namespace Go.Proofs.Ythcnjljjncgdfaa
open Go Go.RowKit Go.Sort
set_option linter.unusedVariables false

set_option maxHeartbeats 2000000 in
theorem law_depth10 (hof : OfPays) (a : Option Addr) (c : Nat) (L : List Sp) (w : World) (ha : Rd w w.heap.size a (flatL L)) (hc1 : L.length ≤ maxLen) (hok : ∀ s ∈ L, s.Ok) :
    Calls Try.prog 6 #[.slice a L.length c] w fun e w' => e = .returned (.bool true) ∧ Below w.heap.size w w' := by
  have HOF := Lib.hid hof; have HA := Lib.hid ha; have HOK := Lib.hid hok; clear hof ha hok
  unfold maxLen at hc1
  by_cases hg : 60 < L.length
  · go_enter Try.func6, Try.ntmps6
    go_wp2_with (go_at_call 7; refine (fixed10_any HOF.out _).mono ?_; rintro e w2 ⟨rfl, hb2⟩)
    go_ret
    exact ⟨rfl, hb2⟩
  have HV := Lib.hid (cutP_valid (parL_valid L))
  have HE : Hid (∀ i, i < L.length → upL (cutP (parL L)) (L.length + 1) (i : Int) < 0) := fun i hi => by
    have := cut_right (parL_valid L) (i := i) (by rw [parL_length]; exact hi)
    rwa [parL_length] at this
  have HCL := Lib.hid (cut_len L)
  go_enter Try.func6, Try.ntmps6
  go_wp2_with (go_at_call 9
               refine (HOF.out a c L w HA.out (by omega) HOK.out).mono ?_; rintro e w3 ⟨v3, rfl, hown3, hb3⟩
               obtain ⟨a3, c3, rfl, _, _, _⟩ := own_slice hown3
               have HO3 := Lib.hid hown3; have HB3 := Lib.hid hb3; clear hown3 hb3)
  obtain ⟨Q, hQ⟩ : ∃ Q, Q = cutP (parL L) := ⟨_, rfl⟩
  rw [← hQ] at HV HE HCL HO3
  clear hQ
  go_loopw [15] (fun i wr => ∃ n : Nat, n ≤ L.length ∧ i = .int .i64 n ∧ wr = w3) (fun i _ => L.length - (intOf i).toNat)
  case atStart => exact ⟨0, Nat.zero_le _, rfl, rfl⟩
  case round =>
    obtain ⟨n, hn, rfl, hw⟩ := hrel
    subst hw
    by_cases hlt : n < L.length
    · have i3 : (n : Int) < (L.length : Int) := by omega
      have HEN := Lib.hid (HE.out n hlt)
      go_wp2_with fail
      go_loopw [5, 6] (fun x k wr2 => ∃ (m : Nat) (y : Int), m ≤ L.length + 1 ∧ x = .int .i64 y ∧ k = .int .i64 (m : Int) ∧ Hid (y = upL Q m n) ∧ wr2 = wr) (fun _ k _ => L.length + 2 - (intOf k).toNat)
      case atStart => exact ⟨0, n, by omega, rfl, rfl, Lib.hid rfl, rfl⟩
      case round =>
        obtain ⟨m, y, hm, rfl, rfl, HY, hw2⟩ := hrel
        subst hw2
        by_cases hy : 0 ≤ y
        · have hyl : y < (L.length : Int) := by
            have h := (upL_range HV.out m n (by omega) (by rw [HCL.out]; omega)).2
            rw [← HY.out, HCL.out] at h; exact h
          have hml : m ≤ L.length := by
            rcases Nat.lt_or_ge L.length m with h | h
            · have : m = L.length + 1 := by omega
              have h2 := HEN.out
              rw [← this, ← HY.out] at h2; omega
            · exact h
          have hyn : y.toNat < Q.length := by rw [HCL.out]; omega
          obtain ⟨b1, o1, ha1, _, c0⟩ := (Rd.own HO3.out).num hyn
          subst ha1
          have HN : Hid (Q[y.toNat] = upL Q (m + 1) n) := by
            show _ = _
            rw [upL_next, ← HY.out, upL_one hy]; simp [List.getD, hyn]
          have j1 : ¬ (L.length : Int) ≤ y := by omega
          have j2 : ¬ (L.length : Int) < (m : Int) := by omega
          generalize Q[y.toNat] = z at *
          go_wp2_with fail
          go_roundw
          case rel => exact ⟨m + 1, z, by omega, rfl, by go_num, HN, trivial⟩
          case measure => simp [intOf]; omega
        · go_wp2_with fail
          go_roundw
          case rel => exact ⟨n + 1, by omega, by go_num, trivial⟩
          case measure => simp [intOf]; omega
    · go_wp2_with (go_at_call 7; refine (fixed10_any HOF.out _).mono ?_; rintro e w2 ⟨rfl, hb2⟩)
      go_ret
      exact ⟨rfl, bel2 HB3.out hb2⟩
end Go.Proofs.Ythcnjljjncgdfaa
