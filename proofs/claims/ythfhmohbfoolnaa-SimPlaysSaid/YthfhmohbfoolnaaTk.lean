import Derived.Test.YthfhmohbfoolnaaTj
import Derived.Laws.Bits64b
namespace Go.Proofs.Ythfhmohbfoolnaa
open Go Go.RowKit Go.Sort

/-! The library's sort at []uint32: patterns are broken. -/
def Rnd (w0 w : World) (s : Nat) (r : UInt64) : Prop := w0.heap.size ≤ s ∧ w.heap[s]? = some (.cells #[.int .u64 (r.toNat : Int)] 114)
theorem bits_le {L : Nat} (h : 0 < L) : (1 <<< bitsLen L) ≤ 2 * L ∧ L < (1 <<< bitsLen L) := by
  unfold bitsLen
  rw [if_neg (by omega), Nat.one_shiftLeft, Nat.pow_succ]
  have h1 := Nat.log2_self_le (n := L) (by omega)
  have h2 := Nat.lt_log2_self (n := L)
  rw [Nat.pow_succ] at h2
  omega
theorem Srt.blk_lt {w0 w : World} {blk off : Nat} {d : Array Int} (h : Srt w0 w blk off d) : blk < w0.heap.size := by
  obtain ⟨_, _, _, _, h1, _, _⟩ := h.shape
  exact (Array.getElem?_eq_some_iff.1 h1).1
theorem Srt.ahead {w0 w : World} {blk off : Nat} {d : Array Int} (h : Srt w0 w blk off d) (n : Nat) : Srt w0 (w.drewN n) blk off d := ⟨h.holds, ⟨h.grown.os, h.grown.tape, h.grown.output, h.grown.size, h.grown.block⟩, h.shape⟩
set_option maxRecDepth 20000 in
set_option maxHeartbeats 16000000 in
theorem breakU (blk off cap a b D : Nat) (d : Array Int) (w : World) (hD : d.size = D) (hs : Srt w w blk off d) (h8 : 8 ≤ b - a) (hb : b ≤ D) (hsz : D ≤ 1000000000) :
    Calls Try.prog 68 #[.slice (some ⟨blk, off, none⟩) D cap, .int .i64 a, .int .i64 b] w fun e w' => e = .returned (.tuple #[]) ∧ Srt w w' blk off (breakPatterns d a b) := by
  have HS := Lib.hid hs; clear hs
  have HSK0 : Hid (d.size = D) := hD
  clear hD
  obtain ⟨L, hLm, hL⟩ : ∃ L : Nat, L = b - a ∧ (b : Int) - (a : Int) = (L : Int) := ⟨_, rfl, by omega⟩
  obtain ⟨q, hqm, hq⟩ : ∃ q : Nat, q = L / 4 ∧ (L : Int).tdiv 4 = (q : Int) := ⟨_, rfl, by rw [Int.tdiv_eq_ediv_of_nonneg (by omega)]; omega⟩
  obtain ⟨I0, hIm, hI⟩ : ∃ I0 : Nat, I0 = a + q * 2 - 1 ∧ (a : Int) + (q : Int) * 2 - 1 = (I0 : Int) := ⟨_, rfl, by omega⟩
  obtain ⟨I2, hI2m, hI2⟩ : ∃ I2 : Nat, I2 = I0 + 2 ∧ (a : Int) + (q : Int) * 2 + 1 = (I2 : Int) := ⟨_, rfl, by omega⟩
  obtain ⟨M, hMm⟩ : ∃ M, M = 1 <<< bitsLen L := ⟨_, rfl⟩
  obtain ⟨hM1, hM2⟩ := bits_le (L := L) (by omega)
  rw [← hMm] at hM1 hM2
  have HDEF : Hid (breakPatterns d a b = bpRest a L M I0 3 0 (UInt64.ofNat L, d)) := by
    show _ = _
    have hbL : b = a + L := by omega
    rw [hMm, hIm, hqm, hbL]
    exact breakPatterns_eq d a L (by omega)
  have b0 : 8 ≤ L := by omega
  have b1 : a + L ≤ D := by omega
  have b2 : I2 < D := by omega
  have b3 : L ≤ 1000000000 := by omega
  have b4 : q ≤ 1000000000 := by omega
  have HPOW := Lib.hid (fun w => powU L b3 w)
  rw [← hMm] at HPOW
  have HI2 := Lib.hid hI2m
  clear hLm hqm hIm hI2m hMm
  have hLu : (UInt64.ofNat L).toNat = L := by rw [UInt64.toNat_ofNat']; omega
  obtain ⟨w1, hw1⟩ : ∃ w1, w1 = w.alloc (.cells #[.int .u64 (L : Int)] 114) := ⟨_, rfl⟩
  have HS1 : Hid (Srt w w1 blk off d) := by show Srt _ _ _ _ _; rw [hw1]; exact HS.out.below (box1 w _)
  have HR1 : Hid (Rnd w w1 w.heap.size (UInt64.ofNat L)) := by show Rnd _ _ _ _; rw [hw1]; exact ⟨Nat.le_refl _, by rw [hLu]; exact (MapKept.heap_alloc w _).1⟩
  have HNE : Hid (¬ blk = w.heap.size) := by have := HS.out.blk_lt; show ¬ _; omega
  clear hLu
  go_enter Try.func68, Try.ntmps68
  go_wp2_with fail
  rw [← hw1]
  clear hw1
  refine (HPOW.out w1).mono ?_
  rintro e w2 ⟨rfl, rfl⟩
  go_wp2_with fail
  go_loopw [9] (fun v wr => ∃ (t : Nat) (r : UInt64) (dk : Array Int), v = .int .i64 ((I0 + t : Nat) : Int) ∧ t ≤ 3 ∧ dk.size = D ∧ Srt w wr blk off dk ∧ Rnd w wr w.heap.size r ∧ bpRest a L M I0 (3 - t) t (r, dk) = breakPatterns d a b) (fun v _ => I0 + 3 - (intOf v).toNat)
  case atStart => exact ⟨0, UInt64.ofNat L, d, by rfl, by omega, HSK0.out, HS1.out, HR1.out, HDEF.out.symm⟩
  case round =>
    obtain ⟨t, r, dk, rfl, ht, hsk, hSk, hRk, hO⟩ := hrel
    have HSq := Lib.hid hSk; have HST := Lib.hid hO; have HSK := Lib.hid hsk; have HRq := Lib.hid hRk; clear hSk hO hsk hRk
    obtain ⟨P, hPm⟩ : ∃ P, P = I0 + t := ⟨_, rfl⟩
    rw [← hPm]
    by_cases ht5 : t < 3
    · have p1 : P ≤ I2 := by have := HI2.out; omega
      have p2 : P < D := by omega
      obtain ⟨N, hN⟩ : ∃ N, N = (xorNext r).toNat := ⟨_, rfl⟩
      have hNl : N < 18446744073709551616 := by rw [hN]; exact (xorNext r).toNat_lt
      obtain ⟨M1, hM1m, hMi⟩ : ∃ M1 : Nat, M1 = M - 1 ∧ (M : Int) - 1 = (M1 : Int) := ⟨_, rfl, by omega⟩
      obtain ⟨O, hO⟩ : ∃ O, O = N &&& M1 := ⟨_, rfl⟩
      have hand : bits .and .u64 (N : Int) (M1 : Int) = (O : Int) := by rw [bits_and_u64_nat _ _ hNl (by omega), hO]
      have hOl : O ≤ M1 := by rw [hO]; exact Nat.and_le_right
      have o1 : O < 2 * L := by omega
      have o2 : O ≤ 2000000000 := by omega
      have HOX : Hid ((xorNext r).toNat &&& (M - 1) = O) := by show _ = _; rw [← hN, ← hM1m, hO]
      have hNx : xorNextN r.toNat = N := by rw [hN, xorNext_toNat]
      have HNX := Lib.hid (nextU w.heap.size r.toNat r.toNat_lt wr (cells_cell HRq.out.2 rfl) (cells_frozen HRq.out.2 0))
      rw [hNx] at HNX
      have HN := Lib.hid hN
      clear hO hN hNx hM1m
      have HPM := Lib.hid hPm; clear hPm
      go_wp2_with fail
      refine HNX.out.mono ?_
      rintro e w4 ⟨rfl, hw4⟩
      have HS4 : Hid (Srt w w4 blk off dk) := by show Srt _ _ _ _ _; rw [hw4]; exact (HSq.out.aside HRq.out.1 _).ahead 3
      have HR5 : Hid (Rnd w w4 w.heap.size (xorNext r)) := by
        show Rnd _ _ _ _
        rw [hw4]
        exact ⟨HRq.out.1, by rw [← HN.out]; exact set_heap HRq.out.2 0 _⟩
      have HS5 := HS4
      clear hw4
      by_cases hOL : L ≤ O
      · obtain ⟨o, hom, ho⟩ : ∃ o : Nat, o = O - L ∧ (O : Int) - (L : Int) = (o : Int) := ⟨_, rfl, by omega⟩
        have HOO : Hid ((if (xorNext r).toNat &&& (M - 1) ≥ L then ((xorNext r).toNat &&& (M - 1)) - L else (xorNext r).toNat &&& (M - 1)) = o) := by show _ = _; rw [HOX.out, if_pos hOL, hom]
        obtain ⟨Q, hQm, hQ⟩ : ∃ Q : Nat, Q = a + o ∧ (a : Int) + (o : Int) = (Q : Int) := ⟨_, rfl, by omega⟩
        have q1 : Q < D := by omega
        have q0 : o < L := by omega
        have HPQ : Hid (I0 + t = P ∧ a + o = Q) := ⟨HPM.out.symm, hQm.symm⟩
        clear hom hQm
        have k1 : (0 : Int) ≤ (P : Int) := by omega
        have k2 : (P : Int) < (D : Int) := by omega
        have k3 : (0 : Int) ≤ (Q : Int) := by omega
        have k4 : (Q : Int) < (D : Int) := by omega
        by_cases hpq : P = Q
        · subst hpq
          obtain ⟨X2, hX2⟩ : ∃ X2, X2 = dk[P]! := ⟨_, rfl⟩
          have HX2 := Lib.hid hX2; clear hX2
          go_wp2_with fail
          obtain ⟨cX, fX⟩ := HS5.out.holds P (by rw [HSK.out]; omega)
          rw [← HX2.out] at cX
          go_region
          all_goals
            go_wp2_with fail
            go_roundw
            case rel => exact ⟨t + 1, xorNext r, _, by have h := HPM.out; congr 1; omega, by omega, by rw [size_swp]; exact HSK.out, HS5.out.swap_any (i := P) (j := P) (by rw [HSK.out]; omega) (by rw [HSK.out]; omega) HX2.out HX2.out, ⟨HR5.out.1, by have h := HR5.out.2; simpa [World.setCell, Array.getElem?_modify, HNE.out, World.drew] using h⟩, by rw [← HST.out, bp_step a L M I0 t r dk o ht5 HOO.out, HPQ.out.1, HPQ.out.2]⟩
            case measure => (simp [intOf]) <;> omega
        · have hne : ¬ P = Q := hpq
          obtain ⟨X2, hX2⟩ : ∃ X2, X2 = dk[P]! := ⟨_, rfl⟩
          have HX2 := Lib.hid hX2; clear hX2
          obtain ⟨Y2, hY2⟩ : ∃ Y2, Y2 = dk[Q]! := ⟨_, rfl⟩
          have HY2 := Lib.hid hY2; clear hY2
          go_wp2_with fail
          obtain ⟨cX, fX⟩ := HS5.out.holds P (by rw [HSK.out]; omega)
          rw [← HX2.out] at cX
          obtain ⟨cY, fY⟩ := HS5.out.holds Q (by rw [HSK.out]; omega)
          rw [← HY2.out] at cY
          go_region
          all_goals
            go_wp2_with fail
            go_roundw
            case rel => exact ⟨t + 1, xorNext r, _, by have h := HPM.out; congr 1; omega, by omega, by rw [size_swp]; exact HSK.out, HS5.out.swap_any (i := P) (j := Q) (by rw [HSK.out]; omega) (by rw [HSK.out]; omega) HY2.out HX2.out, ⟨HR5.out.1, by have h := HR5.out.2; simpa [World.setCell, Array.getElem?_modify, HNE.out, World.drew] using h⟩, by rw [← HST.out, bp_step a L M I0 t r dk o ht5 HOO.out, HPQ.out.1, HPQ.out.2]⟩
            case measure => (simp [intOf]) <;> omega
      · obtain ⟨o, rfl⟩ : ∃ o : Nat, O = o := ⟨_, rfl⟩
        have HOO : Hid ((if (xorNext r).toNat &&& (M - 1) ≥ L then ((xorNext r).toNat &&& (M - 1)) - L else (xorNext r).toNat &&& (M - 1)) = O) := by show _ = _; rw [HOX.out, if_neg hOL]
        obtain ⟨Q, hQm, hQ⟩ : ∃ Q : Nat, Q = a + O ∧ (a : Int) + (O : Int) = (Q : Int) := ⟨_, rfl, by omega⟩
        have q1 : Q < D := by omega
        have HPQ : Hid (I0 + t = P ∧ a + O = Q) := ⟨HPM.out.symm, hQm.symm⟩
        clear hQm
        have k1 : (0 : Int) ≤ (P : Int) := by omega
        have k2 : (P : Int) < (D : Int) := by omega
        have k3 : (0 : Int) ≤ (Q : Int) := by omega
        have k4 : (Q : Int) < (D : Int) := by omega
        by_cases hpq : P = Q
        · subst hpq
          obtain ⟨X2, hX2⟩ : ∃ X2, X2 = dk[P]! := ⟨_, rfl⟩
          have HX2 := Lib.hid hX2; clear hX2
          go_wp2_with fail
          obtain ⟨cX, fX⟩ := HS5.out.holds P (by rw [HSK.out]; omega)
          rw [← HX2.out] at cX
          go_region
          all_goals
            go_wp2_with fail
            go_roundw
            case rel => exact ⟨t + 1, xorNext r, _, by have h := HPM.out; congr 1; omega, by omega, by rw [size_swp]; exact HSK.out, HS5.out.swap_any (i := P) (j := P) (by rw [HSK.out]; omega) (by rw [HSK.out]; omega) HX2.out HX2.out, ⟨HR5.out.1, by have h := HR5.out.2; simpa [World.setCell, Array.getElem?_modify, HNE.out, World.drew] using h⟩, by rw [← HST.out, bp_step a L M I0 t r dk O ht5 HOO.out, HPQ.out.1, HPQ.out.2]⟩
            case measure => (simp [intOf]) <;> omega
        · have hne : ¬ P = Q := hpq
          obtain ⟨X2, hX2⟩ : ∃ X2, X2 = dk[P]! := ⟨_, rfl⟩
          have HX2 := Lib.hid hX2; clear hX2
          obtain ⟨Y2, hY2⟩ : ∃ Y2, Y2 = dk[Q]! := ⟨_, rfl⟩
          have HY2 := Lib.hid hY2; clear hY2
          go_wp2_with fail
          obtain ⟨cX, fX⟩ := HS5.out.holds P (by rw [HSK.out]; omega)
          rw [← HX2.out] at cX
          obtain ⟨cY, fY⟩ := HS5.out.holds Q (by rw [HSK.out]; omega)
          rw [← HY2.out] at cY
          go_region
          all_goals
            go_wp2_with fail
            go_roundw
            case rel => exact ⟨t + 1, xorNext r, _, by have h := HPM.out; congr 1; omega, by omega, by rw [size_swp]; exact HSK.out, HS5.out.swap_any (i := P) (j := Q) (by rw [HSK.out]; omega) (by rw [HSK.out]; omega) HY2.out HX2.out, ⟨HR5.out.1, by have h := HR5.out.2; simpa [World.setCell, Array.getElem?_modify, HNE.out, World.drew] using h⟩, by rw [← HST.out, bp_step a L M I0 t r dk O ht5 HOO.out, HPQ.out.1, HPQ.out.2]⟩
            case measure => (simp [intOf]) <;> omega
    · have ht3 : t = 3 := by omega
      subst ht3
      have HE : Hid (dk = breakPatterns d a b) := HST.out
      have p1 : ¬ P ≤ I2 := by have := HI2.out; omega
      clear hPm
      go_wp2_with fail
      go_end0
      exact ⟨rfl, by rw [← HE.out]; exact HSq.out⟩
end Go.Proofs.Ythfhmohbfoolnaa
