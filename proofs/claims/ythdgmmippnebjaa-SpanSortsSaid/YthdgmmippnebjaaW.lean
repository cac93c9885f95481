import Derived.Test.YthdgmmippnebjaaV
import Derived.Test.YthdgmmippnebjaaR
import Derived.Test.YthdgmmippnebjaaG
namespace Go.Proofs.Ythdgmmippnebjaa
open Go.Shelf Go.RowKit Go.Sort

theorem same_is (a b : Option Addr) (c d n m : Nat) (L M : List Sp) (r : Bool) (hr : r = decide (L = M)) (hn : n = L.length) (hm' : m = M.length) (w : World) (ha : Rd w w.heap.size a (flatL L)) (hb : Rd w w.heap.size b (flatL M)) (hl : L.length ≤ maxLen) (hm : M.length ≤ maxLen) :
    Calls Try.prog 18 #[.slice a n c, .slice b m d] w fun e w' => e = .returned (.bool r) ∧ Below w.heap.size w w' := by
  subst hn hm' hr; exact same_any a b c d L M w ha hb hl hm
theorem own_len {w : World} {base : Nat} {v : Value} {n : Nat} {L : List Sp} (h : w.ownsRow base 26 8 v n (flatL L)) : L.length = n := by
  have := h.1; rw [flatL_length] at this; omega
/-- What is owned, with the number of one of its spans raised. -/
theorem flatL_set : ∀ (M : List Sp) (i : Nat) (h : i < M.length) (x : Int), (flatL M).set (i * 8 + 1) (.int .u64 x) = flatL (M.set i { M[i] with id := x })
  | [], i, h, _ => absurd h (by simp)
  | s :: M, 0, _, x => by simp [flatL_cons, Sp.c]
  | s :: M, i + 1, h, x => by
    rw [flatL_cons, List.set_append_right _ _ (by rw [c_len]; omega), c_len, List.set_cons_succ, flatL_cons, show (i + 1) * 8 + 1 - 8 = i * 8 + 1 by omega, flatL_set M i (by simpa using h) x]
    rfl

theorem own_slice {w : World} {base : Nat} {e : TypeId} {size : Nat} {v : Value} {n : Nat} {xs : List Value} (h : w.ownsRow base e size v n xs) :
    ∃ a c, v = .slice a n c ∧ (0 < n → ∃ g, a = some ⟨g, 0, none⟩ ∧ base ≤ g ∧ g < w.heap.size) := by
  rcases h.2 with ⟨rfl, rfl⟩ | ⟨g, cap, cur, rfl, hb, hg, hnc, hcm, _⟩
  · exact ⟨none, 0, rfl, fun h => absurd h (by omega)⟩
  · exact ⟨_, cap, rfl, fun _ => ⟨g, rfl, hb, (Array.getElem?_eq_some_iff.1 hg).1⟩⟩

set_option maxHeartbeats 2000000 in
theorem law_sorts (a : Option Addr) (c : Nat) (L : List Sp) (w : World) (ha : Rd w w.heap.size a (flatL L)) (_hl : L.length ≤ c) (_hc : c ≤ maxLen) (hok : ∀ s ∈ L, s.Ok) :
    Calls Try.prog 6 #[.slice a L.length c] w fun e w' => e = .returned (.bool true) ∧ Below w.heap.size w w' := by
  obtain ⟨i0, hi0, hz0, hz1, hz2⟩ := info_parts info26
  have HZ2 := Lib.hid hz2; clear hz2
  have HA := Lib.hid ha; have HOK := Lib.hid hok; clear ha hok
  by_cases hlong : 60 < L.length
  · go_enter Try.func6, Try.ntmps6
    go_wp2_with (go_at_call 7; refine (fixed_any _).mono ?_; rintro e w' ⟨rfl, hb⟩)
    go_ret
    exact ⟨rfl, hb⟩
  go_enter Try.func6, Try.ntmps6
  go_wp2
  go_loopw [16] (fun i wr => ∃ n : Nat, n ≤ L.length ∧ i = .int .i64 n ∧ RowKit.Below w.heap.size w wr) (fun i _ => L.length - (intOf i).toNat)
  case atStart => exact ⟨0, Nat.zero_le _, rfl, RowKit.Below.refl _ _⟩
  case round =>
    obtain ⟨n, hn, rfl, hb⟩ := hrel
    have HB := Lib.hid hb; clear hb
    generalize wr = W1 at *
    by_cases hlt : n < L.length
    · obtain ⟨b2, o2, hb1, hB2', f0, f1, f2, f3, f4, f5, f6, f7⟩ := (HA.out.below HB.out).elem hlt
      subst hb1
      have OKs := Lib.hid (HOK.out L[n] (List.getElem_mem _))
      generalize L[n] = s at *
      have i3 : (n : Int) < (L.length : Int) := by omega
      have i4 : (0 : Int) ≤ (n : Int) := by omega
      cases hls : longB s
      · have HL := Lib.hid hls; clear hls
        go_wp2_with fail
        refine (long_is HL.out _ OKs.out.host OKs.out.name).mono ?_; rintro e w2 ⟨rfl, hb2⟩
        go_wp2
        go_roundw
        case rel => exact ⟨n + 1, by omega, by go_num, HB.out.trans ((bel2 (box1 _ _) hb2).mono HB.out.size)⟩
        case measure => simp [intOf]; omega
      · have HL := Lib.hid hls; clear hls
        go_wp2_with fail
        refine (long_is HL.out _ OKs.out.host OKs.out.name).mono ?_; rintro e w2 ⟨rfl, hb2⟩
        go_wp2_with (go_at_call 7; refine (fixed_any _).mono ?_; rintro e w' ⟨rfl, hb⟩)
        go_ret
        exact ⟨rfl, HB.out.trans ((bel2 (bel2 (box1 _ _) hb2) hb).mono HB.out.size)⟩
    · have hnl : n = L.length := by omega
      have HNL := Lib.hid hnl; clear hnl
      have hl60 : L.length ≤ 60 := by omega
      go_wp2_with (at_builtin
                   refine wpList_append_rd _ rfl (.tmp 24) (.tmp 25) 32 rfl w.heap.size 26 i0 _ 8 80 Try.underlying32 hi0 hz0 hz1 HZ2.out rfl (by omega) (.slice (some ⟨W1.heap.size, 0, none⟩) 0 0) 0 [] rfl (World.ownsRow_made W1 #[] 0 HB.out.size (by decide) rfl) w.heap.size a L.length c (flatL L) rfl (flatL_length L) (HA.out.below (HB.out.alloc HB.out.size _)) (flatL_one L) (by unfold maxLen; omega) (by omega) (by simp; exact Nat.le_succ_of_le HB.out.size) ?_
                   intro v2 w2 hown2 hg2 hat2
                   have HO2 := Lib.hid hown2; have HG2 := Lib.hid hg2; have HT2 := Lib.hid hat2; clear hown2 hg2 hat2)
      obtain ⟨g2, hv2⟩ : ∃ g2, v2.ownBlock = some g2 := by rcases HT2.out with h | h <;> exact ⟨_, h⟩
      obtain ⟨hg2b, hg2s, cap2, hv2', _, _⟩ := own_shape HO2.out hv2
      rw [Nat.zero_add] at hv2'
      have hown2 := HO2.out
      rw [Nat.zero_add, List.nil_append] at hown2
      have hb2 : RowKit.Below w.heap.size w w2 := (HB.out.alloc HB.out.size _).grown HG2.out (by simp; exact Nat.le_succ_of_le HB.out.size) (by intro k hk; have := HB.out.size; simp [Value.ownBlock] at hk; omega)
      subst hv2'
      clear HO2 HG2 HT2 hv2
      have HO2 := Lib.hid hown2; have HB2 := Lib.hid hb2; have HS2 := Lib.hid hg2s; clear hown2 hb2 hg2s
      refine (sort_any a c L w2 ((HA.out.below HB2.out).more HB2.out.size) (by omega)).mono ?_
      rintro e w3 ⟨v3, rfl, hown3, hb3⟩
      have HO3 := Lib.hid hown3; have HB3 := Lib.hid hb3; clear hown3 hb3
      go_wp2_with fail
      refine (refSort_any _ _ L w3 (Rd.own (own_below HO2.out HB3.out)) (by omega) HOK.out).mono ?_
      rintro e w4 ⟨v4, rfl, hown4, hb4⟩
      have HO4 := Lib.hid hown4; have HB4 := Lib.hid hb4; clear hown4 hb4
      go_wp2_with fail
      obtain ⟨a3, c3, rfl, hs3⟩ := own_slice HO3.out
      obtain ⟨a4, c4, rfl, _⟩ := own_slice HO4.out
      have hlen : (sortL L).length = L.length := sortL_length L
      have hlm : (sortL L).length ≤ maxLen := by rw [hlen]; unfold maxLen; omega
      refine (same_is a3 a4 c3 c4 L.length L.length (sortL L) (sortL L) true (by simp) hlen.symm hlen.symm w4 (Rd.own (own_below HO3.out HB4.out)) (Rd.own HO4.out) hlm hlm).mono ?_
      rintro e w5 ⟨rfl, hb5⟩
      have HO5 : Hid (w5.ownsRow w2.heap.size 26 8 (.slice a3 L.length c3) L.length (flatL (sortL L))) := own_below (own_below HO3.out HB4.out) hb5
      have HB5 : Hid (RowKit.Below w2.heap.size w2 w5) := bel2 (bel2 HB3.out HB4.out) hb5
      have HS3 := Lib.hid hs3
      clear hlen hlm hb5 hs3 HO3 HB3 HO4 HB4
      go_wp2
      go_loopw [36] (fun i wr => ∃ (n : Nat) (M : List Sp), n ≤ L.length ∧ i = .int .i64 n ∧ wr.ownsRow w2.heap.size 26 8 (.slice a3 L.length c3) L.length (flatL M) ∧ RowKit.Below w2.heap.size w2 wr) (fun i _ => L.length - (intOf i).toNat)
      case atStart => exact ⟨0, _, Nat.zero_le _, rfl, HO5.out, HB5.out⟩
      case round =>
        obtain ⟨m, M, hm, rfl, hown6, hb6⟩ := hrel
        have HO6 := Lib.hid hown6; have HB6 := Lib.hid hb6; clear hown6 hb6
        generalize wr = w6 at *
        by_cases hlt : m < L.length
        · obtain ⟨g3, ha3, hg3, _⟩ := HS3.out (by omega)
          subst ha3
          have hM : Hid (M.length = L.length) := own_len HO6.out
          have hmM : m < M.length := by have := hM.out; omega
          have hcell : w6.cell? ⟨g3, m * 8 + 1, none⟩ = some (.int .u64 (M[m]).id) := by
            rw [HO6.out.cellAt (m * 8 + 1) (by omega), flatL_get M m hmM 1 (by omega)]; rfl
          have hfr : w6.frozen? ⟨g3, m * 8 + 1, none⟩ = false := HO6.out.frozenAt (m * 8 + 1)
          have HST := Lib.hid (HO6.out.stored (m * 8 + 1) (.int .u64 (IntKind.u64.wrap ((M[m]).id + 1))))
          have i3 : (m : Int) < (L.length : Int) := by omega
          have i4 : (0 : Int) ≤ (m : Int) := by omega
          have hset := flatL_set M m hmM (IntKind.u64.wrap ((M[m]).id + 1))
          have HSET := Lib.hid hset; clear hset
          go_wp2
          go_roundw
          case rel => exact ⟨m + 1, M.set m { M[m] with id := IntKind.u64.wrap ((M[m]).id + 1) }, by omega, by go_num, by rw [← HSET.out]; exact HST.out.1, HB6.out.grown HST.out.2 HB6.out.size (by intro k hk; simp at hk; omega)⟩
          case measure => simp [intOf]; omega
        · have HBF : Hid (RowKit.Below w.heap.size w w6) := HB2.out.trans (HB6.out.mono HB2.out.size)
          have HO26 : Hid (w6.ownsRow w.heap.size 26 8 (.slice (some ⟨g2, 0, none⟩) L.length cap2) L.length (flatL L)) := own_below HO2.out HB6.out
          go_wp2_with fail
          refine (fixed_any _).mono ?_
          rintro e w7 ⟨rfl, hb7⟩
          have HB7 : Hid (RowKit.Below w.heap.size w w7) := bel2 HBF.out hb7
          have HO27 : Hid (w7.ownsRow w.heap.size 26 8 (.slice (some ⟨g2, 0, none⟩) L.length cap2) L.length (flatL L)) := own_below HO26.out hb7
          clear hb7 HO26 HBF
          go_wp2_with fail
          refine (same_is a (some ⟨g2, 0, none⟩) c cap2 L.length L.length L L true (by simp) rfl rfl w7 ((HA.out.below HB7.out).more HB7.out.size) (Rd.own HO27.out) (by unfold maxLen; omega) (by unfold maxLen; omega)).mono ?_
          rintro e w8 ⟨rfl, hb8⟩
          go_wp2
          go_ret
          exact ⟨rfl, bel2 HB7.out hb8⟩
end Go.Proofs.Ythdgmmippnebjaa
