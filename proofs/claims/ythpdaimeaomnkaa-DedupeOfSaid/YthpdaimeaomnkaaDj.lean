import Derived.Test.YthpdaimeaomnkaaDi
namespace Go.Proofs.Ythpdaimeaomnkaa
open Go Go.RowKit Go.Sort Go.Shelf
set_option linter.unusedVariables false

/-- What is owned, with the number of one of its spans changed. -/
theorem flatL_set : ∀ (M : List Sp) (i : Nat) (h : i < M.length) (x : Int), (flatL M).set (i * 8 + 1) (.int .u64 x) = flatL (M.set i { M[i] with id := x })
  | [], i, h, _ => absurd h (by simp)
  | s :: M, 0, _, x => by simp [flatL_cons, Sp.c]
  | s :: M, i + 1, h, x => by
    rw [flatL_cons, List.set_append_right _ _ (by rw [c_len]; omega), c_len, List.set_cons_succ, flatL_cons, show (i + 1) * 8 + 1 - 8 = i * 8 + 1 by omega, flatL_set M i (by simpa using h) x]
    rfl
set_option maxHeartbeats 4000000 in
theorem law_of (a : Option Addr) (c : Nat) (L : List Sp) (t : Int) (w : World) (ha : Rd w w.heap.size a (flatL L)) (hc1 : L.length ≤ maxLen) (hok : ∀ s ∈ L, s.Ok) :
    Calls Try.prog 3 #[.slice a L.length c, .int .u64 t] w fun e w' => e = .returned (.bool true) ∧ Below w.heap.size w w' := by
  obtain ⟨i0, hi0, hz0, hz1, hz2⟩ := info_parts info_sp
  have HZ2 := Lib.hid hz2; clear hz2
  have HA := Lib.hid ha; have HOK := Lib.hid hok; have HC := Lib.hid hc1; clear ha hok
  unfold maxLen at hc1
  by_cases hg : greatB L = true
  · have HG := Lib.hid hg; clear hg
    go_enter Try.func3, Try.ntmps3
    go_wp2_with (first
      | (go_at_call 7; refine (great_any a c L w HA.out HC.out HOK.out).mono ?_; rw [HG.out]; rintro e w1 ⟨rfl, hb1⟩)
      | (go_at_call 8; refine (fixed9_any _).mono ?_; rintro e w2 ⟨rfl, hb2⟩))
    go_ret
    exact ⟨rfl, bel2 hb1 hb2⟩
  have hg' : greatB L = false := by simpa using hg
  have hl60 : L.length ≤ 60 := by simp [greatB] at hg; omega
  have HG := Lib.hid hg'; clear hg hg'
  generalize hO : ofL L t = O
  have hol : O.length ≤ 60 := by have := ofL_length L t; rw [hO] at this; omega
  have HOE := Lib.hid hO; clear hO
  obtain ⟨m, hm⟩ : ∃ m, m = O.length := ⟨_, rfl⟩
  rw [← hm] at hol
  have HM := Lib.hid hm; clear hm
  go_enter Try.func3, Try.ntmps3
  go_wp2_with (first
    | (go_at_call 7
       refine (great_any a c L w HA.out HC.out HOK.out).mono ?_; rw [HG.out]; rintro e w1 ⟨rfl, hb1⟩
       have HB1 := Lib.hid hb1; clear hb1)
    | (at_builtin
       refine wpList_append_rd _ rfl (.tmp 12) (.tmp 13) 22 rfl w.heap.size 29 i0 _ 8 80 Try.underlying22 hi0 hz0 hz1 HZ2.out rfl (by omega) (.slice (some ⟨w1.heap.size, 0, none⟩) 0 0) 0 [] rfl (World.ownsRow_made w1 #[] 0 HB1.out.size (by decide) rfl) w.heap.size a L.length c (flatL L) rfl (flatL_length L) (HA.out.below (HB1.out.alloc HB1.out.size _)) (flatL_one L) (by unfold maxLen; omega) (by omega) (by have := HB1.out.size; simp; omega) ?_
       intro v2 w2 hown2 hg2 _
       rw [Nat.zero_add, List.nil_append] at hown2
       obtain ⟨a2, c2, rfl, _, _, _⟩ := own_slice hown2
       have HO2 := Lib.hid hown2
       have HB2 := Lib.hid ((HB1.out.alloc HB1.out.size _).grown hg2 (by have := HB1.out.size; simp; omega) (by intro k hk; have := HB1.out.size; simp [Value.ownBlock] at hk; omega))
       clear hown2 hg2)
    | (go_at_call 9
       refine (of_any a c L t w2 ((HA.out.below HB2.out).more HB2.out.size) (by omega) HOK.out).mono ?_; rintro e w3 ⟨v3, rfl, hown3, hb3⟩
       rw [HOE.out, ← HM.out] at hown3
       have HO3 := Lib.hid hown3; have HB3 := Lib.hid hb3; have HO23 := Lib.hid (own_below HO2.out hb3); clear hown3 hb3
       obtain ⟨a3, c3, rfl, _, _, hs3⟩ := own_slice HO3.out
       have HS3 := Lib.hid hs3; clear hs3)
    | (go_at_call 11
       refine (refOf_any a2 c2 L t w3 (Rd.own HO23.out) (by omega) HOK.out).mono ?_; rintro e w4 ⟨v4, rfl, hown4, hb4⟩
       rw [HOE.out, ← HM.out] at hown4
       have HO4 := Lib.hid hown4; have HB4 := Lib.hid (bel2 HB3.out hb4); have HO24 := Lib.hid (own_below HO23.out hb4); have HO34 := Lib.hid (own_below HO3.out hb4); clear hown4 hb4
       obtain ⟨a4, c4, rfl, _, _, _⟩ := own_slice HO4.out)
    | (go_at_call 10
       refine (same_is a3 a4 c3 c4 m m O O true (by simp) HM.out HM.out w4 (Rd.own HO34.out) (Rd.own HO4.out) (by rw [← HM.out]; unfold maxLen; omega) (by rw [← HM.out]; unfold maxLen; omega)).mono ?_; rintro e w5 ⟨rfl, hb5⟩
       have HB5 := Lib.hid (bel2 HB4.out hb5); have HO25 := Lib.hid (own_below HO24.out hb5); have HO35 := Lib.hid (own_below HO34.out hb5); clear hb5))
  go_loopw [25] (fun i wr => ∃ (n : Nat) (M : List Sp), n ≤ m ∧ i = .int .i64 n ∧ wr.ownsRow w2.heap.size 29 8 (.slice a3 m c3) m (flatL M) ∧ Below w2.heap.size w2 wr) (fun i _ => m - (intOf i).toNat)
  case atStart => exact ⟨0, _, Nat.zero_le _, rfl, HO35.out, HB5.out⟩
  case round =>
    obtain ⟨n, M, hn, rfl, hown6, hb6⟩ := hrel
    have hMl : M.length = m := by have := hown6.1; rw [flatL_length] at this; omega
    have HML := Lib.hid hMl; clear hMl
    have HO6 := Lib.hid hown6; have HB6 := Lib.hid hb6; clear hown6 hb6
    generalize wr = w6 at *
    by_cases hlt : n < m
    · obtain ⟨g3, ha3, hg3, _⟩ := HS3.out (by omega)
      subst ha3
      have hmM : n < M.length := by have := HML.out; omega
      have hcell : w6.cell? ⟨g3, n * 8 + 1, none⟩ = some (.int .u64 (M[n]).id) := by
        rw [HO6.out.cellAt (n * 8 + 1) (by omega), flatL_get M n hmM 1 (by omega)]; rfl
      have hfr : w6.frozen? ⟨g3, n * 8 + 1, none⟩ = false := HO6.out.frozenAt (n * 8 + 1)
      have HST := Lib.hid (HO6.out.stored (n * 8 + 1) (.int .u64 0))
      have HSET := Lib.hid (flatL_set M n hmM 0)
      have i3 : (n : Int) < (m : Int) := by omega
      have i4 : (0 : Int) ≤ (n : Int) := by omega
      go_wp2
      go_roundw
      case rel => exact ⟨n + 1, M.set n { M[n] with id := 0 }, by omega, by go_num, by rw [← HSET.out]; exact HST.out.1, HB6.out.grown HST.out.2 HB6.out.size (by intro k hk; simp at hk; omega)⟩
      case measure => simp [intOf]; omega
    · have HO26 := Lib.hid (own_below HO2.out HB6.out)
      have HR6 := Lib.hid (((HA.out.below HB2.out).more HB2.out.size).below HB6.out)
      have HBF := Lib.hid (HB2.out.trans (HB6.out.mono HB2.out.size))
      go_wp2_with (first
        | (go_at_call 8
           refine (fixed9_any _).mono ?_; rintro e w7 ⟨rfl, hb7⟩
           have HB7 := Lib.hid hb7; clear hb7)
        | (go_at_call 10
           refine (same_is a a2 c c2 L.length L.length L L true (by simp) rfl rfl w7 ((HR6.out.more HB6.out.size).below HB7.out |>.more HB7.out.size) (Rd.own (own_below HO26.out HB7.out)) HC.out HC.out).mono ?_; rintro e w8 ⟨rfl, hb8⟩
           have HB8 := Lib.hid hb8; clear hb8))
      go_ret
      exact ⟨rfl, bel2 (bel2 HBF.out HB7.out) HB8.out⟩
end Go.Proofs.Ythpdaimeaomnkaa
