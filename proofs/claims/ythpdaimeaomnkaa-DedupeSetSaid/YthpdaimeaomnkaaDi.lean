import Derived.Test.YthpdaimeaomnkaaDc
import Derived.Test.YthpdaimeaomnkaaDd
import Derived.Test.YthpdaimeaomnkaaDh
import Derived.Test.YthpdaimeaomnkaaSg
namespace Go.Proofs.Ythpdaimeaomnkaa
open Go Go.RowKit Go.Sort Go.Shelf
set_option linter.unusedVariables false

def p9 : Sp := ⟨1, 2, 0, 0, ⟨#[97]⟩, ⟨#[98]⟩, 5, 0⟩
def q9 : Sp := ⟨1, 2, 0, 0, ⟨#[97]⟩, ⟨#[98]⟩, 3, 0⟩
theorem p9_ok : p9.Ok := by
  refine ⟨?_, ?_, ?_, ?_, by decide, by decide, ?_, ?_⟩ <;> (first | (unfold U64; simp [p9]) | (unfold U8; simp [p9]) | (unfold I64; simp [p9]))
theorem q9_ok : q9.Ok := by
  refine ⟨?_, ?_, ?_, ?_, by decide, by decide, ?_, ?_⟩ <;> (first | (unfold U64; simp [q9]) | (unfold U8; simp [q9]) | (unfold I64; simp [q9]))
theorem of9 : ofL [p9, q9] 1 = [q9] := by
  have hf : [p9, q9].filter (recB 1) = [p9, q9] := by
    have h1 : recB 1 p9 = true := by decide +kernel
    have h2 : recB 1 q9 = true := by decide +kernel
    simp [List.filter_cons, h1, h2]
  have hc : cmpI q9 p9 = -1 := by decide +kernel
  have h : Counts ([p9, q9].filter (recB 1)) [q9] := by
    rw [hf]
    refine ⟨List.pairwise_singleton _ _, fun y hy => by rw [List.mem_singleton.1 hy]; simp, fun x hx => ⟨q9, by simp, ?_⟩⟩
    rcases List.mem_cons.1 hx with rfl | hx
    · exact ⟨rfl, by omega⟩
    · rw [List.mem_singleton.1 hx]; exact ⟨rfl, by rw [cmpI_refl]; exact Int.le_refl 0⟩
  rw [← ofL_is h]
  exact (sortL_unique (List.Perm.refl _) (List.pairwise_singleton _ _)).symm

set_option maxHeartbeats 1000000 in
theorem fixed9_any (w : World) : Calls Try.prog 8 #[] w fun e w' => e = .returned (.bool true) ∧ Below w.heap.size w w' := by
  have HR := Lib.hid (show Rd (w.alloc (.cells (p9.c ++ q9.c) 29)) (w.alloc (.cells (p9.c ++ q9.c) 29)).heap.size (some ⟨w.heap.size, 0, none⟩) (flatL [p9, q9]) from by
    have h := lit_rd w (p9.c ++ q9.c) 29
    have e : flatL [p9, q9] = (p9.c ++ q9.c).toList := by simp [flatL]
    rw [e]
    exact h.more (by simp))
  go_enter Try.func8, Try.ntmps8
  go_wp2_with fail
  refine (of_any (some ⟨w.heap.size, 0, none⟩) 2 [p9, q9] 1 _ HR.out (by decide) (by intro s hs; rcases List.mem_cons.1 hs with rfl | hs; exact p9_ok; rw [List.mem_singleton.1 hs]; exact q9_ok)).mono ?_
  rw [of9]
  rintro e w1 ⟨v, rfl, hown, hb⟩
  have HB := Lib.hid (bel2 (box1 w (.cells (p9.c ++ q9.c) 29)) hb)
  obtain ⟨va, vc, rfl, h1, h2, h3⟩ := own_slice hown
  obtain ⟨b1, o1, rfl, _, e0, e1, e2, e3, e4, e5, e6, e7⟩ := (Rd.own hown).elem (i := 0) (by decide)
  have e6' : w1.cell? ⟨b1, o1 + 6, none⟩ = some (.int .i64 3) := by
    have h := e6
    simp only [Nat.zero_mul, Nat.add_zero] at h
    exact h
  clear hown h1 h2 h3 hb e0 e1 e2 e3 e4 e5 e6 e7 HR
  go_wp2_with fail
  go_ret
  exact ⟨rfl, HB.out⟩

set_option maxHeartbeats 2000000 in
theorem law_hosts (a : Option Addr) (c : Nat) (L : List Sp) (b : Option Addr) (d : Nat) (K : List Tx) (s : ByteArray) (w : World) (ha : Rd w w.heap.size a (flatL L)) (hc1 : L.length ≤ maxLen) (hok : ∀ s ∈ L, s.Ok)
    (hb : Rd w w.heap.size b (strV K)) (hk : K.length ≤ maxLen) :
    Calls Try.prog 6 #[.slice a L.length c, .slice b K.length d, .string s] w fun e w' => e = .returned (.bool true) ∧ Below w.heap.size w w' := by
  have HA := Lib.hid ha; have HK := Lib.hid hb; have HOK := Lib.hid hok; have HC := Lib.hid hc1; have HKL := Lib.hid hk; clear ha hb hok
  unfold maxLen at hc1 hk
  by_cases hg : greatB L = true
  · have HG := Lib.hid hg; clear hg
    go_enter Try.func6, Try.ntmps6
    go_wp2_with (first
      | (go_at_call 7; refine (great_any a c L w HA.out HC.out HOK.out).mono ?_; rw [HG.out]; rintro e w1 ⟨rfl, hb1⟩)
      | (go_at_call 8; refine (fixed9_any _).mono ?_; rintro e w2 ⟨rfl, hb2⟩))
    go_ret
    exact ⟨rfl, bel2 hb1 hb2⟩
  have hg' : greatB L = false := by simpa using hg
  have hl60 : L.length ≤ 60 := by simp [greatB] at hg; omega
  have HG := Lib.hid hg'; clear hg hg'
  by_cases hn : 60 < K.length
  · go_enter Try.func6, Try.ntmps6
    go_wp2_with (first
      | (go_at_call 7; refine (great_any a c L w HA.out HC.out HOK.out).mono ?_; rw [HG.out]; rintro e w1 ⟨rfl, hb1⟩)
      | (go_at_call 8; refine (fixed9_any _).mono ?_; rintro e w2 ⟨rfl, hb2⟩))
    go_ret
    exact ⟨rfl, bel2 hb1 hb2⟩
  have hkl : (hostsL L).length ≤ maxLen := by have := hosts_length L; unfold maxLen; omega
  have HHL := Lib.hid hkl; clear hkl
  generalize hpl : placeL K (txt s) = pl
  have HPL := Lib.hid hpl; clear hpl
  generalize hhl : hostsL L = H at HHL
  have HHD := Lib.hid hhl; clear hhl
  go_enter Try.func6, Try.ntmps6
  go_wp2_with (first
    | (go_at_call 7
       refine (great_any a c L w HA.out HC.out HOK.out).mono ?_; rw [HG.out]; rintro e w1 ⟨rfl, hb1⟩
       have HB1 := Lib.hid hb1; clear hb1)
    | (go_at_call 14
       refine (hosts_any a c L w1 ((HA.out.below HB1.out).more HB1.out.size) (by omega)).mono ?_; rintro e w2 ⟨v2, rfl, hown2, hb2⟩
       rw [HHD.out] at hown2
       have HO2 := Lib.hid hown2; have HB2 := Lib.hid (bel2 HB1.out hb2); clear hown2 hb2
       obtain ⟨a2, c2, rfl, _, _, _⟩ := own_slice HO2.out)
    | (go_at_call 8
       refine (fixed9_any _).mono ?_; rintro e w3 ⟨rfl, hb3⟩
       have HO3 := Lib.hid (own_below HO2.out hb3); have HB3 := Lib.hid (bel2 HB2.out hb3); clear hb3 HO2)
    | (go_at_call 16
       refine (refHosts_any a c L w3 ((HA.out.below HB3.out).more HB3.out.size) (by omega) HOK.out).mono ?_; rintro e w4 ⟨v4, rfl, hown4, hb4⟩
       rw [HHD.out] at hown4
       have HO4 := Lib.hid hown4; have HO4b := Lib.hid (own_below HO3.out hb4); have HB4 := Lib.hid (bel2 HB3.out hb4); clear hown4 hb4 HO3
       obtain ⟨a4, c4, rfl, _, _, _⟩ := own_slice HO4.out)
    | (go_at_call 15
       refine (refSame_any a2 a4 c2 c4 H H w4 (Rd.own HO4b.out) (Rd.own HO4.out) HHL.out HHL.out).mono ?_; rintro e w5 ⟨rfl, hb5⟩
       have HB5 := Lib.hid (bel2 HB4.out hb5); clear hb5)
    | (go_at_call 17
       refine (place_any b d K s w5 ((HK.out.below HB5.out).more HB5.out.size) HKL.out).mono ?_; rintro e w6 ⟨rfl, hb6⟩
       rw [HPL.out]
       have HB6 := Lib.hid (bel2 HB5.out hb6); clear hb6)
    | (go_at_call 18
       refine (refPlace_any b d K s w6 ((HK.out.below HB6.out).more HB6.out.size) HKL.out).mono ?_; rintro e w7 ⟨rfl, hb7⟩
       rw [HPL.out]
       have HB7 := Lib.hid (bel2 HB6.out hb7); clear hb7))
  go_ret
  exact ⟨ret_bool (by simp), HB7.out⟩
end Go.Proofs.Ythpdaimeaomnkaa
