import Derived.Test.YtkaafjcfcknbpaaMh
namespace Go.Proofs.Ytkaafjcfcknbpaa
open Go Go.RowKit Go.Sort

/-! The law's 'same' and the chapter's example. -/
set_option maxRecDepth 20000 in
set_option maxHeartbeats 1000000 in
theorem same7_is (N K : Nat) (a1 a2 : Option Addr) (n1 n2 c1 c2 B0 : Nat) (xs : List Bod) (g : Int) (r : Bool) (w : World) (h1 : n1 = xs.length) (h2 : n2 = xs.length) (hr : r = (decide (0 < K) && decide (xs.length = K)))
    (hr1 : Rd w w.heap.size a1 (xs.map Bod.v)) (hr2 : Rd w w.heap.size a2 (sV (xs.map Bod.b))) (hb : ∀ x ∈ xs, BodAt B0 x w) (hl : xs.length ≤ 1000000000000) :
    Calls Try.prog 12 #[.agg (sgV N K (.slice a1 n1 c1) g r), .agg (sgR N K (.slice a2 n2 c2) g)] w fun e w' => e = .returned (.bool true) ∧ Below w.heap.size w w' := by
  obtain ⟨S, hS⟩ : ∃ S, S = Obj.cells (sgV N K (.slice a1 n1 c1) g r) 31 := ⟨_, rfl⟩
  obtain ⟨X, hX⟩ : ∃ X, X = Obj.cells (sgR N K (.slice a2 n2 c2) g) 38 := ⟨_, rfl⟩
  have HB2 : Hid (Below w.heap.size w ((w.alloc S).alloc X)) := (box1 w S).alloc (box1 w S).size X
  have HBB : Hid (∀ x ∈ xs, BodAt B0 x ((w.alloc S).alloc X)) := fun x hx => (hb x hx).below HB2.out
  have HR1 : Hid (Rd ((w.alloc S).alloc X) ((w.alloc S).alloc X).heap.size a1 (xs.map Bod.v)) := (hr1.below HB2.out).more HB2.out.size
  have HR2 : Hid (Rd ((w.alloc S).alloc X) ((w.alloc S).alloc X).heap.size a2 (sV (xs.map Bod.b))) := (hr2.below HB2.out).more HB2.out.size
  have HSA : Hid (((w.alloc S).alloc X).rangeAt w.heap.size 0 (sgV N K (.slice a1 n1 c1) g r).toList) := by rw [hS]; exact World.rangeAt_alloc (rangeAt_last w _ _ _ rfl) X
  have HXA : Hid (((w.alloc S).alloc X).rangeAt (w.heap.size + 1) 0 (sgR N K (.slice a2 n2 c2) g).toList) := by rw [hX]; exact rangeAt_last (w.alloc S) _ _ _ (by simp)
  have HSZ : Hid (((w.alloc S).alloc X).heap.size = w.heap.size + 1 + 1) := by show _ = _; simp
  have H1 := Lib.hid h1; have H2 := Lib.hid h2
  rw [← h2] at hr
  subst hS hX
  clear hr1 hr2 hb h1
  unfold sgV sgR at *
  have hcut : ∀ n : Nat, n2 = n → r = (decide (0 < K) && decide (n = K)) := fun n e => by rw [hr, e]
  have hfin : ∀ b : Bool, r = b → (r == b) = true := fun b e => by rw [e]; simp
  by_cases hk : 0 < K
  · have hk' : (0 : Int) < (K : Int) := by omega
    have hr' : r = ((n2 : Int) == (K : Int)) := by rw [hr, beqI]; simp [hk]
    have HRR := Lib.hid hr'
    clear hr h2 hcut hr'
    go_enter Try.func12, Try.ntmps12
    go_wp2_with fail
    refine (same6_any a1 a2 n1 n2 c1 c2 B0 xs _ H1.out H2.out HR1.out HR2.out HBB.out hl).mono ?_; rintro e w3 ⟨rfl, hb3⟩
    have HB3 := Lib.hid (HB2.out.trans (hb3.mono HB2.out.size))
    have rs := range_below HSA.out hb3 (by rw [HSZ.out]; omega)
    have rx := range_below HXA.out hb3 (by rw [HSZ.out]; omega)
    have s4 := rs 4 _ rfl; have x1 := rx 1 _ rfl; have x2 := rx 2 _ rfl
    rw [Nat.zero_add] at s4 x1 x2
    clear hb3 rs rx
    go_wp2_with fail
    go_ret
    exact ⟨ret_bool (by rw [HRR.out]; simp), HB3.out⟩
  · have hk' : ¬ (0 : Int) < (K : Int) := by omega
    have hr' : r = false := by rw [hr]; simp [hk]
    clear hr h2 hcut
    subst hr'
    go_enter Try.func12, Try.ntmps12
    go_wp2_with fail
    refine (same6_any a1 a2 n1 n2 c1 c2 B0 xs _ H1.out H2.out HR1.out HR2.out HBB.out hl).mono ?_; rintro e w3 ⟨rfl, hb3⟩
    have HB3 := Lib.hid (HB2.out.trans (hb3.mono HB2.out.size))
    have rs := range_below HSA.out hb3 (by rw [HSZ.out]; omega)
    have rx := range_below HXA.out hb3 (by rw [HSZ.out]; omega)
    have s4 := rs 4 _ rfl; have x1 := rx 1 _ rfl; have x2 := rx 2 _ rfl
    rw [Nat.zero_add] at s4 x1 x2
    clear hb3 rs rx
    go_wp2_with fail
    go_ret
    exact ⟨rfl, HB3.out⟩
theorem segB_short {l : List UInt8} (h : l.length ≤ 14) (k : Nat) : segB l k = [] := by
  unfold segB bodiesF
  cases k with
  | zero => rfl
  | succ k => rw [allF, gotF_none (.inr (by omega))]; rfl
/-- What is read of a head alone. -/
theorem read_head (n k : Nat) (a : Option Addr) (c : Nat) (w : World) (hn : n < 4294967296) (h1 : 1 ≤ k) (h2 : k ≤ 16) (hr : Rd w w.heap.size a (bV (headL n k))) (hlc : 14 ≤ c) (hc : c ≤ maxLen) :
    Calls Try.prog 9 #[.slice a 14 c] w fun e w' => (∃ a2 c2, e = .returned (.tuple #[.agg (sgV n k (.slice a2 0 c2) 14 false), .int .i64 0])) ∧ Below w.heap.size w w' := by
  have h := read_any a c (headL n k) w hr (by rw [headL_length]; omega) (by rw [headL_length]; exact hlc) hc
  rw [headL_length] at h
  refine h.mono ?_
  rintro e w1 ⟨hb, (⟨m, hm, rfl⟩ | ⟨N, K, v, xs, hm, rfl, ho, _, hx⟩)⟩
  · have h2 := headOf_head n k [] hn h1 h2
    rw [List.append_nil, hm] at h2; cases h2
  · have h3 := headOf_head n k [] hn h1 h2
    rw [List.append_nil, hm] at h3
    obtain ⟨rfl, rfl⟩ : N = n ∧ K = k := by injection h3 with h3; injection h3 with h4 h5; exact ⟨h4, h5⟩
    have hs := segB_short (l := headL N K) (by rw [headL_length]; omega) K
    rw [hs] at hx ⊢
    have hx0 : xs = [] := by simpa using hx
    subst hx0
    obtain ⟨a2, c2, rfl, _⟩ := own_slice ho
    refine ⟨⟨a2, c2, ?_⟩, hb⟩
    have : decide (([] : List (List UInt8)).length = K) = false := by simp; omega
    rw [this]; rfl
set_option maxRecDepth 20000 in
set_option maxHeartbeats 1000000 in
theorem fixed7_any (w : World) : Calls Try.prog 10 #[] w fun e w' => e = .returned (.bool true) ∧ Below w.heap.size w w' := by
  go_enter Try.func10, Try.ntmps10
  go_wp2_with fail
  refine (head_yes 7 3 w (by omega) (by omega) (by omega)).mono ?_; rintro e w1 ⟨a1, c1, rfl, hc1, hm1, hr1, hb1⟩
  rw [headL_length] at hc1 ⊢
  have HR1 := Lib.hid hr1; have HB1 := Lib.hid hb1; have HC1 := Lib.hid hc1; have HM1 := Lib.hid hm1
  clear hr1 hb1 hc1 hm1
  go_wp2_with fail
  refine (read_head 7 3 a1 c1 w1 (by omega) (by omega) (by omega) HR1.out HC1.out HM1.out).mono ?_; rintro e w2 ⟨⟨a2, c2, rfl⟩, hb2⟩
  have HB2 := Lib.hid (bel2 HB1.out hb2); clear hb2
  unfold sgV
  go_wp2_with fail
  go_ret
  exact ⟨rfl, HB2.out.alloc HB2.out.size _⟩
end Go.Proofs.Ytkaafjcfcknbpaa
