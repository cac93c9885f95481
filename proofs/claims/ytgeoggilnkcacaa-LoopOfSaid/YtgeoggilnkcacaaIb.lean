import Derived.Test.YtgeoggilnkcacaaIa
import Derived.Test.YtgeoggilnkcacaaOs
import Derived.Deep.RegionHeldLaw
import Derived.Shelf.SlicesQ.Load
namespace Go.Proofs.Ytgeoggilnkcacaa
open Go Go.RowKit Go.Sort
set_option linter.unusedVariables false

/-! Which edges hold for which offsets: the document's (stage 14). -/
def numAt (O : List Int) (x : Int) : Option Int := if 0 ≤ x then O[x.toNat]? else none
theorem numAt_neg {O : List Int} {x : Int} (h : x < 0) : numAt O x = none := by unfold numAt; rw [if_neg (by omega)]
theorem numAt_far {O : List Int} {x : Int} (h : (O.length : Int) ≤ x) : numAt O x = none := by
  unfold numAt; rw [if_pos (by omega), List.getElem?_eq_none (by omega)]
theorem numAt_is {O : List Int} {n : Nat} (h : n < O.length) : numAt O (n : Int) = some O[n] := by
  unfold numAt; rw [if_pos (by omega), Int.toNat_natCast, List.getElem?_eq_getElem h]
/-- Whether an edge holds for some offsets. -/
def holdsL (e : Ed) (O : List Int) : Bool :=
  match numAt O e.fr, numAt O e.to_ with
  | some a, some b => decide (b ≤ a + e.wt)
  | _, _ => false
def allL (E : List Ed) (O : List Int) : Bool := E.all fun e => holdsL e O
theorem holds_fr {e : Ed} {O : List Int} (h : numAt O e.fr = none) : holdsL e O = false := by unfold holdsL; rw [h]
theorem holds_to {e : Ed} {O : List Int} (h : numAt O e.to_ = none) : holdsL e O = false := by
  unfold holdsL; rw [h]; cases numAt O e.fr <;> rfl
theorem holds_is {e : Ed} {O : List Int} {a b : Int} (ha : numAt O e.fr = some a) (hb : numAt O e.to_ = some b) : holdsL e O = decide (b ≤ a + e.wt) := by
  unfold holdsL; rw [ha, hb]
def HoldsPay (F : Nat) : Prop := ∀ (e : Ed) (a : Option Addr) (c : Nat) (O : List Int) (w : World), e.Ok → Rd w w.heap.size a (intV O) → Nums O → O.length ≤ maxLen →
  Calls Try.prog F #[e.v, .slice a O.length c] w fun x w' => x = .returned (.bool (holdsL e O)) ∧ Below w.heap.size w w'
def AllPay (F : Nat) : Prop := ∀ (b : Option Addr) (d : Nat) (E : List Ed) (a : Option Addr) (c : Nat) (O : List Int) (w : World), Rd w w.heap.size b (edsV E) → (∀ e ∈ E, e.Ok) → E.length ≤ 100000 → Rd w w.heap.size a (intV O) → Nums O → O.length ≤ maxLen →
  Calls Try.prog F #[.slice b E.length d, .slice a O.length c] w fun x w' => x = .returned (.bool (allL E O)) ∧ Below w.heap.size w w'
theorem wrap64 (x : Int) : IntKind.i64.wrap x = if 9223372036854775808 ≤ x % 18446744073709551616 then x % 18446744073709551616 - 18446744073709551616 else x % 18446744073709551616 := by
  simp [IntKind.wrap, IntKind.bits, IntKind.signed]
theorem wrap_sum {a b : Int} (ha : I64 a) (hb : I64 b) :
    (a + b = IntKind.i64.wrap (a + b) ∧ -9223372036854775808 ≤ a + b ∧ a + b < 9223372036854775808) ∨ (0 ≤ a ∧ 0 ≤ b ∧ 9223372036854775808 ≤ a + b ∧ IntKind.i64.wrap (a + b) = a + b - 18446744073709551616) ∨ (a < 0 ∧ b < 0 ∧ a + b < -9223372036854775808 ∧ IntKind.i64.wrap (a + b) = a + b + 18446744073709551616) := by
  unfold I64 at ha hb
  rw [wrap64]
  split <;> omega
set_option maxHeartbeats 4000000 in
theorem less14_any (a b c : Int) (w : World) (ha : I64 a) (hb : I64 b) (hc : I64 c) :
    Calls Try.prog 28 #[.int .i64 a, .int .i64 b, .int .i64 c] w fun e w' => e = .returned (.bool (decide (a + b < c))) ∧ w = w' := by
  have key := wrap_sum ha hb
  unfold I64 at ha hb hc
  obtain ⟨s, hs⟩ : ∃ s, IntKind.i64.wrap (a + b) = s := ⟨_, rfl⟩
  rw [hs] at key
  by_cases a0 : a < 0
  · by_cases b0 : b < 0
    · by_cases s0 : s < 0
      · go_enter Try.func28, Try.ntmps28
        go_wp2
        go_ret
        exact ⟨ret_bool (by rw [Bool.eq_iff_iff, decide_eq_true_iff, decide_eq_true_iff]; omega), rfl⟩
      · go_enter Try.func28, Try.ntmps28
        go_wp2
        go_ret
        exact ⟨ret_bool (decide_eq_true (by omega)).symm, rfl⟩
    · go_enter Try.func28, Try.ntmps28
      go_wp2
      go_ret
      exact ⟨ret_bool (by rw [Bool.eq_iff_iff, decide_eq_true_iff, decide_eq_true_iff]; omega), rfl⟩
  · by_cases b0 : b < 0
    · go_enter Try.func28, Try.ntmps28
      go_wp2
      go_ret
      exact ⟨ret_bool (by rw [Bool.eq_iff_iff, decide_eq_true_iff, decide_eq_true_iff]; omega), rfl⟩
    · by_cases s0 : s < 0
      · go_enter Try.func28, Try.ntmps28
        go_wp2
        go_ret
        exact ⟨ret_bool (decide_eq_false (by omega)).symm, rfl⟩
      · go_enter Try.func28, Try.ntmps28
        go_wp2
        go_ret
        exact ⟨ret_bool (by rw [Bool.eq_iff_iff, decide_eq_true_iff, decide_eq_true_iff]; omega), rfl⟩
set_option maxHeartbeats 4000000 in
theorem refHolds_any : HoldsPay 20 := by
  intro e a c O w hok ha hn hl
  have hl0 := hl; unfold maxLen at hl
  have HA := Lib.hid ha; have HN := Lib.hid hn; have HOK := Lib.hid hok; clear ha hn hok
  have HF := Lib.hid (fun h => holds_fr (e := e) (O := O) h)
  have HT := Lib.hid (fun h => holds_to (e := e) (O := O) h)
  have HI := Lib.hid (fun a b ha hb => holds_is (e := e) (O := O) (a := a) (b := b) ha hb)
  obtain ⟨x, y, z, p, q, t⟩ := e
  simp only [Ed.v] at HF HT HI ⊢
  by_cases hx0 : x < 0
  · have HE := Lib.hid (HF.out (numAt_neg hx0))
    go_enter Try.func20, Try.ntmps20
    go_wp2
    go_ret
    exact ⟨ret_bool HE.out.symm, box1 _ _⟩
  by_cases hy0 : y < 0
  · have HE := Lib.hid (HT.out (numAt_neg hy0))
    go_enter Try.func20, Try.ntmps20
    go_wp2
    go_ret
    exact ⟨ret_bool HE.out.symm, box1 _ _⟩
  by_cases hx1 : (O.length : Int) ≤ x
  · have HE := Lib.hid (HF.out (numAt_far hx1))
    go_enter Try.func20, Try.ntmps20
    go_wp2
    go_ret
    exact ⟨ret_bool HE.out.symm, box1 _ _⟩
  by_cases hy1 : (O.length : Int) ≤ y
  · have HE := Lib.hid (HT.out (numAt_far hy1))
    go_enter Try.func20, Try.ntmps20
    go_wp2
    go_ret
    exact ⟨ret_bool HE.out.symm, box1 _ _⟩
  obtain ⟨n, rfl⟩ : ∃ n : Nat, x = (n : Int) := ⟨x.toNat, by omega⟩
  obtain ⟨m, rfl⟩ : ∃ m : Nat, y = (m : Int) := ⟨y.toNat, by omega⟩
  have hn : n < O.length := by omega
  have hm : m < O.length := by omega
  have HE := Lib.hid (HI.out _ _ (numAt_is hn) (numAt_is hm))
  have N1 := Lib.hid (HN.out O[n] (List.getElem_mem _))
  have N2 := Lib.hid (HN.out O[m] (List.getElem_mem _))
  have HW := Lib.hid (HOK.out.wt)
  have HAV := Lib.hid (HA.out.below (box1 w (.cells #[.int .i64 (n : Int), .int .i64 (m : Int), .int .i64 z, .int .i64 p, .int .i64 q, .bool t] 34)))
  obtain ⟨b1, o1, ha1, hb1, d1⟩ := HAV.out.num hn
  obtain ⟨b2, o2, ha2, hb2, d2⟩ := HAV.out.num hm
  subst ha1
  obtain ⟨rfl, rfl⟩ := And.intro (Addr.mk.inj (Option.some.inj ha2)).1 (Addr.mk.inj (Option.some.inj ha2)).2.1
  generalize O[n] = s at *
  generalize O[m] = u at *
  have i1 : (n : Int) < (O.length : Int) := by omega
  have i2 : (m : Int) < (O.length : Int) := by omega
  have i3 : (0 : Int) ≤ (n : Int) := by omega
  have i4 : (0 : Int) ≤ (m : Int) := by omega
  clear ha2 hb2
  go_enter Try.func20, Try.ntmps20
  go_wp2_with fail
  obtain ⟨V, hV⟩ : ∃ V, w.alloc (.cells #[.int .i64 (n : Int), .int .i64 (m : Int), .int .i64 z, .int .i64 p, .int .i64 q, .bool t] 34) = V := ⟨_, rfl⟩
  have e0 : V.cell? ⟨w.heap.size, 0, none⟩ = some (.int .i64 (n : Int)) := by rw [← hV]; simp
  have e1 : V.cell? ⟨w.heap.size, 1, none⟩ = some (.int .i64 (m : Int)) := by rw [← hV]; simp
  have e2 : V.cell? ⟨w.heap.size, 2, none⟩ = some (.int .i64 z) := by rw [← hV]; simp
  have hVs : w.heap.size < V.heap.size := by rw [← hV]; simp
  have HBV : Hid (Below w.heap.size w V) := by rw [← hV]; exact box1 _ _
  rw [hV] at d1 d2 ⊢
  have hb1V : b1 < V.heap.size := by omega
  clear hV HAV
  have hcg : ∀ d os m o, m < V.heap.size → (grow (redrawn V d) os).cell? ⟨m, o, none⟩ = V.cell? ⟨m, o, none⟩ := fun d os m o h => (below_regrown V d os).cell h
  refine wp_region_quiet_below (by kernel_rfl) (by kernel_rfl) ?_
  iterate 15 (first | go_big_quiet_step (first | (go_at_call 28; exact Calls.regrown_of ((less14_any s z u _ N1.out HW.out N2.out).mono fun e w' h => ⟨h.1, h.2 ▸ Below.refl _ _⟩))) | fail)
  refine wpQuiet_nil ?_
  intro W3 hw3
  obtain ⟨⟨d3, os⟩, hw3'⟩ := hw3
  have hb3 := below_regrown V d3 os
  rw [← hw3'] at hb3
  clear hw3' hcg
  go_wp2_with fail
  go_ret
  refine ⟨ret_bool ?_, bel2 HBV.out hb3⟩
  rw [HE.out]
  by_cases c : u ≤ s + z
  · rw [decide_eq_true c, decide_eq_false (by omega)]; rfl
  · rw [decide_eq_false c, decide_eq_true (by omega)]; rfl
theorem all_take {E : List Ed} {O : List Int} {n : Nat} (h : n < E.length) (ht : (E.take n).all (fun e => holdsL e O) = true) : (E.take (n + 1)).all (fun e => holdsL e O) = holdsL E[n] O := by
  rw [List.take_succ_eq_append_getElem h, List.all_append, ht]; simp
theorem all_no {E : List Ed} {O : List Int} {n : Nat} (h : n < E.length) (hf : holdsL E[n] O = false) : allL E O = false := by
  unfold allL
  rw [List.all_eq_false]
  exact ⟨_, List.getElem_mem h, by rw [hf]; simp⟩
set_option maxHeartbeats 4000000 in
theorem refAll_any : AllPay 12 := by
  intro b d E a c O w hb hok hlE ha hn hl
  have hl0 := hl; unfold maxLen at hl
  have HB := Lib.hid hb; have HOK := Lib.hid hok; have HA := Lib.hid ha; have HN := Lib.hid hn; clear hb hok ha hn
  go_enter Try.func12, Try.ntmps12
  go_wp2_with fail
  go_loopw [5] (fun i wr => ∃ n : Nat, n ≤ E.length ∧ i = .int .i64 n ∧ (E.take n).all (fun e => holdsL e O) = true ∧ Below w.heap.size w wr) (fun i _ => E.length - (intOf i).toNat)
  case atStart => exact ⟨0, Nat.zero_le _, rfl, by simp, Below.refl _ _⟩
  case round =>
    obtain ⟨n, hn, rfl, ht, hbw⟩ := hrel
    have HW := Lib.hid hbw; have HT := Lib.hid ht; clear hbw ht
    generalize wr = W1 at *
    by_cases hlt : n < E.length
    · obtain ⟨b1, o1, hb1, _, hE⟩ := (HB.out.below HW.out).edge hlt
      subst hb1
      have HTK := Lib.hid (all_take hlt HT.out)
      have HNO := Lib.hid (all_no (O := O) hlt)
      have OK1 := Lib.hid (HOK.out E[n] (List.getElem_mem _))
      generalize E[n] = e at *
      have i3 : (n : Int) < (E.length : Int) := by omega
      have i4 : (0 : Int) ≤ (n : Int) := by omega
      obtain ⟨c0, c1, c2, c3, c4, c5⟩ := hE
      obtain ⟨r, hr⟩ : ∃ r, holdsL e O = r := ⟨_, rfl⟩
      have HC := Lib.hid (refHolds_any e a c O W1 OK1.out ((HA.out.below HW.out).more HW.out.size) HN.out hl0)
      rw [hr] at HTK HNO HC
      unfold Ed.v at HC
      clear hr
      cases r with
      | true =>
        go_wp2_with (go_at_call 20
                     refine HC.out.mono ?_
                     rintro x w2 ⟨rfl, hb2⟩
                     have HW2 := Lib.hid (bel2 HW.out hb2); clear hb2)
        go_roundw
        case rel => exact ⟨n + 1, by omega, by go_num, HTK.out, HW2.out⟩
        case measure => simp [intOf]; omega
      | false =>
        go_wp2_with (go_at_call 20
                     refine HC.out.mono ?_
                     rintro x w2 ⟨rfl, hb2⟩
                     have HW2 := Lib.hid (bel2 HW.out hb2); clear hb2)
        go_ret
        exact ⟨ret_bool (HNO.out (by trivial)).symm, HW2.out⟩
    · obtain rfl : n = E.length := by omega
      go_wp2_with fail
      go_ret
      have HF := HT.out
      rw [List.take_length] at HF
      exact ⟨ret_bool HF.symm, HW.out⟩
set_option maxHeartbeats 2000000 in
theorem same14_is (a b : Option Addr) (c d n : Nat) (K : List Ed) (w : World) (hn : K.length = n) (ha : Rd w w.heap.size a (edsV K)) (hb : Rd w w.heap.size b (edsV K)) (hl : n ≤ maxLen) :
    Calls Try.prog 7 #[.slice a n c, .slice b n d] w fun e w' => e = .returned (.bool true) ∧ Below w.heap.size w w' := by
  unfold maxLen at hl
  subst hn
  have HA := Lib.hid ha; have HB := Lib.hid hb; clear ha hb
  go_enter Try.func7, Try.ntmps7
  go_wp2
  go_loopw [5] (fun i wr => ∃ k : Nat, k ≤ K.length ∧ i = .int .i64 k ∧ Below w.heap.size w wr) (fun i _ => K.length - (intOf i).toNat)
  case atStart => exact ⟨0, Nat.zero_le _, rfl, Below.refl _ _⟩
  case round =>
    obtain ⟨k, hk, rfl, hbw⟩ := hrel
    have HW := Lib.hid hbw; clear hbw
    by_cases hlt : k < K.length
    · obtain ⟨b1, o1, ha1, _, hE1⟩ := (HA.out.below HW.out).edge hlt
      obtain ⟨b2, o2, hb1, _, hE2⟩ := (HB.out.below HW.out).edge hlt
      subst ha1 hb1
      have i1 : (0 : Int) ≤ (k : Int) := by omega
      have i2 : (k : Int) < (K.length : Int) := by omega
      generalize K[k] = x at *
      obtain ⟨c0, c1, c2, c3, c4, c5⟩ := hE1
      obtain ⟨d0, d1, d2, d3, d4, d5⟩ := hE2
      go_wp2
      go_quiet (fail)
      go_wp2
      go_roundw
      case rel => exact ⟨k + 1, by omega, by go_num, Below_drewN HW.out _⟩
      case measure => simp [intOf]; omega
    · go_wp2
      go_ret
      exact ⟨rfl, HW.out⟩
end Go.Proofs.Ytgeoggilnkcacaa

