import Derived.Test.YtkjngmlebflffaaAl
namespace Go.Proofs.Ytkjngmlebflffaa
open Go Go.RowKit Go.Sort
set_option linter.unusedVariables false

/-! The landed code: the place with the greatest size: which it is doesn't matter here (stage 11). -/
def c3w (x y : Int) : Int := if x < y then -1 else if y < x then 1 else 0
theorem c3w_lt {x y : Int} (h : x < y) : c3w x y = -1 := by simp [c3w, h]
theorem c3w_gt {x y : Int} (h : y < x) : c3w x y = 1 := by unfold c3w; rw [if_neg (by omega), if_pos h]
theorem c3w_eq (x : Int) : c3w x x = 0 := by simp [c3w]
set_option maxHeartbeats 400000 in
theorem compare_is (x y : Int) (w : World) : Calls Try.prog 30 #[.int .i64 x, .int .i64 y] w fun e w' => e = .returned (.int .i64 (c3w x y)) ∧ w = w' := by
  rcases Int.lt_trichotomy x y with h | h | h
  · go_enter Try.func30, Try.ntmps30
    go_wp2
    go_ret
    exact ⟨ret_i64 (c3w_lt h).symm, rfl⟩
  · subst h
    go_enter Try.func30, Try.ntmps30
    go_wp2
    go_ret
    exact ⟨ret_i64 (c3w_eq _).symm, rfl⟩
  · go_enter Try.func30, Try.ntmps30
    go_wp2
    go_ret
    exact ⟨ret_i64 (c3w_gt h).symm, rfl⟩
theorem compare_below (x y : Int) (w : World) : Calls Try.prog 30 #[.int .i64 x, .int .i64 y] w fun e w' => e = .returned (.int .i64 (c3w x y)) ∧ Below w.heap.size w w' :=
  (compare_is x y w).mono fun e w' h => ⟨h.1, h.2 ▸ Below.refl _ _⟩
set_option maxHeartbeats 2000000 in
theorem bySize_any (q x y n : Nat) (a : Option Addr) (c : Nat) (S : List Int) (w : World) (hn : S.length = n) (hq : q < w.heap.size) (hc : w.cell? ⟨q, 0, none⟩ = some (.slice a n c)) (ha : Rd w w.heap.size a (intV S)) (hx : x < n) (hy : y < n) (hl : n ≤ 100000) :
    Calls Try.prog 29 #[.int .i64 (x : Int), .int .i64 (y : Int), .pointer (some ⟨q, 0, none⟩)] w fun e w' => e = .returned (.int .i64 (c3w (S.getD x 0) (S.getD y 0))) ∧ Below w.heap.size w w' := by
  subst hn
  have HA := Lib.hid ha; clear ha
  obtain ⟨b1, o1, ha1, hb1, d1⟩ := HA.out.num hx
  obtain ⟨b2, o2, ha2, hb2, d2⟩ := HA.out.num hy
  subst ha1
  obtain ⟨rfl, rfl⟩ : b1 = b2 ∧ o1 = o2 := by injection ha2 with h; injection h; simp_all
  have i3 : (x : Int) < (S.length : Int) := by omega
  have i4 : (0 : Int) ≤ (x : Int) := by omega
  have i5 : (y : Int) < (S.length : Int) := by omega
  have i6 : (0 : Int) ≤ (y : Int) := by omega
  have gx : S.getD x 0 = S[x] := by simp [List.getD, hx]
  have gy : S.getD y 0 = S[y] := by simp [List.getD, hy]
  rw [gx, gy]
  clear ha2 hb2 gx gy
  generalize S[x] = sx at *
  generalize S[y] = sy at *
  have hcg : ∀ d os m o, m < w.heap.size → (grow (redrawn w d) os).cell? ⟨m, o, none⟩ = w.cell? ⟨m, o, none⟩ := fun d os m o h => (below_regrown w d os).cell h
  go_enter Try.func29, Try.ntmps29
  go_wp2_with fail
  refine wp_region_quiet_below (by kernel_rfl) (by kernel_rfl) ?_
  iterate 10 (first | go_big_quiet_step (first | (go_at_call 30; exact Calls.regrown_of (compare_below _ _ _))) | fail)
  refine wpQuiet_nil ?_
  intro w3 hw3
  obtain ⟨⟨d, os⟩, hw3'⟩ := hw3
  have hb3 := below_regrown w d os
  rw [← hw3'] at hb3
  clear hw3' hcg
  go_wp2_with fail
  go_ret
  exact ⟨rfl, hb3⟩
/-- The first of those with the greatest size, among the first ones. -/
def bigN (S : List Int) (K : List Nat) : Nat → Nat
  | 0 => K.getD 0 0
  | j + 1 => if S.getD (bigN S K j) 0 < S.getD (K.getD (j + 1) 0) 0 then K.getD (j + 1) 0 else bigN S K j
def bigL (S : List Int) (K : List Nat) : Nat := bigN S K (K.length - 1)
theorem bigN_at (S : List Int) {K : List Nat} : ∀ j, j < K.length → ∃ i, i < K.length ∧ K[i]? = some (bigN S K j)
  | 0, h => ⟨0, h, by simp [bigN, List.getD, h]⟩
  | j + 1, h => by
    unfold bigN
    split
    · exact ⟨j + 1, h, by simp [List.getD, h]⟩
    · exact bigN_at S j (by omega)
theorem bigL_at (S : List Int) {K : List Nat} (h : 0 < K.length) : ∃ i, ∃ hi : i < K.length, K[i] = bigL S K := by
  obtain ⟨i, hi, e⟩ := bigN_at S (K := K) (K.length - 1) (by omega)
  rw [List.getElem?_eq_getElem hi] at e
  exact ⟨i, hi, Option.some.inj e⟩
set_option maxHeartbeats 2000000 in
theorem max_any (q n : Nat) (u a : Option Addr) (c d : Nat) (K : List Nat) (S : List Int) (w : World) (hn : S.length = n) (hK : 0 < K.length) (hk : ∀ k ∈ K, k < n) (hu : Rd w w.heap.size u (intV (natI K))) (hq : q < w.heap.size) (hc : w.cell? ⟨q, 0, none⟩ = some (.slice a n c)) (ha : Rd w w.heap.size a (intV S)) (hl : n ≤ 100000) (hl2 : K.length ≤ 100000) :
    Calls Try.prog 28 #[.slice u K.length d, .func (.func 29) #[] #[.pointer (some ⟨q, 0, none⟩)]] w fun e w' => e = .returned (.int .i64 (bigL S K : Int)) ∧ Below w.heap.size w w' := by
  have HA := Lib.hid ha; have HU := Lib.hid hu; have HK := Lib.hid hk; clear ha hu hk
  obtain ⟨b1, o1, ha1, hb1, d1⟩ := HU.out.num (i := 0) (by rw [natI_length]; exact hK)
  rw [natI_get hK] at d1
  subst ha1
  rw [Nat.add_zero] at d1
  have i3 : (0 : Int) < (K.length : Int) := by omega
  have i4 : ¬ ((K.length : Int) < 1) := by omega
  have i4' : 1 ≤ K.length := hK
  go_enter Try.func28, Try.ntmps28
  go_wp2_with fail
  go_loopw [5, 6] (fun m i wr => ∃ (k x : Nat), k < K.length ∧ i = .int .i64 ((k + 1 : Nat) : Int) ∧ m = .int .i64 (x : Int) ∧ bigN S K k = x ∧ x < n ∧ Below w.heap.size w wr) (fun _ i _ => K.length - (intOf i).toNat)
  case atStart => exact ⟨0, K[0], hK, rfl, rfl, by simp [bigN, List.getD, hK], HK.out _ (List.getElem_mem hK), Below.refl _ _⟩
  clear d1
  case round =>
    obtain ⟨k0, x, hk0, rfl, rfl, hx, hxn, hb⟩ := hrel
    obtain ⟨k, hk⟩ : ∃ k, k0 + 1 = k := ⟨_, rfl⟩
    rw [hk]
    have HX := Lib.hid hx; have HB := Lib.hid hb; clear hx hb
    generalize wr = W1 at *
    by_cases hlt : k < K.length
    · have hyn := HK.out _ (List.getElem_mem hlt)
      obtain ⟨b2, o2, ha2, _, d2⟩ := (HU.out.below HB.out).num (i := k) (by rw [natI_length]; exact hlt)
      obtain ⟨rfl, rfl⟩ : b1 = b2 ∧ o1 = o2 := by injection ha2 with h; injection h; simp_all
      clear ha2
      rw [natI_get hlt] at d2
      have HY : Hid (bigN S K k = if S.getD x 0 < S.getD K[k] 0 then K[k] else x) := by
        have e : K.getD k 0 = K[k] := by simp [List.getD, hlt]
        have e2 : bigN S K k = if S.getD (bigN S K k0) 0 < S.getD (K.getD k 0) 0 then K.getD k 0 else bigN S K k0 := by rw [← hk]; rfl
        show _ = _
        rw [e2, HX.out, e]
      generalize K[k] = y at *
      obtain ⟨r, hr⟩ : ∃ r, c3w (S.getD y 0) (S.getD x 0) = r := ⟨_, rfl⟩
      have j3 : (k : Int) < (K.length : Int) := by omega
      have j4 : (0 : Int) ≤ (k : Int) := by omega
      have hc1 := (HB.out.cell (p := ⟨q, 0, none⟩) hq).trans hc
      have hBs := HB.out.size
      go_wp2_with (go_at_call 29
                   refine (bySize_any q y x n a c S W1 hn (by omega) hc1 ((HA.out.below HB.out).more hBs) hyn hxn hl).mono ?_
                   rintro e w2 ⟨rfl, hb2⟩
                   rw [hr]
                   have HB2 := Lib.hid (bel2 HB.out hb2)
                   have d3 := (hb2.cell (p := ⟨b1, o1 + k, none⟩) (block_lt_of_cell d2)).trans d2
                   clear hb2)
      · refine ⟨⟨k, y, hlt, by go_num, rfl, ?_, hyn, HB2.out⟩, by simp [intOf]; omega⟩
        rw [HY.out, if_pos]
        rcases Int.lt_trichotomy (S.getD y 0) (S.getD x 0) with c | c | c
        · rw [c3w_lt c] at hr; omega
        · rw [c, c3w_eq] at hr; omega
        · exact c
      · refine ⟨⟨k, x, hlt, by go_num, rfl, ?_, hxn, HB2.out⟩, by simp [intOf]; omega⟩
        rw [HY.out, if_neg]
        intro c
        rw [c3w_gt c] at hr; omega
    · have i5 : ¬ (k : Int) < (K.length : Int) := by omega
      go_wp2_with fail
      go_ret
      exact ⟨ret_i64 (by unfold bigL; rw [show K.length - 1 = k0 by omega, HX.out]), HB.out⟩
theorem largest_any (u a : Option Addr) (c d n : Nat) (K : List Nat) (S : List Int) (w : World) (hn : S.length = n) (hK : 0 < K.length) (hk : ∀ k ∈ K, k < n) (hu : Rd w w.heap.size u (intV (natI K))) (ha : Rd w w.heap.size a (intV S)) (hl : n ≤ 100000) (hl2 : K.length ≤ 100000) :
    Calls Try.prog 21 #[.slice u K.length d, .slice a n c] w fun e w' => e = .returned (.int .i64 (bigL S K : Int)) ∧ Below w.heap.size w w' := by
  have HA := Lib.hid (ha.below (box1 w (.cells #[.slice a n c] 22))); have HU := Lib.hid (hu.below (box1 w (.cells #[.slice a n c] 22))); have HK := Lib.hid hk; clear ha hu hk
  go_enter Try.func21, Try.ntmps21
  go_wp2_with (go_at_call 28
               refine (max_any w.heap.size n u a c d K S _ hn hK HK.out (HU.out.more (by simp)) (by simp) (by simp) (HA.out.more (by simp)) hl hl2).mono ?_
               rintro e w2 ⟨rfl, hb2⟩
               have HB2 := Lib.hid (bel2 (box1 w _) hb2)
               clear hb2)
  go_ret
  exact ⟨rfl, HB2.out⟩
end Go.Proofs.Ytkjngmlebflffaa
