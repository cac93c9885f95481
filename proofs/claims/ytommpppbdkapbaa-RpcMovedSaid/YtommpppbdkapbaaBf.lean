import Derived.Test.YtommpppbdkapbaaBe
namespace Go.Proofs.Ytommpppbdkapbaa
open Go Go.RowKit Go.Sort
set_option linter.unusedVariables false

/-! The law RpcMoved. -/
def later (s : Sp) (v : Int) : Sp := { s with start := v }
theorem flatL_start (M : List Sp) (i : Nat) (h : i < M.length) (v : Int) : (flatL M).set (i * 8 + 6) (.int .i64 v) = flatL (M.set i (later M[i] v)) := by
  apply List.ext_getElem?
  intro j
  have hlen : (flatL M).length = M.length * 8 := flatL_length M
  by_cases hj : j < M.length * 8
  · have e : j = j / 8 * 8 + j % 8 := by omega
    have hj8 : j / 8 < M.length := by omega
    have g1 := flatL_get M (j / 8) hj8 (j % 8) (by omega)
    have g2 := flatL_get (M.set i (later M[i] v)) (j / 8) (by simpa using hj8) (j % 8) (by omega)
    rw [← e] at g1 g2
    rw [g2]
    by_cases hi : i = j / 8
    · subst hi
      rw [List.getElem_set_self]
      by_cases h6 : j % 8 = 6
      · rw [show j / 8 * 8 + 6 = j by omega, List.getElem?_set_self (by omega), h6]; rfl
      · rw [List.getElem?_set_ne (by omega), g1]
        have hc : ∀ k, k < 8 → k ≠ 6 → M[j / 8].c[k]? = (later M[j / 8] v).c[k]? := by
          intro k hk hk6
          rcases k with _ | _ | _ | _ | _ | _ | _ | _ | k
          all_goals first | rfl | (exact absurd rfl hk6) | omega
        exact hc _ (by omega) h6
    · rw [List.getElem?_set_ne (by omega), g1, List.getElem_set_ne hi]
  · rw [List.getElem?_eq_none (by rw [List.length_set]; omega), List.getElem?_eq_none (by rw [flatL_length, List.length_set]; omega)]
theorem later_ok {s : Sp} (h : s.Ok) {v : Int} (hv : I64 v) : (later s v).Ok := by
  obtain ⟨h1, h2, h3, h4, h5, h6, h7, h8⟩ := h
  exact ⟨h1, h2, h3, h4, h5, h6, hv, h8⟩
theorem set_ok {L : List Sp} (h : ∀ s ∈ L, s.Ok) (i : Nat) {t : Sp} (ht : t.Ok) : ∀ s ∈ L.set i t, s.Ok := fun s hs => by
  rcases List.mem_or_eq_of_mem_set hs with h1 | h1
  · exact h s h1
  · rw [h1]; exact ht
theorem atP_set_other {L : List Sp} {n m : Nat} {t : Sp} (hn : n < L.length) (hne : n ≠ m) : atP (L.set m t) (n : Int) = some L[n] := by
  rw [atP_is (by rw [List.length_set]; exact hn), List.getElem_set_ne (fun e => hne e.symm)]
theorem atP_set_same {L : List Sp} {m : Nat} {t : Sp} (hm : m < L.length) : atP (L.set m t) (m : Int) = some t := by
  rw [atP_is (by rw [List.length_set]; exact hm), List.getElem_set_self]
theorem flatL_one1 {L : List Sp} : ∀ u ∈ flatL L, u.oneCell' = true := fun u hu => by
  obtain ⟨s, _, h⟩ := List.mem_flatMap.1 hu
  simp [Sp.c] at h
  rcases h with rfl | rfl | rfl | rfl | rfl | rfl | rfl | rfl <;> rfl
theorem info_sp12 : (Try.prog.info? 38).map (fun i => (i.zero, i.size, i.bytes)) = some (some (.agg #[.int .u64 0, .int .u64 0, .int .u64 0, .int .u8 0, .string ⟨#[]⟩, .string ⟨#[]⟩, .int .i64 0, .int .i64 0]), 8, 80) := by kernel_rfl
set_option maxHeartbeats 8000000 in
set_option maxRecDepth 20000 in
theorem law_moved12 (hof : PairsPay 11) (hgp : GapsPay 13) (a : Option Addr) (c : Nat) (L : List Sp) (p : Pr) (by_ : Int) (w : World) (ha : Rd w w.heap.size a (flatL L)) (hc1 : L.length ≤ maxLen) (hok : ∀ s ∈ L, s.Ok) (hby : I64 by_) :
    Calls Try.prog 6 #[.slice a L.length c, p.v, .int .i64 by_] w fun e w' => e = .returned (.bool true) ∧ Below w.heap.size w w' := by
  obtain ⟨i0, hi0, hz0, hz1, hz2⟩ := info_parts info_sp12
  have HZ2 := Lib.hid hz2; clear hz2
  have HOF := Lib.hid hof; have HGP := Lib.hid hgp; have HA := Lib.hid ha; have HOK := Lib.hid hok; clear hof hgp ha hok
  have hgr := great_any a c L (w.alloc (.cells #[.int .i64 p.client, .int .i64 p.server] 32)) ((HA.out.below (box1 w _)).more (by simp)) hc1 HOK.out
  have HBV := Lib.hid (box1 w (.cells #[.int .i64 p.client, .int .i64 p.server] 32))
  have hbz : w.heap.size < (w.alloc (.cells #[.int .i64 p.client, .int .i64 p.server] 32)).heap.size := by simp
  have hx0 : (w.alloc (.cells #[.int .i64 p.client, .int .i64 p.server] 32)).cell? ⟨w.heap.size, 0, none⟩ = some (.int .i64 p.client) := by simp
  have hx1 : (w.alloc (.cells #[.int .i64 p.client, .int .i64 p.server] 32)).cell? ⟨w.heap.size, 1, none⟩ = some (.int .i64 p.server) := by simp
  simp only [Pr.v]
  cases hG : greatB L with
  | true =>
    rw [hG] at hgr
    have HGR := Lib.hid hgr; clear hgr hG
    go_enter Try.func6, Try.ntmps6
    go_wp2_with (first
      | (go_at_call 7; refine HGR.out.mono ?_; rintro e w1 ⟨rfl, hb1⟩; have HB1 := Lib.hid (bel2 HBV.out hb1)
         have d0 := (hb1.cell (p := ⟨w.heap.size, 0, none⟩) hbz).trans hx0
         have d1 := (hb1.cell (p := ⟨w.heap.size, 1, none⟩) hbz).trans hx1
         clear hb1)
      | (go_at_call 8; refine (fixed12_any HOF.out HGP.out _).mono ?_; rintro e w2 ⟨rfl, hb2⟩))
    go_ret
    exact ⟨rfl, bel2 HB1.out hb2⟩
  | false =>
  rw [hG] at hgr
  have HGR := Lib.hid hgr; clear hgr
  have hL60 := great_len hG
  clear hG
  by_cases hb1 : 1125899906842624 < by_
  · have e1 : decide (1125899906842624 < by_) = true := decide_eq_true hb1
    clear hb1
    go_enter Try.func6, Try.ntmps6
    go_wp2_with (first
      | (go_at_call 7; refine HGR.out.mono ?_; rintro e w1 ⟨rfl, hb1⟩; have HB1 := Lib.hid (bel2 HBV.out hb1)
         have d0 := (hb1.cell (p := ⟨w.heap.size, 0, none⟩) hbz).trans hx0
         have d1 := (hb1.cell (p := ⟨w.heap.size, 1, none⟩) hbz).trans hx1
         clear hb1)
      | (go_at_call 8; refine (fixed12_any HOF.out HGP.out _).mono ?_; rintro e w2 ⟨rfl, hb2⟩))
    go_ret
    exact ⟨rfl, bel2 HB1.out hb2⟩
  have e1 : decide (1125899906842624 < by_) = false := decide_eq_false hb1
  by_cases hb2 : by_ < -1125899906842624
  · have e2 : decide (by_ < -1125899906842624) = true := decide_eq_true hb2
    clear hb1 hb2
    go_enter Try.func6, Try.ntmps6
    go_wp2_with (first
      | (go_at_call 7; refine HGR.out.mono ?_; rintro e w1 ⟨rfl, hb1⟩; have HB1 := Lib.hid (bel2 HBV.out hb1)
         have d0 := (hb1.cell (p := ⟨w.heap.size, 0, none⟩) hbz).trans hx0
         have d1 := (hb1.cell (p := ⟨w.heap.size, 1, none⟩) hbz).trans hx1
         clear hb1)
      | (go_at_call 8; refine (fixed12_any HOF.out HGP.out _).mono ?_; rintro e w2 ⟨rfl, hb2⟩))
    go_ret
    exact ⟨rfl, bel2 HB1.out hb2⟩
  have e2 : decide (by_ < -1125899906842624) = false := decide_eq_false hb2
  by_cases hcs : p.client = p.server
  · have e3 : (p.client == p.server) = true := by simpa using hcs
    clear hb1 hb2 hcs
    go_enter Try.func6, Try.ntmps6
    go_wp2_with (first
      | (go_at_call 7; refine HGR.out.mono ?_; rintro e w1 ⟨rfl, hb1⟩; have HB1 := Lib.hid (bel2 HBV.out hb1)
         have d0 := (hb1.cell (p := ⟨w.heap.size, 0, none⟩) hbz).trans hx0
         have d1 := (hb1.cell (p := ⟨w.heap.size, 1, none⟩) hbz).trans hx1
         clear hb1)
      | (go_at_call 8; refine (fixed12_any HOF.out HGP.out _).mono ?_; rintro e w2 ⟨rfl, hb2⟩))
    go_ret
    exact ⟨rfl, bel2 HB1.out hb2⟩
  have e3 : (p.client == p.server) = false := by simpa using hcs
  obtain ⟨r, hr⟩ : ∃ r, r = gapsL L p := ⟨_, rfl⟩
  have HPG : Hid (∀ w', Rd w' w'.heap.size a (flatL L) → Calls Try.prog 13 #[.slice a L.length c, .agg #[.int .i64 p.client, .int .i64 p.server]] w' fun e w'' => e = .returned (gapsV r) ∧ Below w'.heap.size w' w'') := fun w' h => by rw [hr]; exact HGP.out a c L p w' h (by omega) HOK.out
  cases r with
  | none =>
    clear hr hb1 hb2 hcs
    simp only [gapsV] at HPG
    go_enter Try.func6, Try.ntmps6
    go_wp2_with (first
      | (go_at_call 7; refine HGR.out.mono ?_; rintro e w1 ⟨rfl, hb1⟩; have HB1 := Lib.hid (bel2 HBV.out hb1)
         have d0 := (hb1.cell (p := ⟨w.heap.size, 0, none⟩) hbz).trans hx0
         have d1 := (hb1.cell (p := ⟨w.heap.size, 1, none⟩) hbz).trans hx1
         clear hb1)
      | (go_at_call 13
         refine (HPG.out w1 ((HA.out.below HB1.out).more HB1.out.size)).mono ?_; rintro e w2 ⟨rfl, hb2⟩
         have HB2 := Lib.hid (bel2 HB1.out hb2)
         have d0 := (hb2.cell (p := ⟨w.heap.size, 0, none⟩) (block_lt_of_cell d0)).trans d0
         have d1 := (hb2.cell (p := ⟨w.heap.size, 1, none⟩) (block_lt_of_cell d1)).trans d1
         clear hb2)
      | (go_at_call 8; refine (fixed12_any HOF.out HGP.out _).mono ?_; rintro e w4 ⟨rfl, hb4⟩
         have HB4 := Lib.hid (bel2 HB2.out hb4); clear hb4))
    go_ret
    exact ⟨rfl, HB4.out⟩
  | some q =>
    obtain ⟨x, y⟩ := q
    simp only [gapsV] at HPG
    obtain ⟨n, m, hn, hm, hcl, hse, hmn, hmm, hx, hy⟩ := gaps_some hr.symm
    clear hr
    obtain ⟨s1, s2, s3, s4⟩ := mayB_times hmn
    obtain ⟨t1, t2, t3, t4⟩ := mayB_times hmm
    obtain ⟨pc, ps⟩ := p
    simp only at hcl hse
    subst hcl hse
    simp only at hx0 hx1 HBV hbz HGR HPG e3 hcs ⊢
    have hnm : n ≠ m := fun e => hcs (by rw [e])
    -- the spans, moved
    obtain ⟨t', ht'⟩ : ∃ t', t' = later L[m] (L[m].start + by_) := ⟨_, rfl⟩
    obtain ⟨s', hs'⟩ : ∃ s', s' = later L[n] (L[n].start + by_) := ⟨_, rfl⟩
    have hwt : IntKind.i64.wrap (L[m].start + by_) = L[m].start + by_ := IntWalk.i64_in _ (by omega)
    have hws : IntKind.i64.wrap (L[n].start + by_) = L[n].start + by_ := IntWalk.i64_in _ (by omega)
    have hwx : IntKind.i64.wrap (x + by_) = x + by_ := IntWalk.i64_in _ (by omega)
    have hwy : IntKind.i64.wrap (y - by_) = y - by_ := IntWalk.i64_in _ (by omega)
    obtain ⟨L1, hL1⟩ : ∃ L1, L1 = L.set m t' := ⟨_, rfl⟩
    obtain ⟨L2, hL2⟩ : ∃ L2, L2 = L1.set n s' := ⟨_, rfl⟩
    have hok1 : ∀ s ∈ L1, s.Ok := by rw [hL1, ht']; exact set_ok HOK.out m (later_ok (HOK.out _ (List.getElem_mem _)) (by unfold I64; omega))
    have hok2 : ∀ s ∈ L2, s.Ok := by rw [hL2, hs']; exact set_ok hok1 n (later_ok (HOK.out _ (List.getElem_mem _)) (by unfold I64; omega))
    have hl1 : L1.length = L.length := by rw [hL1, List.length_set]
    have hl2 : L2.length = L.length := by rw [hL2, List.length_set, hl1]
    have hg1 : gapsL L1 ⟨(n : Int), (m : Int)⟩ = none ∨ gapsL L1 ⟨(n : Int), (m : Int)⟩ = some (x + by_, y - by_) := by
      have h1 : atP L1 (n : Int) = some L[n] := by rw [hL1]; exact atP_set_other hn hnm
      have h2 : atP L1 (m : Int) = some t' := by rw [hL1]; exact atP_set_same hm
      rw [gaps_is (p := ⟨(n : Int), (m : Int)⟩) h1 h2]
      split
      · refine .inr ?_
        rw [ht', hx, hy]
        simp only [later, Option.some.injEq, Prod.mk.injEq]
        constructor <;> omega
      · exact .inl rfl
    have hg2 : gapsL L2 ⟨(n : Int), (m : Int)⟩ = none ∨ gapsL L2 ⟨(n : Int), (m : Int)⟩ = some (x, y) := by
      have h1 : atP L2 (n : Int) = some s' := by rw [hL2]; exact atP_set_same (by rw [hl1]; exact hn)
      have hm1 : m < L1.length := by rw [hl1]; exact hm
      have h2 : atP L2 (m : Int) = some t' := by
        rw [hL2, atP_set_other hm1 hnm.symm]
        have : L1[m] = t' := by simp [hL1]
        rw [this]
      rw [gaps_is (p := ⟨(n : Int), (m : Int)⟩) h1 h2]
      split
      · refine .inr ?_
        rw [ht', hs', hx, hy]
        simp only [later, Option.some.injEq, Prod.mk.injEq]
        constructor <;> omega
      · exact .inl rfl
    have hf1 : ((flatL L).set (m * 8 + 6) (.int .i64 (L[m].start + by_))) = flatL L1 := by rw [hL1, ht']; exact flatL_start L m hm _
    have hf2 : ((flatL L1).set (n * 8 + 6) (.int .i64 (L[n].start + by_))) = flatL L2 := by
      have hn1 : n < L1.length := by rw [hl1]; exact hn
      have e : L1[n] = L[n] := by
        have : L1[n]? = L[n]? := by rw [hL1, List.getElem?_set_ne (fun e => hnm e.symm)]
        rw [List.getElem?_eq_getElem hn1, List.getElem?_eq_getElem hn] at this
        exact Option.some.inj this
      rw [hL2, hs', ← e]; exact flatL_start L1 n hn1 _
    have he1 : L1[n]? = some L[n] := by rw [hL1, List.getElem?_set_ne (fun e => hnm e.symm), List.getElem?_eq_getElem hn]
    have HOK1 := Lib.hid hok1; have HOK2 := Lib.hid hok2; have HL1 := Lib.hid hl1; have HL2 := Lib.hid hl2; have HF1 := Lib.hid hf1; have HF2 := Lib.hid hf2; have HE1 := Lib.hid he1
    have HEM := Lib.hid (fun W' a' (h : Rd W' W'.heap.size a' (flatL L)) => h.elem hm)
    have hn1 : n < L1.length := by rw [hl1]; exact hn
    have HEN := Lib.hid (fun W' a' (h : Rd W' W'.heap.size a' (flatL L1)) => h.elem hn1)
    have e1n : L1[n] = L[n] := by
      rw [List.getElem?_eq_getElem hn1] at he1; exact Option.some.inj he1
    rw [e1n] at HEN
    clear hok1 hok2 hl1 hl2 hf1 hf2 he1 e1n hx hy hmn hmm hL1 hL2 ht' hs' hcs
    have i1 : (n : Int) < (L.length : Int) := by omega
    have i2 : (m : Int) < (L.length : Int) := by omega
    have i3 : (0 : Int) ≤ (n : Int) := by omega
    have i4 : (0 : Int) ≤ (m : Int) := by omega
    have q1 : (x + by_ != x + by_) = false := by simp
    have q2 : (y - by_ != y - by_) = false := by simp
    have q3 : (x == x) = true := by simp
    have q4 : (y == y) = true := by simp
    have h0L : 0 < L.length := by omega
    clear s1 s2 s3 s4 t1 t2 t3 t4 HE1
    generalize L[m] = tm at hwt HF1 HEM
    generalize L[n] = sn at hws HF2 HEN
    clear hb1 hb2
    rcases hg1 with h1 | h1 <;> rcases hg2 with h2 | h2
    · have HPG1 : Hid (∀ a' c' w', Rd w' w'.heap.size a' (flatL L1) → Calls Try.prog 13 #[.slice a' L.length c', .agg #[.int .i64 (n : Int), .int .i64 (m : Int)]] w' fun e w'' => e = .returned (gapsV (none)) ∧ Below w'.heap.size w' w'') := fun a' c' w' h => by
        have := HGP.out a' c' L1 ⟨(n : Int), (m : Int)⟩ w' h (by rw [HL1.out]; omega) HOK1.out
        rw [h1, HL1.out] at this; exact this
      have HPG2 : Hid (∀ a' c' w', Rd w' w'.heap.size a' (flatL L2) → Calls Try.prog 13 #[.slice a' L.length c', .agg #[.int .i64 (n : Int), .int .i64 (m : Int)]] w' fun e w'' => e = .returned (gapsV (none)) ∧ Below w'.heap.size w' w'') := fun a' c' w' h => by
        have := HGP.out a' c' L2 ⟨(n : Int), (m : Int)⟩ w' h (by rw [HL2.out]; omega) HOK2.out
        rw [h2, HL2.out] at this; exact this
      simp only [gapsV] at HPG1 HPG2
      clear h1 h2
      go_enter Try.func6, Try.ntmps6
      go_wp2_with (first
        | (go_at_call 7; refine HGR.out.mono ?_; rintro e w1 ⟨rfl, hb1⟩; have HB1 := Lib.hid (bel2 HBV.out hb1)
           have d0 := (hb1.cell (p := ⟨w.heap.size, 0, none⟩) hbz).trans hx0
           have d1 := (hb1.cell (p := ⟨w.heap.size, 1, none⟩) hbz).trans hx1
           clear hb1)
        | (go_at_call 13
           with_reducible (show Calls Try.prog 13 #[.slice a L.length c, .agg #[.int .i64 (n : Int), .int .i64 (m : Int)]] w1 _)
           refine (HPG.out w1 ((HA.out.below HB1.out).more HB1.out.size)).mono ?_; rintro e w2 ⟨rfl, hb2⟩
           have HB2 := Lib.hid (bel2 HB1.out hb2)
           have d0 := (hb2.cell (p := ⟨w.heap.size, 0, none⟩) (block_lt_of_cell d0)).trans d0
           have d1 := (hb2.cell (p := ⟨w.heap.size, 1, none⟩) (block_lt_of_cell d1)).trans d1
           have hlt2 := block_lt_of_cell d0
           clear hb2)
        | (at_builtin
           refine wpList_append_rd _ rfl (.tmp 73) (.tmp 74) 22 rfl w2.heap.size 38 i0 _ 8 80 Try.underlying22 hi0 hz0 hz1 HZ2.out rfl (by omega) (.slice (some ⟨w2.heap.size, 0, none⟩) 0 0) 0 [] rfl (World.ownsRow_made w2 #[] 0 (Nat.le_refl _) (by decide) rfl) _ a L.length c (flatL L) rfl (by rw [flatL_length]) ((HA.out.below HB2.out).below (box1 w2 (.cells #[] 38) |>.mono HB2.out.size)) flatL_one1 (by unfold maxLen; omega) (by omega) (by simp) ?_
           intro v3 w3 hown3 hg3 _
           rw [Nat.zero_add, List.nil_append] at hown3
           have HO3 := Lib.hid hown3
           have HB3 := Lib.hid ((HB2.out.alloc HB2.out.size (.cells #[] 38)).grown hg3 (by have := HB2.out.size; simp; omega) (fun g hg => (own_shape (World.ownsRow_made w2 (e := 38) (size := 8) #[] 0 (Nat.le_refl _) (by decide) rfl) hg).1 |> Nat.le_trans HB2.out.size))
           have hbk := hg3.block w.heap.size (by simp; exact Nat.lt_succ_of_lt hlt2) (by simp [Value.ownBlock]; exact Nat.ne_of_lt hlt2)
           have d0 : w3.cell? ⟨w.heap.size, 0, none⟩ = some (.int .i64 (n : Int)) := by rw [World.cell?_of_block (a := ⟨w.heap.size, 0, none⟩) hbk]; exact ((box1 w2 _).cell (p := ⟨w.heap.size, 0, none⟩) hlt2).trans d0
           have d1 : w3.cell? ⟨w.heap.size, 1, none⟩ = some (.int .i64 (m : Int)) := by rw [World.cell?_of_block (a := ⟨w.heap.size, 1, none⟩) hbk]; exact ((box1 w2 _).cell (p := ⟨w.heap.size, 1, none⟩) hlt2).trans d1
           clear hg3 hbk
           obtain ⟨a3, c3, rfl, _, _, hg3⟩ := own_slice hown3
           obtain ⟨g3, rfl, hg3a, hg3b⟩ := hg3 h0L
           obtain ⟨b3, o3, ha3, _, _, _, _, _, _, _, e6, _⟩ := HEM.out w3 _ (Rd.own HO3.out)
           obtain ⟨rfl, rfl⟩ := And.intro (Addr.mk.inj (Option.some.inj ha3)).1 (Addr.mk.inj (Option.some.inj ha3)).2.1
           rw [Nat.zero_add] at e6
           have fr := HO3.out.frozenAt (m * 8 + 6)
           have hst := HO3.out.stored (m * 8 + 6) (.int .i64 (tm.start + by_))
           have HO4 : Hid ((w3.setCell ⟨g3, m * 8 + 6, none⟩ (.int .i64 (tm.start + by_))).ownsRow w2.heap.size 38 8 (.slice (some ⟨g3, 0, none⟩) L.length c3) L.length (flatL L1)) := by rw [← HF1.out]; exact hst.1
           have hne3 : some w.heap.size ≠ some g3 := by intro h; injection h with h; omega
           have hbk4 := hst.2.block w.heap.size (Nat.lt_of_lt_of_le (Nat.lt_of_lt_of_le hlt2 hg3a) (Nat.le_of_lt hg3b)) hne3
           have k0 : (w3.setCell ⟨g3, m * 8 + 6, none⟩ (.int .i64 (tm.start + by_))).cell? ⟨w.heap.size, 0, none⟩ = some (.int .i64 (n : Int)) := by rw [World.cell?_of_block (a := ⟨w.heap.size, 0, none⟩) hbk4]; exact d0
           have k1 : (w3.setCell ⟨g3, m * 8 + 6, none⟩ (.int .i64 (tm.start + by_))).cell? ⟨w.heap.size, 1, none⟩ = some (.int .i64 (m : Int)) := by rw [World.cell?_of_block (a := ⟨w.heap.size, 1, none⟩) hbk4]; exact d1
           have HB4 := Lib.hid (HB3.out.setCell (p := ⟨g3, m * 8 + 6, none⟩) (Nat.le_trans HB2.out.size hg3a) (.int .i64 (tm.start + by_)))
           clear hown3 hst hbk4 ha3)
        | (go_at_call 13
           with_reducible (show Calls Try.prog 13 #[.slice (some ⟨g3, 0, none⟩) L.length c3, .agg #[.int .i64 (n : Int), .int .i64 (m : Int)]] (w3.setCell ⟨g3, m * 8 + 6, none⟩ (.int .i64 (tm.start + by_))) _)
           refine (HPG1.out _ _ _ (Rd.own HO4.out)).mono ?_; rintro e w5 ⟨rfl, hb5⟩
           have HO5 := Lib.hid (own_below HO4.out hb5)
           have HB5 := Lib.hid (bel2 HB4.out hb5)
           have k0 := (hb5.cell (p := ⟨w.heap.size, 0, none⟩) (block_lt_of_cell k0)).trans k0
           have k1 := (hb5.cell (p := ⟨w.heap.size, 1, none⟩) (block_lt_of_cell k1)).trans k1
           obtain ⟨b5, o5, ha5, _, _, _, _, _, _, _, f6, _⟩ := HEN.out w5 _ (Rd.own HO5.out)
           obtain ⟨rfl, rfl⟩ := And.intro (Addr.mk.inj (Option.some.inj ha5)).1 (Addr.mk.inj (Option.some.inj ha5)).2.1
           rw [Nat.zero_add] at f6
           have fr5 := HO5.out.frozenAt (n * 8 + 6)
           have hst := HO5.out.stored (n * 8 + 6) (.int .i64 (sn.start + by_))
           have HO6 : Hid ((w5.setCell ⟨g3, n * 8 + 6, none⟩ (.int .i64 (sn.start + by_))).ownsRow w2.heap.size 38 8 (.slice (some ⟨g3, 0, none⟩) L.length c3) L.length (flatL L2)) := by rw [← HF2.out]; exact hst.1
           have hbk6 := hst.2.block w.heap.size (block_lt_of_cell k0) hne3
           have l0 : (w5.setCell ⟨g3, n * 8 + 6, none⟩ (.int .i64 (sn.start + by_))).cell? ⟨w.heap.size, 0, none⟩ = some (.int .i64 (n : Int)) := by rw [World.cell?_of_block (a := ⟨w.heap.size, 0, none⟩) hbk6]; exact k0
           have l1 : (w5.setCell ⟨g3, n * 8 + 6, none⟩ (.int .i64 (sn.start + by_))).cell? ⟨w.heap.size, 1, none⟩ = some (.int .i64 (m : Int)) := by rw [World.cell?_of_block (a := ⟨w.heap.size, 1, none⟩) hbk6]; exact k1
           have HB6 := Lib.hid (HB5.out.setCell (p := ⟨g3, n * 8 + 6, none⟩) (Nat.le_trans HB2.out.size hg3a) (.int .i64 (sn.start + by_)))
           clear hb5 hst hbk6 ha5)
        | (go_at_call 13
           refine (HPG2.out _ _ _ (Rd.own HO6.out)).mono ?_; rintro e w7 ⟨rfl, hb7⟩
           have HB7 := Lib.hid (bel2 HB6.out hb7)
           clear hb7)
        | (go_at_call 8; refine (fixed12_any HOF.out HGP.out _).mono ?_; rintro e w8 ⟨rfl, hb8⟩
           have HB8 := Lib.hid (bel2 HB7.out hb8); clear hb8))
      go_ret
      exact ⟨rfl, HB8.out⟩
    · have HPG1 : Hid (∀ a' c' w', Rd w' w'.heap.size a' (flatL L1) → Calls Try.prog 13 #[.slice a' L.length c', .agg #[.int .i64 (n : Int), .int .i64 (m : Int)]] w' fun e w'' => e = .returned (gapsV (none)) ∧ Below w'.heap.size w' w'') := fun a' c' w' h => by
        have := HGP.out a' c' L1 ⟨(n : Int), (m : Int)⟩ w' h (by rw [HL1.out]; omega) HOK1.out
        rw [h1, HL1.out] at this; exact this
      have HPG2 : Hid (∀ a' c' w', Rd w' w'.heap.size a' (flatL L2) → Calls Try.prog 13 #[.slice a' L.length c', .agg #[.int .i64 (n : Int), .int .i64 (m : Int)]] w' fun e w'' => e = .returned (gapsV (some (x, y))) ∧ Below w'.heap.size w' w'') := fun a' c' w' h => by
        have := HGP.out a' c' L2 ⟨(n : Int), (m : Int)⟩ w' h (by rw [HL2.out]; omega) HOK2.out
        rw [h2, HL2.out] at this; exact this
      simp only [gapsV] at HPG1 HPG2
      clear h1 h2
      go_enter Try.func6, Try.ntmps6
      go_wp2_with (first
        | (go_at_call 7; refine HGR.out.mono ?_; rintro e w1 ⟨rfl, hb1⟩; have HB1 := Lib.hid (bel2 HBV.out hb1)
           have d0 := (hb1.cell (p := ⟨w.heap.size, 0, none⟩) hbz).trans hx0
           have d1 := (hb1.cell (p := ⟨w.heap.size, 1, none⟩) hbz).trans hx1
           clear hb1)
        | (go_at_call 13
           with_reducible (show Calls Try.prog 13 #[.slice a L.length c, .agg #[.int .i64 (n : Int), .int .i64 (m : Int)]] w1 _)
           refine (HPG.out w1 ((HA.out.below HB1.out).more HB1.out.size)).mono ?_; rintro e w2 ⟨rfl, hb2⟩
           have HB2 := Lib.hid (bel2 HB1.out hb2)
           have d0 := (hb2.cell (p := ⟨w.heap.size, 0, none⟩) (block_lt_of_cell d0)).trans d0
           have d1 := (hb2.cell (p := ⟨w.heap.size, 1, none⟩) (block_lt_of_cell d1)).trans d1
           have hlt2 := block_lt_of_cell d0
           clear hb2)
        | (at_builtin
           refine wpList_append_rd _ rfl (.tmp 73) (.tmp 74) 22 rfl w2.heap.size 38 i0 _ 8 80 Try.underlying22 hi0 hz0 hz1 HZ2.out rfl (by omega) (.slice (some ⟨w2.heap.size, 0, none⟩) 0 0) 0 [] rfl (World.ownsRow_made w2 #[] 0 (Nat.le_refl _) (by decide) rfl) _ a L.length c (flatL L) rfl (by rw [flatL_length]) ((HA.out.below HB2.out).below (box1 w2 (.cells #[] 38) |>.mono HB2.out.size)) flatL_one1 (by unfold maxLen; omega) (by omega) (by simp) ?_
           intro v3 w3 hown3 hg3 _
           rw [Nat.zero_add, List.nil_append] at hown3
           have HO3 := Lib.hid hown3
           have HB3 := Lib.hid ((HB2.out.alloc HB2.out.size (.cells #[] 38)).grown hg3 (by have := HB2.out.size; simp; omega) (fun g hg => (own_shape (World.ownsRow_made w2 (e := 38) (size := 8) #[] 0 (Nat.le_refl _) (by decide) rfl) hg).1 |> Nat.le_trans HB2.out.size))
           have hbk := hg3.block w.heap.size (by simp; exact Nat.lt_succ_of_lt hlt2) (by simp [Value.ownBlock]; exact Nat.ne_of_lt hlt2)
           have d0 : w3.cell? ⟨w.heap.size, 0, none⟩ = some (.int .i64 (n : Int)) := by rw [World.cell?_of_block (a := ⟨w.heap.size, 0, none⟩) hbk]; exact ((box1 w2 _).cell (p := ⟨w.heap.size, 0, none⟩) hlt2).trans d0
           have d1 : w3.cell? ⟨w.heap.size, 1, none⟩ = some (.int .i64 (m : Int)) := by rw [World.cell?_of_block (a := ⟨w.heap.size, 1, none⟩) hbk]; exact ((box1 w2 _).cell (p := ⟨w.heap.size, 1, none⟩) hlt2).trans d1
           clear hg3 hbk
           obtain ⟨a3, c3, rfl, _, _, hg3⟩ := own_slice hown3
           obtain ⟨g3, rfl, hg3a, hg3b⟩ := hg3 h0L
           obtain ⟨b3, o3, ha3, _, _, _, _, _, _, _, e6, _⟩ := HEM.out w3 _ (Rd.own HO3.out)
           obtain ⟨rfl, rfl⟩ := And.intro (Addr.mk.inj (Option.some.inj ha3)).1 (Addr.mk.inj (Option.some.inj ha3)).2.1
           rw [Nat.zero_add] at e6
           have fr := HO3.out.frozenAt (m * 8 + 6)
           have hst := HO3.out.stored (m * 8 + 6) (.int .i64 (tm.start + by_))
           have HO4 : Hid ((w3.setCell ⟨g3, m * 8 + 6, none⟩ (.int .i64 (tm.start + by_))).ownsRow w2.heap.size 38 8 (.slice (some ⟨g3, 0, none⟩) L.length c3) L.length (flatL L1)) := by rw [← HF1.out]; exact hst.1
           have hne3 : some w.heap.size ≠ some g3 := by intro h; injection h with h; omega
           have hbk4 := hst.2.block w.heap.size (Nat.lt_of_lt_of_le (Nat.lt_of_lt_of_le hlt2 hg3a) (Nat.le_of_lt hg3b)) hne3
           have k0 : (w3.setCell ⟨g3, m * 8 + 6, none⟩ (.int .i64 (tm.start + by_))).cell? ⟨w.heap.size, 0, none⟩ = some (.int .i64 (n : Int)) := by rw [World.cell?_of_block (a := ⟨w.heap.size, 0, none⟩) hbk4]; exact d0
           have k1 : (w3.setCell ⟨g3, m * 8 + 6, none⟩ (.int .i64 (tm.start + by_))).cell? ⟨w.heap.size, 1, none⟩ = some (.int .i64 (m : Int)) := by rw [World.cell?_of_block (a := ⟨w.heap.size, 1, none⟩) hbk4]; exact d1
           have HB4 := Lib.hid (HB3.out.setCell (p := ⟨g3, m * 8 + 6, none⟩) (Nat.le_trans HB2.out.size hg3a) (.int .i64 (tm.start + by_)))
           clear hown3 hst hbk4 ha3)
        | (go_at_call 13
           with_reducible (show Calls Try.prog 13 #[.slice (some ⟨g3, 0, none⟩) L.length c3, .agg #[.int .i64 (n : Int), .int .i64 (m : Int)]] (w3.setCell ⟨g3, m * 8 + 6, none⟩ (.int .i64 (tm.start + by_))) _)
           refine (HPG1.out _ _ _ (Rd.own HO4.out)).mono ?_; rintro e w5 ⟨rfl, hb5⟩
           have HO5 := Lib.hid (own_below HO4.out hb5)
           have HB5 := Lib.hid (bel2 HB4.out hb5)
           have k0 := (hb5.cell (p := ⟨w.heap.size, 0, none⟩) (block_lt_of_cell k0)).trans k0
           have k1 := (hb5.cell (p := ⟨w.heap.size, 1, none⟩) (block_lt_of_cell k1)).trans k1
           obtain ⟨b5, o5, ha5, _, _, _, _, _, _, _, f6, _⟩ := HEN.out w5 _ (Rd.own HO5.out)
           obtain ⟨rfl, rfl⟩ := And.intro (Addr.mk.inj (Option.some.inj ha5)).1 (Addr.mk.inj (Option.some.inj ha5)).2.1
           rw [Nat.zero_add] at f6
           have fr5 := HO5.out.frozenAt (n * 8 + 6)
           have hst := HO5.out.stored (n * 8 + 6) (.int .i64 (sn.start + by_))
           have HO6 : Hid ((w5.setCell ⟨g3, n * 8 + 6, none⟩ (.int .i64 (sn.start + by_))).ownsRow w2.heap.size 38 8 (.slice (some ⟨g3, 0, none⟩) L.length c3) L.length (flatL L2)) := by rw [← HF2.out]; exact hst.1
           have hbk6 := hst.2.block w.heap.size (block_lt_of_cell k0) hne3
           have l0 : (w5.setCell ⟨g3, n * 8 + 6, none⟩ (.int .i64 (sn.start + by_))).cell? ⟨w.heap.size, 0, none⟩ = some (.int .i64 (n : Int)) := by rw [World.cell?_of_block (a := ⟨w.heap.size, 0, none⟩) hbk6]; exact k0
           have l1 : (w5.setCell ⟨g3, n * 8 + 6, none⟩ (.int .i64 (sn.start + by_))).cell? ⟨w.heap.size, 1, none⟩ = some (.int .i64 (m : Int)) := by rw [World.cell?_of_block (a := ⟨w.heap.size, 1, none⟩) hbk6]; exact k1
           have HB6 := Lib.hid (HB5.out.setCell (p := ⟨g3, n * 8 + 6, none⟩) (Nat.le_trans HB2.out.size hg3a) (.int .i64 (sn.start + by_)))
           clear hb5 hst hbk6 ha5)
        | (go_at_call 13
           refine (HPG2.out _ _ _ (Rd.own HO6.out)).mono ?_; rintro e w7 ⟨rfl, hb7⟩
           have HB7 := Lib.hid (bel2 HB6.out hb7)
           clear hb7)
        | (go_at_call 8; refine (fixed12_any HOF.out HGP.out _).mono ?_; rintro e w8 ⟨rfl, hb8⟩
           have HB8 := Lib.hid (bel2 HB7.out hb8); clear hb8))
      go_ret
      exact ⟨rfl, HB8.out⟩
    · have HPG1 : Hid (∀ a' c' w', Rd w' w'.heap.size a' (flatL L1) → Calls Try.prog 13 #[.slice a' L.length c', .agg #[.int .i64 (n : Int), .int .i64 (m : Int)]] w' fun e w'' => e = .returned (gapsV (some (x + by_, y - by_))) ∧ Below w'.heap.size w' w'') := fun a' c' w' h => by
        have := HGP.out a' c' L1 ⟨(n : Int), (m : Int)⟩ w' h (by rw [HL1.out]; omega) HOK1.out
        rw [h1, HL1.out] at this; exact this
      have HPG2 : Hid (∀ a' c' w', Rd w' w'.heap.size a' (flatL L2) → Calls Try.prog 13 #[.slice a' L.length c', .agg #[.int .i64 (n : Int), .int .i64 (m : Int)]] w' fun e w'' => e = .returned (gapsV (none)) ∧ Below w'.heap.size w' w'') := fun a' c' w' h => by
        have := HGP.out a' c' L2 ⟨(n : Int), (m : Int)⟩ w' h (by rw [HL2.out]; omega) HOK2.out
        rw [h2, HL2.out] at this; exact this
      simp only [gapsV] at HPG1 HPG2
      clear h1 h2
      go_enter Try.func6, Try.ntmps6
      go_wp2_with (first
        | (go_at_call 7; refine HGR.out.mono ?_; rintro e w1 ⟨rfl, hb1⟩; have HB1 := Lib.hid (bel2 HBV.out hb1)
           have d0 := (hb1.cell (p := ⟨w.heap.size, 0, none⟩) hbz).trans hx0
           have d1 := (hb1.cell (p := ⟨w.heap.size, 1, none⟩) hbz).trans hx1
           clear hb1)
        | (go_at_call 13
           with_reducible (show Calls Try.prog 13 #[.slice a L.length c, .agg #[.int .i64 (n : Int), .int .i64 (m : Int)]] w1 _)
           refine (HPG.out w1 ((HA.out.below HB1.out).more HB1.out.size)).mono ?_; rintro e w2 ⟨rfl, hb2⟩
           have HB2 := Lib.hid (bel2 HB1.out hb2)
           have d0 := (hb2.cell (p := ⟨w.heap.size, 0, none⟩) (block_lt_of_cell d0)).trans d0
           have d1 := (hb2.cell (p := ⟨w.heap.size, 1, none⟩) (block_lt_of_cell d1)).trans d1
           have hlt2 := block_lt_of_cell d0
           clear hb2)
        | (at_builtin
           refine wpList_append_rd _ rfl (.tmp 73) (.tmp 74) 22 rfl w2.heap.size 38 i0 _ 8 80 Try.underlying22 hi0 hz0 hz1 HZ2.out rfl (by omega) (.slice (some ⟨w2.heap.size, 0, none⟩) 0 0) 0 [] rfl (World.ownsRow_made w2 #[] 0 (Nat.le_refl _) (by decide) rfl) _ a L.length c (flatL L) rfl (by rw [flatL_length]) ((HA.out.below HB2.out).below (box1 w2 (.cells #[] 38) |>.mono HB2.out.size)) flatL_one1 (by unfold maxLen; omega) (by omega) (by simp) ?_
           intro v3 w3 hown3 hg3 _
           rw [Nat.zero_add, List.nil_append] at hown3
           have HO3 := Lib.hid hown3
           have HB3 := Lib.hid ((HB2.out.alloc HB2.out.size (.cells #[] 38)).grown hg3 (by have := HB2.out.size; simp; omega) (fun g hg => (own_shape (World.ownsRow_made w2 (e := 38) (size := 8) #[] 0 (Nat.le_refl _) (by decide) rfl) hg).1 |> Nat.le_trans HB2.out.size))
           have hbk := hg3.block w.heap.size (by simp; exact Nat.lt_succ_of_lt hlt2) (by simp [Value.ownBlock]; exact Nat.ne_of_lt hlt2)
           have d0 : w3.cell? ⟨w.heap.size, 0, none⟩ = some (.int .i64 (n : Int)) := by rw [World.cell?_of_block (a := ⟨w.heap.size, 0, none⟩) hbk]; exact ((box1 w2 _).cell (p := ⟨w.heap.size, 0, none⟩) hlt2).trans d0
           have d1 : w3.cell? ⟨w.heap.size, 1, none⟩ = some (.int .i64 (m : Int)) := by rw [World.cell?_of_block (a := ⟨w.heap.size, 1, none⟩) hbk]; exact ((box1 w2 _).cell (p := ⟨w.heap.size, 1, none⟩) hlt2).trans d1
           clear hg3 hbk
           obtain ⟨a3, c3, rfl, _, _, hg3⟩ := own_slice hown3
           obtain ⟨g3, rfl, hg3a, hg3b⟩ := hg3 h0L
           obtain ⟨b3, o3, ha3, _, _, _, _, _, _, _, e6, _⟩ := HEM.out w3 _ (Rd.own HO3.out)
           obtain ⟨rfl, rfl⟩ := And.intro (Addr.mk.inj (Option.some.inj ha3)).1 (Addr.mk.inj (Option.some.inj ha3)).2.1
           rw [Nat.zero_add] at e6
           have fr := HO3.out.frozenAt (m * 8 + 6)
           have hst := HO3.out.stored (m * 8 + 6) (.int .i64 (tm.start + by_))
           have HO4 : Hid ((w3.setCell ⟨g3, m * 8 + 6, none⟩ (.int .i64 (tm.start + by_))).ownsRow w2.heap.size 38 8 (.slice (some ⟨g3, 0, none⟩) L.length c3) L.length (flatL L1)) := by rw [← HF1.out]; exact hst.1
           have hne3 : some w.heap.size ≠ some g3 := by intro h; injection h with h; omega
           have hbk4 := hst.2.block w.heap.size (Nat.lt_of_lt_of_le (Nat.lt_of_lt_of_le hlt2 hg3a) (Nat.le_of_lt hg3b)) hne3
           have k0 : (w3.setCell ⟨g3, m * 8 + 6, none⟩ (.int .i64 (tm.start + by_))).cell? ⟨w.heap.size, 0, none⟩ = some (.int .i64 (n : Int)) := by rw [World.cell?_of_block (a := ⟨w.heap.size, 0, none⟩) hbk4]; exact d0
           have k1 : (w3.setCell ⟨g3, m * 8 + 6, none⟩ (.int .i64 (tm.start + by_))).cell? ⟨w.heap.size, 1, none⟩ = some (.int .i64 (m : Int)) := by rw [World.cell?_of_block (a := ⟨w.heap.size, 1, none⟩) hbk4]; exact d1
           have HB4 := Lib.hid (HB3.out.setCell (p := ⟨g3, m * 8 + 6, none⟩) (Nat.le_trans HB2.out.size hg3a) (.int .i64 (tm.start + by_)))
           clear hown3 hst hbk4 ha3)
        | (go_at_call 13
           with_reducible (show Calls Try.prog 13 #[.slice (some ⟨g3, 0, none⟩) L.length c3, .agg #[.int .i64 (n : Int), .int .i64 (m : Int)]] (w3.setCell ⟨g3, m * 8 + 6, none⟩ (.int .i64 (tm.start + by_))) _)
           refine (HPG1.out _ _ _ (Rd.own HO4.out)).mono ?_; rintro e w5 ⟨rfl, hb5⟩
           have HO5 := Lib.hid (own_below HO4.out hb5)
           have HB5 := Lib.hid (bel2 HB4.out hb5)
           have k0 := (hb5.cell (p := ⟨w.heap.size, 0, none⟩) (block_lt_of_cell k0)).trans k0
           have k1 := (hb5.cell (p := ⟨w.heap.size, 1, none⟩) (block_lt_of_cell k1)).trans k1
           obtain ⟨b5, o5, ha5, _, _, _, _, _, _, _, f6, _⟩ := HEN.out w5 _ (Rd.own HO5.out)
           obtain ⟨rfl, rfl⟩ := And.intro (Addr.mk.inj (Option.some.inj ha5)).1 (Addr.mk.inj (Option.some.inj ha5)).2.1
           rw [Nat.zero_add] at f6
           have fr5 := HO5.out.frozenAt (n * 8 + 6)
           have hst := HO5.out.stored (n * 8 + 6) (.int .i64 (sn.start + by_))
           have HO6 : Hid ((w5.setCell ⟨g3, n * 8 + 6, none⟩ (.int .i64 (sn.start + by_))).ownsRow w2.heap.size 38 8 (.slice (some ⟨g3, 0, none⟩) L.length c3) L.length (flatL L2)) := by rw [← HF2.out]; exact hst.1
           have hbk6 := hst.2.block w.heap.size (block_lt_of_cell k0) hne3
           have l0 : (w5.setCell ⟨g3, n * 8 + 6, none⟩ (.int .i64 (sn.start + by_))).cell? ⟨w.heap.size, 0, none⟩ = some (.int .i64 (n : Int)) := by rw [World.cell?_of_block (a := ⟨w.heap.size, 0, none⟩) hbk6]; exact k0
           have l1 : (w5.setCell ⟨g3, n * 8 + 6, none⟩ (.int .i64 (sn.start + by_))).cell? ⟨w.heap.size, 1, none⟩ = some (.int .i64 (m : Int)) := by rw [World.cell?_of_block (a := ⟨w.heap.size, 1, none⟩) hbk6]; exact k1
           have HB6 := Lib.hid (HB5.out.setCell (p := ⟨g3, n * 8 + 6, none⟩) (Nat.le_trans HB2.out.size hg3a) (.int .i64 (sn.start + by_)))
           clear hb5 hst hbk6 ha5)
        | (go_at_call 13
           refine (HPG2.out _ _ _ (Rd.own HO6.out)).mono ?_; rintro e w7 ⟨rfl, hb7⟩
           have HB7 := Lib.hid (bel2 HB6.out hb7)
           clear hb7)
        | (go_at_call 8; refine (fixed12_any HOF.out HGP.out _).mono ?_; rintro e w8 ⟨rfl, hb8⟩
           have HB8 := Lib.hid (bel2 HB7.out hb8); clear hb8))
      go_ret
      exact ⟨rfl, HB8.out⟩
    · have HPG1 : Hid (∀ a' c' w', Rd w' w'.heap.size a' (flatL L1) → Calls Try.prog 13 #[.slice a' L.length c', .agg #[.int .i64 (n : Int), .int .i64 (m : Int)]] w' fun e w'' => e = .returned (gapsV (some (x + by_, y - by_))) ∧ Below w'.heap.size w' w'') := fun a' c' w' h => by
        have := HGP.out a' c' L1 ⟨(n : Int), (m : Int)⟩ w' h (by rw [HL1.out]; omega) HOK1.out
        rw [h1, HL1.out] at this; exact this
      have HPG2 : Hid (∀ a' c' w', Rd w' w'.heap.size a' (flatL L2) → Calls Try.prog 13 #[.slice a' L.length c', .agg #[.int .i64 (n : Int), .int .i64 (m : Int)]] w' fun e w'' => e = .returned (gapsV (some (x, y))) ∧ Below w'.heap.size w' w'') := fun a' c' w' h => by
        have := HGP.out a' c' L2 ⟨(n : Int), (m : Int)⟩ w' h (by rw [HL2.out]; omega) HOK2.out
        rw [h2, HL2.out] at this; exact this
      simp only [gapsV] at HPG1 HPG2
      clear h1 h2
      go_enter Try.func6, Try.ntmps6
      go_wp2_with (first
        | (go_at_call 7; refine HGR.out.mono ?_; rintro e w1 ⟨rfl, hb1⟩; have HB1 := Lib.hid (bel2 HBV.out hb1)
           have d0 := (hb1.cell (p := ⟨w.heap.size, 0, none⟩) hbz).trans hx0
           have d1 := (hb1.cell (p := ⟨w.heap.size, 1, none⟩) hbz).trans hx1
           clear hb1)
        | (go_at_call 13
           with_reducible (show Calls Try.prog 13 #[.slice a L.length c, .agg #[.int .i64 (n : Int), .int .i64 (m : Int)]] w1 _)
           refine (HPG.out w1 ((HA.out.below HB1.out).more HB1.out.size)).mono ?_; rintro e w2 ⟨rfl, hb2⟩
           have HB2 := Lib.hid (bel2 HB1.out hb2)
           have d0 := (hb2.cell (p := ⟨w.heap.size, 0, none⟩) (block_lt_of_cell d0)).trans d0
           have d1 := (hb2.cell (p := ⟨w.heap.size, 1, none⟩) (block_lt_of_cell d1)).trans d1
           have hlt2 := block_lt_of_cell d0
           clear hb2)
        | (at_builtin
           refine wpList_append_rd _ rfl (.tmp 73) (.tmp 74) 22 rfl w2.heap.size 38 i0 _ 8 80 Try.underlying22 hi0 hz0 hz1 HZ2.out rfl (by omega) (.slice (some ⟨w2.heap.size, 0, none⟩) 0 0) 0 [] rfl (World.ownsRow_made w2 #[] 0 (Nat.le_refl _) (by decide) rfl) _ a L.length c (flatL L) rfl (by rw [flatL_length]) ((HA.out.below HB2.out).below (box1 w2 (.cells #[] 38) |>.mono HB2.out.size)) flatL_one1 (by unfold maxLen; omega) (by omega) (by simp) ?_
           intro v3 w3 hown3 hg3 _
           rw [Nat.zero_add, List.nil_append] at hown3
           have HO3 := Lib.hid hown3
           have HB3 := Lib.hid ((HB2.out.alloc HB2.out.size (.cells #[] 38)).grown hg3 (by have := HB2.out.size; simp; omega) (fun g hg => (own_shape (World.ownsRow_made w2 (e := 38) (size := 8) #[] 0 (Nat.le_refl _) (by decide) rfl) hg).1 |> Nat.le_trans HB2.out.size))
           have hbk := hg3.block w.heap.size (by simp; exact Nat.lt_succ_of_lt hlt2) (by simp [Value.ownBlock]; exact Nat.ne_of_lt hlt2)
           have d0 : w3.cell? ⟨w.heap.size, 0, none⟩ = some (.int .i64 (n : Int)) := by rw [World.cell?_of_block (a := ⟨w.heap.size, 0, none⟩) hbk]; exact ((box1 w2 _).cell (p := ⟨w.heap.size, 0, none⟩) hlt2).trans d0
           have d1 : w3.cell? ⟨w.heap.size, 1, none⟩ = some (.int .i64 (m : Int)) := by rw [World.cell?_of_block (a := ⟨w.heap.size, 1, none⟩) hbk]; exact ((box1 w2 _).cell (p := ⟨w.heap.size, 1, none⟩) hlt2).trans d1
           clear hg3 hbk
           obtain ⟨a3, c3, rfl, _, _, hg3⟩ := own_slice hown3
           obtain ⟨g3, rfl, hg3a, hg3b⟩ := hg3 h0L
           obtain ⟨b3, o3, ha3, _, _, _, _, _, _, _, e6, _⟩ := HEM.out w3 _ (Rd.own HO3.out)
           obtain ⟨rfl, rfl⟩ := And.intro (Addr.mk.inj (Option.some.inj ha3)).1 (Addr.mk.inj (Option.some.inj ha3)).2.1
           rw [Nat.zero_add] at e6
           have fr := HO3.out.frozenAt (m * 8 + 6)
           have hst := HO3.out.stored (m * 8 + 6) (.int .i64 (tm.start + by_))
           have HO4 : Hid ((w3.setCell ⟨g3, m * 8 + 6, none⟩ (.int .i64 (tm.start + by_))).ownsRow w2.heap.size 38 8 (.slice (some ⟨g3, 0, none⟩) L.length c3) L.length (flatL L1)) := by rw [← HF1.out]; exact hst.1
           have hne3 : some w.heap.size ≠ some g3 := by intro h; injection h with h; omega
           have hbk4 := hst.2.block w.heap.size (Nat.lt_of_lt_of_le (Nat.lt_of_lt_of_le hlt2 hg3a) (Nat.le_of_lt hg3b)) hne3
           have k0 : (w3.setCell ⟨g3, m * 8 + 6, none⟩ (.int .i64 (tm.start + by_))).cell? ⟨w.heap.size, 0, none⟩ = some (.int .i64 (n : Int)) := by rw [World.cell?_of_block (a := ⟨w.heap.size, 0, none⟩) hbk4]; exact d0
           have k1 : (w3.setCell ⟨g3, m * 8 + 6, none⟩ (.int .i64 (tm.start + by_))).cell? ⟨w.heap.size, 1, none⟩ = some (.int .i64 (m : Int)) := by rw [World.cell?_of_block (a := ⟨w.heap.size, 1, none⟩) hbk4]; exact d1
           have HB4 := Lib.hid (HB3.out.setCell (p := ⟨g3, m * 8 + 6, none⟩) (Nat.le_trans HB2.out.size hg3a) (.int .i64 (tm.start + by_)))
           clear hown3 hst hbk4 ha3)
        | (go_at_call 13
           with_reducible (show Calls Try.prog 13 #[.slice (some ⟨g3, 0, none⟩) L.length c3, .agg #[.int .i64 (n : Int), .int .i64 (m : Int)]] (w3.setCell ⟨g3, m * 8 + 6, none⟩ (.int .i64 (tm.start + by_))) _)
           refine (HPG1.out _ _ _ (Rd.own HO4.out)).mono ?_; rintro e w5 ⟨rfl, hb5⟩
           have HO5 := Lib.hid (own_below HO4.out hb5)
           have HB5 := Lib.hid (bel2 HB4.out hb5)
           have k0 := (hb5.cell (p := ⟨w.heap.size, 0, none⟩) (block_lt_of_cell k0)).trans k0
           have k1 := (hb5.cell (p := ⟨w.heap.size, 1, none⟩) (block_lt_of_cell k1)).trans k1
           obtain ⟨b5, o5, ha5, _, _, _, _, _, _, _, f6, _⟩ := HEN.out w5 _ (Rd.own HO5.out)
           obtain ⟨rfl, rfl⟩ := And.intro (Addr.mk.inj (Option.some.inj ha5)).1 (Addr.mk.inj (Option.some.inj ha5)).2.1
           rw [Nat.zero_add] at f6
           have fr5 := HO5.out.frozenAt (n * 8 + 6)
           have hst := HO5.out.stored (n * 8 + 6) (.int .i64 (sn.start + by_))
           have HO6 : Hid ((w5.setCell ⟨g3, n * 8 + 6, none⟩ (.int .i64 (sn.start + by_))).ownsRow w2.heap.size 38 8 (.slice (some ⟨g3, 0, none⟩) L.length c3) L.length (flatL L2)) := by rw [← HF2.out]; exact hst.1
           have hbk6 := hst.2.block w.heap.size (block_lt_of_cell k0) hne3
           have l0 : (w5.setCell ⟨g3, n * 8 + 6, none⟩ (.int .i64 (sn.start + by_))).cell? ⟨w.heap.size, 0, none⟩ = some (.int .i64 (n : Int)) := by rw [World.cell?_of_block (a := ⟨w.heap.size, 0, none⟩) hbk6]; exact k0
           have l1 : (w5.setCell ⟨g3, n * 8 + 6, none⟩ (.int .i64 (sn.start + by_))).cell? ⟨w.heap.size, 1, none⟩ = some (.int .i64 (m : Int)) := by rw [World.cell?_of_block (a := ⟨w.heap.size, 1, none⟩) hbk6]; exact k1
           have HB6 := Lib.hid (HB5.out.setCell (p := ⟨g3, n * 8 + 6, none⟩) (Nat.le_trans HB2.out.size hg3a) (.int .i64 (sn.start + by_)))
           clear hb5 hst hbk6 ha5)
        | (go_at_call 13
           refine (HPG2.out _ _ _ (Rd.own HO6.out)).mono ?_; rintro e w7 ⟨rfl, hb7⟩
           have HB7 := Lib.hid (bel2 HB6.out hb7)
           clear hb7)
        | (go_at_call 8; refine (fixed12_any HOF.out HGP.out _).mono ?_; rintro e w8 ⟨rfl, hb8⟩
           have HB8 := Lib.hid (bel2 HB7.out hb8); clear hb8))
      go_ret
      exact ⟨rfl, HB8.out⟩
end Go.Proofs.Ytommpppbdkapbaa

