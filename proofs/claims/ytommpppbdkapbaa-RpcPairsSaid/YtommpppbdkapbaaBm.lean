import Derived.Test.YtommpppbdkapbaaBn
namespace Go.Proofs.Ytommpppbdkapbaa
open Go Go.Shelf Go.RowKit Go.Sort
set_option linter.unusedVariables false

/-! Within (over Gaps) and Of of the landed code (stage 12). -/
set_option maxHeartbeats 2000000 in
theorem within_pays12 (hg : GapsPay 13) : WithinPay 15 := by
  intro a c L p w ha hl hok
  have HA := Lib.hid ha; have HOK := Lib.hid hok; have HG := Lib.hid hg; clear ha hok hg
  obtain ⟨x, y⟩ := p
  obtain ⟨r, hr⟩ : ∃ r, r = gapsL L ⟨x, y⟩ := ⟨_, rfl⟩
  have HR := Lib.hid hr
  have hB := box1 w (.cells #[.int .i64 x, .int .i64 y] 32)
  have hk := HG.out a c L ⟨x, y⟩ _ ((HA.out.below hB).more hB.size) hl HOK.out
  rw [← hr] at hk ⊢
  simp only [Pr.v] at hk ⊢
  have HB := Lib.hid hB
  clear hr hB
  cases r with
  | none =>
    simp only [gapsV] at hk
    have HK := Lib.hid hk; clear hk
    go_enter Try.func15, Try.ntmps15
    go_wp2_with (go_at_call 13; refine HK.out.mono ?_; rintro e w1 ⟨rfl, hb1⟩)
    go_ret
    exact ⟨rfl, bel2 HB.out hb1⟩
  | some z =>
    obtain ⟨l, t⟩ := z
    simp only [gapsV] at hk
    have HK := Lib.hid hk; clear hk
    by_cases h1 : 0 ≤ l
    case neg =>
      have d1 : decide (0 ≤ l) = false := decide_eq_false h1
      have HE : Hid (withinB (some (l, t)) = false) := by show _ = _; simp [withinB, d1]
      go_enter Try.func15, Try.ntmps15
      go_wp2_with (go_at_call 13; refine HK.out.mono ?_; rintro e w1 ⟨rfl, hb1⟩)
      go_ret
      exact ⟨by rw [HE.out]; rfl, bel2 HB.out hb1⟩
    by_cases h2 : 0 ≤ t
    case neg =>
      have d1 : decide (0 ≤ l) = true := decide_eq_true h1
      have d2 : decide (0 ≤ t) = false := decide_eq_false h2
      have HE : Hid (withinB (some (l, t)) = false) := by show _ = _; simp [withinB, d2]
      go_enter Try.func15, Try.ntmps15
      go_wp2_with (go_at_call 13; refine HK.out.mono ?_; rintro e w1 ⟨rfl, hb1⟩)
      go_ret
      exact ⟨by rw [HE.out]; rfl, bel2 HB.out hb1⟩
    have d1 : decide (0 ≤ l) = true := decide_eq_true h1
    have d2 : decide (0 ≤ t) = true := decide_eq_true h2
    have HE : Hid (withinB (some (l, t)) = true) := by show _ = _; simp [withinB, d1, d2]
    go_enter Try.func15, Try.ntmps15
    go_wp2_with (go_at_call 13; refine HK.out.mono ?_; rintro e w1 ⟨rfl, hb1⟩)
    go_ret
    exact ⟨by rw [HE.out]; rfl, bel2 HB.out hb1⟩
/-- Each parent is -1 or a place of as many. -/
def InP (P : List Int) : Prop := ∀ x ∈ P, -1 ≤ x ∧ x < P.length
instance decInP (P : List Int) : Decidable (InP P) := by unfold InP; infer_instance
theorem inP_no {P : List Int} {k : Nat} (hk : k < P.length) (h : P[k] < -1 ∨ (P.length : Int) ≤ P[k]) : ¬ InP P := fun hf => by
  have := hf _ (List.getElem_mem hk); omega
set_option maxHeartbeats 1000000 in
theorem inRange12_any (a : Option Addr) (c : Nat) (P : List Int) (w : World) (ha : Rd w w.heap.size a (intV P)) (hl : P.length ≤ 100000) :
    Calls Try.prog 17 #[.slice a P.length c] w fun e w' => e = .returned (.bool (decide (InP P))) ∧ Below w.heap.size w w' := by
  have HA := Lib.hid ha; clear ha
  go_enter Try.func17, Try.ntmps17
  go_wp2
  go_loopw [7] (fun i wr => ∃ k : Nat, k ≤ P.length ∧ i = .int .i64 (k : Int) ∧ (∀ j (h : j < P.length), j < k → -1 ≤ P[j] ∧ P[j] < P.length) ∧ wr = w) (fun i _ => P.length - (intOf i).toNat)
  case atStart => exact ⟨0, Nat.zero_le _, rfl, fun j _ h => absurd h (Nat.not_lt_zero _), rfl⟩
  case round =>
    obtain ⟨k, hk, rfl, hv, hw⟩ := hrel
    subst hw
    have HV := Lib.hid hv; clear hv
    by_cases hlt : k < P.length
    · obtain ⟨b1, o1, ha1, _, c0⟩ := HA.out.num hlt
      subst ha1
      have i1 : (0 : Int) ≤ (k : Int) := by omega
      have i2 : (k : Int) < (P.length : Int) := by omega
      have HN := Lib.hid (fun hx => inP_no hlt hx)
      have HX : Hid (-1 ≤ P[k] ∧ P[k] < P.length → ∀ j (h : j < P.length), j < k + 1 → -1 ≤ P[j] ∧ P[j] < P.length) := fun hx j h hj => by
        by_cases e : j = k
        · subst e; exact hx
        · exact HV.out j h (by omega)
      generalize P[k] = x at *
      by_cases h1 : x < -1
      · have HE : Hid (decide (InP P) = false) := decide_eq_false (HN.out (.inl h1))
        have q1 : decide (x < -1) = true := decide_eq_true h1
        go_wp2
        go_ret
        exact ⟨ret_bool HE.out.symm, Below.refl _ _⟩
      · have q1 : decide (x < -1) = false := decide_eq_false h1
        by_cases h2 : (P.length : Int) ≤ x
        · have HE : Hid (decide (InP P) = false) := decide_eq_false (HN.out (.inr h2))
          go_wp2
          go_ret
          exact ⟨ret_bool HE.out.symm, Below.refl _ _⟩
        · have HE := Lib.hid (HX.out ⟨by omega, by omega⟩)
          go_wp2
          go_roundw
          case rel => exact ⟨k + 1, by omega, by go_num, HE.out, trivial⟩
          case measure => simp [intOf]; omega
    · have HE : Hid (decide (InP P) = true) := decide_eq_true fun x hx => by
        obtain ⟨j, hj, rfl⟩ := List.mem_iff_getElem.1 hx
        exact HV.out j hj (by omega)
      go_wp2
      go_ret
      exact ⟨ret_bool HE.out.symm, Below.refl _ _⟩
theorem find_some {L : List Sp} {x : Int} {s : Sp} (h : atP L x = some s) : findL L x = if mayB s then some s else none := by
  unfold findL; rw [h]; cases hm : mayB s <;> simp [hm]
theorem find_none {L : List Sp} {x : Int} (h : atP L x = none) : findL L x = none := by unfold findL; rw [h]; rfl
theorem pairAt_is (L : List Sp) (P : List Int) (n : Nat) : pairAt L P n = if pairB L ⟨P.getD n (-1), (n : Int)⟩ then some ⟨P.getD n (-1), (n : Int)⟩ else none := by
  unfold pairAt pairB
  generalize P.getD n (-1) = q
  cases hc : atP L q with
  | none => simp [find_none hc]
  | some c =>
    cases hs : atP L (n : Int) with
    | none => simp [find_none hs]
    | some s =>
      simp only [find_some hc, find_some hs]
      cases mayB s <;> cases mayB c <;> by_cases h1 : s.kind = 2 <;> by_cases h2 : c.kind = 1 <;> simp [orZ, h1, h2]
set_option maxHeartbeats 8000000 in
theorem of_pays12 : PairsPay 11 := by
  intro a c L b d P w ha hb hl hp hok hip
  obtain ⟨i0, hi0, hz0, hz1, hz2⟩ := info_parts info_pair
  have HZ2 := Lib.hid hz2; clear hz2
  have HA := Lib.hid ha; have HB := Lib.hid hb; have HOK := Lib.hid hok; clear ha hb hok hip
  by_cases hlen : L.length = P.length
  case neg =>
    have HE := Lib.hid (fit_no1 hlen)
    have q1 : ((P.length : Int) != (L.length : Int)) = true := by simpa using (by omega : ¬ (P.length : Int) = (L.length : Int))
    have q2 : ((P.length : Int) == (L.length : Int)) = false := by simpa using (by omega : ¬ (P.length : Int) = (L.length : Int))
    clear hlen
    go_enter Try.func11, Try.ntmps11
    go_wp2_with fail
    go_ret
    exact ⟨_, rfl, by rw [HE.out]; exact World.ownsRow_nil _ _ _ _, Below.refl _ _⟩
  have HPL : Hid (P.length = L.length) := hlen.symm
  have q1 : ((P.length : Int) != (L.length : Int)) = false := by simp [hlen]
  have q2 : ((P.length : Int) == (L.length : Int)) = true := by simp [hlen]
  clear hlen
  have hin := inRange12_any b d P w HB.out hp
  by_cases hI : InP P
  case neg =>
    have HE : Hid (pairsL L P = []) := by
      show _ = _; unfold pairsL
      exact if_neg fun hf => hI fun x hx => by have := hf.2 x hx; have := HPL.out; omega
    rw [decide_eq_false hI] at hin
    have HIN := Lib.hid hin; clear hin hI
    go_enter Try.func11, Try.ntmps11
    go_wp2_with (go_at_call 17; refine HIN.out.mono ?_; rintro e w1 ⟨rfl, hb1⟩)
    go_ret
    exact ⟨_, rfl, by rw [HE.out]; exact World.ownsRow_nil _ _ _ _, hb1⟩
  have HFIT : Hid (FitP L P) := ⟨HPL.out, fun x hx => by have := hI x hx; have := HPL.out; omega⟩
  have HEND := Lib.hid (fit_yes HFIT.out)
  rw [decide_eq_true hI] at hin
  have HIN := Lib.hid hin; clear hin hI
  go_enter Try.func11, Try.ntmps11
  go_wp2_with (first
    | (go_at_call 17; refine HIN.out.mono ?_; rintro e w1 ⟨rfl, hb1⟩
       have HB1 := Lib.hid hb1; have hs1 := hb1.size; clear hb1)
    | (go_at_call 18; refine (finder_is a L.length c w1).mono ?_; rintro e w2 ⟨rfl, hw2⟩
       have HW2 : Hid (Below w.heap.size w w2) := by show Below _ _ _; rw [hw2]; exact HB1.out.alloc hs1 _
       have HC2 : Hid (w2.cell? ⟨w1.heap.size, 0, none⟩ = some (.slice a L.length c) ∧ w1.heap.size < w2.heap.size) := by show _ ∧ _; rw [hw2]; exact ⟨by simp, by simp⟩
       clear hw2))
  obtain ⟨fb, hfb⟩ : ∃ fb, fb = w1.heap.size := ⟨_, rfl⟩
  rw [← hfb] at HC2 ⊢
  have HFB : Hid (w.heap.size ≤ fb) := by show _ ≤ _; omega
  clear hfb hs1
  go_loopw [5, 24] (fun v i wr => ∃ (n : Nat) (v' : Value), n ≤ P.length ∧ i = .int .i64 n ∧ v' = v ∧ wr.ownsRow w.heap.size 32 2 v' (pairsN L P n).length (prsV (pairsN L P n)) ∧ Below w.heap.size w wr ∧ wr.cell? ⟨fb, 0, none⟩ = some (.slice a L.length c) ∧ fb < wr.heap.size ∧ v'.ownBlock ≠ some fb) (fun _ i _ => P.length - (intOf i).toNat)
  case atStart => exact ⟨0, _, Nat.zero_le _, rfl, rfl, World.ownsRow_nil _ _ _ _, HW2.out, HC2.out.1, HC2.out.2, by simp [Value.ownBlock]⟩
  case round =>
    obtain ⟨n, v, hn, rfl, hv, hown, hb, hfc, hfl, hno⟩ := hrel
    subst hv
    obtain ⟨va, vc, rfl, _, _, _⟩ := own_slice hown
    have HO := Lib.hid hown; have HBB := Lib.hid hb; have HFC := Lib.hid hfc; have HFL := Lib.hid hfl; have HNO := Lib.hid hno; clear hown hb hfc hfl hno
    have hpl := pairsN_le L P n
    generalize wr = W2 at *
    by_cases hlt : n < P.length
    · obtain ⟨b1, o1, ha1, _, c0⟩ := (HB.out.below HBB.out).num hlt
      subst ha1
      have i3 : (n : Int) < (P.length : Int) := by omega
      have i4 : (0 : Int) ≤ (n : Int) := by omega
      have HPA := Lib.hid (pairAt_is L P n)
      have hgd : P.getD n (-1) = P[n] := by simp [List.getD, hlt]
      rw [hgd] at HPA
      have HYES := Lib.hid (fun x h => pairsN_yes (L := L) (P := P) (n := n) (x := x) h)
      have HNONE := Lib.hid (fun h => pairsN_no (L := L) (P := P) (n := n) h)
      generalize P[n] = p at *
      clear hgd
      have HBA := Lib.hid (bel2 HBB.out (box1 W2 (.cells #[.int .i64 p, .int .i64 (n : Int)] 32)))
      have hip := isPair_any fb a c L ⟨p, (n : Int)⟩ (W2.alloc (.cells #[.int .i64 p, .int .i64 (n : Int)] 32)) (by simp; have := HFL.out; omega) (((box1 W2 _).cell (p := ⟨fb, 0, none⟩) HFL.out).trans HFC.out) ((HA.out.below HBA.out).more HBA.out.size) hl HOK.out
      simp only [Pr.v] at hip
      have HFA : Hid ((W2.alloc (.cells #[.int .i64 p, .int .i64 (n : Int)] 32)).cell? ⟨fb, 0, none⟩ = some (.slice a L.length c)) := ((box1 W2 _).cell (p := ⟨fb, 0, none⟩) HFL.out).trans HFC.out
      have HOA := Lib.hid (own_below HO.out (box1 W2 (.cells #[.int .i64 p, .int .i64 (n : Int)] 32)))
      have HLA : Hid ((W2.alloc (.cells #[.int .i64 p, .int .i64 (n : Int)] 32)).heap.size = W2.heap.size + 1) := by show _ = _; simp
      have HXA : Hid ((W2.alloc (.cells #[.int .i64 p, .int .i64 (n : Int)] 32)).cell? ⟨W2.heap.size, 0, none⟩ = some (.int .i64 p) ∧ (W2.alloc (.cells #[.int .i64 p, .int .i64 (n : Int)] 32)).cell? ⟨W2.heap.size, 1, none⟩ = some (.int .i64 (n : Int))) := ⟨by simp, by simp⟩
      have hsz2 := HBB.out.size
      cases hB : pairB L ⟨p, (n : Int)⟩ with
      | false =>
        rw [hB] at hip HPA
        have HIP := Lib.hid hip; clear hip hB
        have HK := Lib.hid (HNONE.out HPA.out)
        go_wp2_with (go_at_call 19; refine HIP.out.mono ?_; rintro e w4 ⟨rfl, hb4⟩
                     have HB4 := Lib.hid (bel2 HBA.out hb4)
                     have HO4 := Lib.hid (own_below HOA.out hb4)
                     have HF4 := Lib.hid ((hb4.cell (p := ⟨fb, 0, none⟩) (by rw [HLA.out]; have := HFL.out; show fb < _; omega)).trans HFA.out)
                     have HL4 := Lib.hid hb4.size; clear hb4)
        go_roundw
        case rel => exact ⟨n + 1, _, by omega, by go_num, rfl, by rw [HK.out]; exact HO4.out, HB4.out, HF4.out, by have := HL4.out; rw [HLA.out] at this; have := HFL.out; omega, HNO.out⟩
        case measure => simp [intOf]; omega
      | true =>
        rw [hB] at hip HPA
        have HIP := Lib.hid hip; clear hip hB
        have HK := Lib.hid (HYES.out _ HPA.out)
        go_wp2_with (first
          | (go_at_call 19; refine HIP.out.mono ?_; rintro e w4 ⟨rfl, hb4⟩
             have HB4 := Lib.hid (bel2 HBA.out hb4)
             have HO4 := Lib.hid (own_below HOA.out hb4)
             have HF4 := Lib.hid ((hb4.cell (p := ⟨fb, 0, none⟩) (by rw [HLA.out]; have := HFL.out; show fb < _; omega)).trans HFA.out)
             have e0 := (hb4.cell (p := ⟨W2.heap.size, 0, none⟩) (by rw [HLA.out]; show W2.heap.size < _; omega)).trans HXA.out.1
             have e1 := (hb4.cell (p := ⟨W2.heap.size, 1, none⟩) (by rw [HLA.out]; show W2.heap.size < _; omega)).trans HXA.out.2
             have HL4 := Lib.hid hb4.size; clear hb4)
          | (at_builtin
             refine wpList_append_rd _ rfl (.tmp 35) (.tmp 37) 28 rfl w.heap.size 32 i0 _ 2 16 Try.underlying28 hi0 hz0 hz1 HZ2.out rfl (by omega) (.slice va (pairsN L P n).length vc) (pairsN L P n).length _ rfl (own_below HO4.out (box1 _ _)) _ _ 1 1 [.int .i64 p, .int .i64 (n : Int)] rfl rfl (lit_rd w4 #[.int .i64 p, .int .i64 (n : Int)] _) (by intro u hu; simp only [List.mem_cons, List.not_mem_nil, or_false] at hu; rcases hu with rfl | rfl <;> rfl) (by unfold maxLen; omega) (by omega) (by have := HB4.out.size; simp; omega) ?_
             intro v7 w7 hown7 hg7 hv7
             have HO7 := Lib.hid hown7; have HG7 := Lib.hid hg7; have HV7 := Lib.hid hv7; clear hown7 hg7 hv7))
        have HS4 : Hid (fb < w4.heap.size) := by show _ < _; have := HL4.out; rw [HLA.out] at this; have := HFL.out; omega
        have hgs := HG7.out.size
        go_roundw
        case rel =>
          refine ⟨n + 1, _, by omega, by go_num, rfl, by rw [HK.out, List.length_append, prsV_append, prsV_single]; exact HO7.out, (HB4.out.alloc HB4.out.size _).grown HG7.out (by have := HB4.out.size; simp; omega) (fun g hg => (own_shape HO4.out hg).1), ?_, ?_, ?_⟩
          · rw [HG7.out.cell_far ⟨fb, 0, none⟩ (by simp; have := HS4.out; omega) (Ne.symm HNO.out)]
            exact ((box1 w4 _).cell (p := ⟨fb, 0, none⟩) HS4.out).trans HF4.out
          · have := HS4.out; simp at hgs; omega
          · rcases HV7.out with h | h
            · rw [h]; exact HNO.out
            · rw [h]; simp; have := HS4.out; omega
        case measure => simp [intOf]; omega
    · obtain rfl : n = P.length := by omega
      have hE : pairsL L P = pairsN L P P.length := by rw [HEND.out, HPL.out]
      have HE := Lib.hid hE; clear hE
      go_wp2_with fail
      go_ret
      exact ⟨_, rfl, by rw [HE.out]; exact HO.out, HBB.out⟩
end Go.Proofs.Ytommpppbdkapbaa
