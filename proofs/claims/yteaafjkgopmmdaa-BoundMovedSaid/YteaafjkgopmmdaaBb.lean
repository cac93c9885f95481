import Derived.Test.YteaafjkgopmmdaaBa
import Derived.Test.YteaafjkgopmmdaaGr
namespace Go.Proofs.Yteaafjkgopmmdaa
open Go Go.RowKit Go.Sort
set_option linter.unusedVariables false

/-! Rows of pairs; the document's Of, Same (stage 12). -/
def prV (p : Pr) : List Value := [.int .i64 p.client, .int .i64 p.server]
def prsV (L : List Pr) : List Value := flatG prV L
theorem prV_len (p : Pr) : (prV p).length = 2 := rfl
theorem prsV_length (L : List Pr) : (prsV L).length = L.length * 2 := flatG_length prV_len L
theorem prsV_append (L M : List Pr) : prsV (L ++ M) = prsV L ++ prsV M := flatG_append _ _
theorem prsV_one (L : List Pr) : ∀ u ∈ prsV L, u.oneCell' = true := flatG_all (fun x u hu => by
  simp only [prV, List.mem_cons, List.not_mem_nil, or_false] at hu
  rcases hu with rfl | rfl <;> rfl) L
theorem prsV_single (p : Pr) : prsV [p] = [.int .i64 p.client, .int .i64 p.server] := by simp [prsV, flatG, prV]
theorem Rd.pr {w : World} {B : Nat} {a : Option Addr} {L : List Pr} (h : Rd w B a (prsV L)) {i : Nat} (hi : i < L.length) :
    ∃ b off, a = some ⟨b, off, none⟩ ∧ b < B ∧ w.cell? ⟨b, off + i * 2, none⟩ = some (.int .i64 L[i].client) ∧ w.cell? ⟨b, off + i * 2 + 1, none⟩ = some (.int .i64 L[i].server) := by
  obtain ⟨b, off, ha, hb, hc⟩ := Rd.elemG prV_len (by omega) h hi
  exact ⟨b, off, ha, hb, hc 0 _ rfl, hc 1 _ rfl⟩
/-- The pair of a place, if there is one. -/
def pairAt (L : List Sp) (P : List Int) (i : Nat) : Option Pr :=
  match atP L (P.getD i (-1)), atP L (i : Int) with
  | some c, some s => if s.kind = 2 ∧ c.kind = 1 ∧ mayB s = true ∧ mayB c = true then some ⟨P.getD i (-1), (i : Int)⟩ else none
  | _, _ => none
def pairsN (L : List Sp) (P : List Int) (n : Nat) : List Pr := (List.range n).filterMap (pairAt L P)
def FitP (L : List Sp) (P : List Int) : Prop := P.length = L.length ∧ ∀ x ∈ P, -1 ≤ x ∧ x < L.length
instance decFit (L : List Sp) (P : List Int) : Decidable (FitP L P) := by unfold FitP; infer_instance
def pairsL (L : List Sp) (P : List Int) : List Pr := if FitP L P then pairsN L P L.length else []
theorem pairsN_yes {L : List Sp} {P : List Int} {n : Nat} {x : Pr} (h : pairAt L P n = some x) : pairsN L P (n + 1) = pairsN L P n ++ [x] := by
  unfold pairsN; rw [List.range_succ, List.filterMap_append]; simp [h]
theorem pairsN_no {L : List Sp} {P : List Int} {n : Nat} (h : pairAt L P n = none) : pairsN L P (n + 1) = pairsN L P n := by
  unfold pairsN; rw [List.range_succ, List.filterMap_append]; simp [h]
theorem pairsN_le (L : List Sp) (P : List Int) (n : Nat) : (pairsN L P n).length ≤ n := by
  have := List.length_filterMap_le (pairAt L P) (List.range n)
  rwa [List.length_range] at this
theorem pair_root {L : List Sp} {P : List Int} {n : Nat} (h : P.getD n (-1) < 0) : pairAt L P n = none := by
  unfold pairAt; rw [atP_neg h]
theorem pair_is {L : List Sp} {P : List Int} {n k : Nat} (hn : n < L.length) (hk : k < L.length) (h : P.getD n (-1) = (k : Int)) :
    pairAt L P n = if L[n].kind = 2 ∧ L[k].kind = 1 ∧ mayB L[n] = true ∧ mayB L[k] = true then some ⟨(k : Int), (n : Int)⟩ else none := by
  unfold pairAt; rw [h, atP_is hk, atP_is hn]
theorem pairs_le (L : List Sp) (P : List Int) : (pairsL L P).length ≤ L.length := by
  unfold pairsL; split
  · exact pairsN_le L P _
  · exact Nat.zero_le _
/-- What an Of pays. -/
def PairsPay (F : Nat) : Prop := ∀ (a : Option Addr) (c : Nat) (L : List Sp) (b : Option Addr) (d : Nat) (P : List Int) (w : World), Rd w w.heap.size a (flatL L) → Rd w w.heap.size b (intV P) → L.length ≤ 100000 → P.length ≤ 100000 → (∀ s ∈ L, s.Ok) →
  (∀ x ∈ P, -9223372036854775808 ≤ x ∧ x < 9223372036854775808) →
  Calls Try.prog F #[.slice a L.length c, .slice b P.length d] w fun e w' => ∃ v, e = .returned v ∧ w'.ownsRow w.heap.size 35 2 v (pairsL L P).length (prsV (pairsL L P)) ∧ Below w.heap.size w w'
theorem info_pair : (Try.prog.info? 35).map (fun i => (i.zero, i.size, i.bytes)) = some (some (.agg #[.int .i64 0, .int .i64 0]), 2, 16) := by kernel_rfl
theorem fit_no1 {L : List Sp} {P : List Int} (h : L.length ≠ P.length) : pairsL L P = [] := by
  unfold pairsL; rw [if_neg (fun hf => h hf.1.symm)]
theorem fit_no2 {L : List Sp} {P : List Int} {k : Nat} (hk : k < P.length) (h : P[k] < -1 ∨ (L.length : Int) ≤ P[k]) : pairsL L P = [] := by
  unfold pairsL
  rw [if_neg (fun hf => by have := hf.2 _ (List.getElem_mem hk); omega)]
theorem fit_yes {L : List Sp} {P : List Int} (h : FitP L P) : pairsL L P = pairsN L P L.length := by unfold pairsL; rw [if_pos h]
set_option maxHeartbeats 8000000 in
theorem refPairs_any : PairsPay 9 := by
  intro a c L b d P w ha hb hl hp hok hip
  obtain ⟨i0, hi0, hz0, hz1, hz2⟩ := info_parts info_pair
  have HZ2 := Lib.hid hz2; clear hz2
  have HA := Lib.hid ha; have HB := Lib.hid hb; have HOK := Lib.hid hok; clear ha hb hok hip
  have HO1 := Lib.hid (World.ownsRow_made w (e := 35) (size := 2) #[] 0 (Nat.le_refl _) (by decide) rfl)
  by_cases hlen : L.length = P.length
  case neg =>
    have HE := Lib.hid (fit_no1 hlen)
    have q1 : ((L.length : Int) != (P.length : Int)) = true := by simpa using (by omega : ¬ (L.length : Int) = (P.length : Int))
    have q2 : ((L.length : Int) == (P.length : Int)) = false := by simpa using (by omega : ¬ (L.length : Int) = (P.length : Int))
    clear hlen
    go_enter Try.func9, Try.ntmps9
    go_wp2_with fail
    go_ret
    exact ⟨_, rfl, by rw [HE.out]; exact HO1.out, box1 _ _⟩
  have HPL : Hid (P.length = L.length) := hlen.symm
  have q1 : ((L.length : Int) != (P.length : Int)) = false := by simp [hlen]
  have q2 : ((L.length : Int) == (P.length : Int)) = true := by simp [hlen]
  clear hlen
  have HNO := Lib.hid (fun k hk h => fit_no2 (L := L) (P := P) (k := k) hk h)
  go_enter Try.func9, Try.ntmps9
  go_wp2_with fail
  go_loopw [6] (fun i wr => ∃ k : Nat, k ≤ L.length ∧ i = .int .i64 (k : Int) ∧ (∀ j (h : j < P.length), j < k → -1 ≤ P[j] ∧ P[j] < L.length) ∧ wr.ownsRow w.heap.size 35 2 (.slice (some ⟨w.heap.size, 0, none⟩) 0 0) 0 [] ∧ Below w.heap.size w wr) (fun i _ => L.length - (intOf i).toNat)
  case atStart => exact ⟨0, Nat.zero_le _, rfl, fun j _ h => absurd h (Nat.not_lt_zero _), HO1.out, box1 _ _⟩
  clear HO1
  case round =>
    obtain ⟨k, hk, rfl, hv, hown, hb⟩ := hrel
    have HV := Lib.hid hv; have HO1 := Lib.hid hown; have HBB := Lib.hid hb; clear hv hown hb
    generalize wr = W1 at *
    have HAW := Lib.hid (HA.out.below HBB.out)
    have HBW := Lib.hid (HB.out.below HBB.out)
    have hws := (own_shape HO1.out rfl).2.1
    by_cases hlt : k < L.length
    · have hkP : k < P.length := by rw [HPL.out]; exact hlt
      obtain ⟨b1, o1, ha1, _, c0⟩ := HBW.out.num hkP
      subst ha1
      have i1 : (0 : Int) ≤ (k : Int) := by omega
      have i2 : (k : Int) < (L.length : Int) := by omega
      have i3 : (k : Int) < (P.length : Int) := by omega
      have HN := Lib.hid (fun h => HNO.out k hkP h)
      have HX : Hid (-1 ≤ P[k] ∧ P[k] < L.length → ∀ j (h : j < P.length), j < k + 1 → -1 ≤ P[j] ∧ P[j] < L.length) := fun hx j h hj => by
        by_cases e : j = k
        · subst e; exact hx
        · exact HV.out j h (by omega)
      generalize P[k] = x at *
      by_cases h1 : x < -1
      · have HE := Lib.hid (HN.out (.inl h1))
        have d1 : decide (x < -1) = true := decide_eq_true h1
        go_wp2_with fail
        go_ret
        refine ⟨_, rfl, ?_, HBB.out.alloc HBB.out.size _⟩
        rw [HE.out]
        exact own_base (World.ownsRow_made W1 #[] 0 (Nat.le_refl _) (by decide) rfl) (Nat.le_of_lt hws)
      · have d1 : decide (x < -1) = false := decide_eq_false h1
        by_cases h2 : (L.length : Int) ≤ x
        · have HE := Lib.hid (HN.out (.inr h2))
          go_wp2_with fail
          go_ret
          refine ⟨_, rfl, ?_, HBB.out.alloc HBB.out.size _⟩
          rw [HE.out]
          exact own_base (World.ownsRow_made W1 #[] 0 (Nat.le_refl _) (by decide) rfl) (Nat.le_of_lt hws)
        · have HE := Lib.hid (HX.out ⟨by omega, by omega⟩)
          go_wp2_with fail
          go_roundw
          case rel => exact ⟨k + 1, by omega, by go_num, HE.out, HO1.out, HBB.out⟩
          case measure => simp [intOf]; omega
    · have HFIT : Hid (FitP L P) := ⟨HPL.out, fun x hx => by
        obtain ⟨j, hj, rfl⟩ := List.mem_iff_getElem.1 hx
        exact HV.out j hj (by have := HPL.out; omega)⟩
      have HEND := Lib.hid (fit_yes HFIT.out)
      obtain rfl : k = L.length := by omega
      go_wp2_with fail
      clear HNO HV hk hlt
      go_loopw [5, 7] (fun v i wr => ∃ (n : Nat) (v' : Value), n ≤ L.length ∧ i = .int .i64 n ∧ v' = v ∧ wr.ownsRow w.heap.size 35 2 v' (pairsN L P n).length (prsV (pairsN L P n)) ∧ Below w.heap.size w wr) (fun _ i _ => L.length - (intOf i).toNat)
      case atStart => exact ⟨0, _, Nat.zero_le _, rfl, rfl, HO1.out, HBB.out⟩
      clear HO1 HBB HAW HBW hws
      case round =>
        obtain ⟨n, v, hn, rfl, hv, hown, hb⟩ := hrel
        subst hv
        obtain ⟨va, vc, rfl, _, _, _⟩ := own_slice hown
        have HO := Lib.hid hown; have HBB := Lib.hid hb; clear hown hb
        have hpl := pairsN_le L P n
        generalize wr = W2 at *
        by_cases hlt : n < L.length
        · have hnP : n < P.length := by rw [HPL.out]; exact hlt
          obtain ⟨b1, o1, ha1, _, c0⟩ := (HB.out.below HBB.out).num hnP
          subst ha1
          have i3 : (n : Int) < (L.length : Int) := by omega
          have i4 : (0 : Int) ≤ (n : Int) := by omega
          have i5 : (n : Int) < (P.length : Int) := by omega
          have hfit := HFIT.out.2 _ (List.getElem_mem hnP)
          have HGD : Hid (P.getD n (-1) = P[n]) := by show _ = _; simp [List.getD, hnP]
          have HROOT := Lib.hid (fun h => pair_root (L := L) (P := P) (n := n) h)
          have HIS := Lib.hid (fun k hk h => pair_is (L := L) (P := P) (n := n) (k := k) hlt hk h)
          rw [HGD.out] at HROOT HIS
          have HYES := Lib.hid (fun x h => pairsN_yes (L := L) (P := P) (n := n) (x := x) h)
          have HNONE := Lib.hid (fun h => pairsN_no (L := L) (P := P) (n := n) h)
          generalize P[n] = p at *
          clear HGD
          by_cases hp0 : p < 0
          · have HK := Lib.hid (HNONE.out (HROOT.out hp0))
            have d1 : decide (0 ≤ p) = false := decide_eq_false (by omega)
            go_wp2_with fail
            go_roundw
            case rel => exact ⟨n + 1, _, by omega, by go_num, rfl, by rw [HK.out]; exact HO.out, HBB.out⟩
            case measure => simp [intOf]; omega
          · obtain ⟨k, rfl⟩ : ∃ k : Nat, p = (k : Int) := ⟨p.toNat, by omega⟩
            have hk : k < L.length := by omega
            have HPI := Lib.hid (HIS.out k hk rfl)
            obtain ⟨b2, o2, ha2, hb2, e0, e1, e2, e3, e4, e5, e6, e7⟩ := (HA.out.below HBB.out).elem hlt
            obtain ⟨b3, o3, ha3, hb3, f0, f1, f2, f3, f4, f5, f6, f7⟩ := (HA.out.below HBB.out).elem hk
            subst ha2
            obtain ⟨rfl, rfl⟩ := And.intro (Addr.mk.inj (Option.some.inj ha3)).1 (Addr.mk.inj (Option.some.inj ha3)).2.1
            have HEL := Lib.hid (fun W' (h : Below W2.heap.size W2 W') => (HA.out.below (bel2 HBB.out h)).elem hk)
            have OKs := Lib.hid (HOK.out L[n] (List.getElem_mem _))
            have OKc := Lib.hid (HOK.out L[k] (List.getElem_mem _))
            generalize L[n] = s at *
            generalize L[k] = t at *
            clear ha3 hb3 HROOT HIS
            have j1 : (k : Int) < (L.length : Int) := by omega
            have j2 : (0 : Int) ≤ (k : Int) := by omega
            have d1 : decide (0 ≤ (k : Int)) = true := decide_eq_true j2
            by_cases h1 : s.kind = 2
            case neg =>
              have HK := Lib.hid (HNONE.out (HPI.out.trans (if_neg fun h => h1 h.1)))
              have d2 : (s.kind == 2) = false := by simpa using h1
              clear h1
              go_wp2_with fail
              go_roundw
              case rel => exact ⟨n + 1, _, by omega, by go_num, rfl, by rw [HK.out]; exact HO.out, HBB.out⟩
              case measure => simp [intOf]; omega
            have d2 : (s.kind == 2) = true := by simpa using h1
            by_cases h2 : t.kind = 1
            case neg =>
              have HK := Lib.hid (HNONE.out (HPI.out.trans (if_neg fun h => h2 h.2.1)))
              have d3 : (t.kind == 1) = false := by simpa using h2
              clear h2 h1
              go_wp2_with fail
              go_roundw
              case rel => exact ⟨n + 1, _, by omega, by go_num, rfl, by rw [HK.out]; exact HO.out, HBB.out⟩
              case measure => simp [intOf]; omega
            have d3 : (t.kind == 1) = true := by simpa using h2
            have HH1 := Lib.hid h1; have HH2 := Lib.hid h2; clear h1 h2
            cases hs : mayB s with
            | false =>
              have HK := Lib.hid (HNONE.out (HPI.out.trans (if_neg fun h => by rw [hs] at h; cases h.2.2.1)))
              have HMS := Lib.hid hs; clear hs
              go_wp2_with (go_at_call 19
                           refine (refMay_is HMS.out _ OKs.out.host OKs.out.name OKs.out.kind.1).mono ?_; rintro e w4 ⟨rfl, hb4⟩
                           have HB4 := Lib.hid (bel2 HBB.out hb4); have HO4 := Lib.hid (own_below HO.out hb4); clear hb4)
              go_roundw
              case rel => exact ⟨n + 1, _, by omega, by go_num, rfl, by rw [HK.out]; exact HO4.out, HB4.out⟩
              case measure => simp [intOf]; omega
            | true =>
              have HMS := Lib.hid hs
              cases ht : mayB t with
              | false =>
                have HK := Lib.hid (HNONE.out (HPI.out.trans (if_neg fun h => by rw [ht] at h; cases h.2.2.2)))
                have HMT := Lib.hid ht; clear hs ht
                go_wp2_with (first
                | (go_at_call 19
                   with_reducible (show Calls Try.prog 19 #[.agg #[.int .u64 s.trace, .int .u64 s.id, .int .u64 s.parent, .int .u8 s.kind, .string s.host, .string s.name, .int .i64 s.start, .int .i64 s.dur]] W2 _)
                   refine (refMay_is HMS.out W2 OKs.out.host OKs.out.name OKs.out.kind.1).mono ?_; rintro e w4 ⟨rfl, hb4⟩
                   have HB4 := Lib.hid (bel2 HBB.out hb4); have HO4 := Lib.hid (own_below HO.out hb4)
                   obtain ⟨b6, o6, ha6, _, g0, g1, g2, g3, g4, g5, g6, g7⟩ := HEL.out w4 hb4
                   obtain ⟨rfl, rfl⟩ := And.intro (Addr.mk.inj (Option.some.inj ha6)).1 (Addr.mk.inj (Option.some.inj ha6)).2.1
                   clear hb4 ha6)
                | (go_at_call 19
                   refine (refMay_is HMT.out w4 OKc.out.host OKc.out.name OKc.out.kind.1).mono ?_; rintro e w5 ⟨rfl, hb5⟩
                   have HB5 := Lib.hid (bel2 HB4.out hb5); have HO5 := Lib.hid (own_below HO4.out hb5); clear hb5))
                go_roundw
                case rel => exact ⟨n + 1, _, by omega, by go_num, rfl, by rw [HK.out]; exact HO5.out, HB5.out⟩
                case measure => simp [intOf]; omega
              | true =>
                have HK := Lib.hid (HYES.out _ (HPI.out.trans (if_pos ⟨HH1.out, HH2.out, hs, ht⟩)))
                have HMT := Lib.hid ht; clear hs ht
                go_wp2_with (first
                | (go_at_call 19
                   with_reducible (show Calls Try.prog 19 #[.agg #[.int .u64 s.trace, .int .u64 s.id, .int .u64 s.parent, .int .u8 s.kind, .string s.host, .string s.name, .int .i64 s.start, .int .i64 s.dur]] W2 _)
                   refine (refMay_is HMS.out W2 OKs.out.host OKs.out.name OKs.out.kind.1).mono ?_; rintro e w4 ⟨rfl, hb4⟩
                   have HB4 := Lib.hid (bel2 HBB.out hb4); have HO4 := Lib.hid (own_below HO.out hb4)
                   obtain ⟨b6, o6, ha6, _, g0, g1, g2, g3, g4, g5, g6, g7⟩ := HEL.out w4 hb4
                   obtain ⟨rfl, rfl⟩ := And.intro (Addr.mk.inj (Option.some.inj ha6)).1 (Addr.mk.inj (Option.some.inj ha6)).2.1
                   clear hb4 ha6)
                | (go_at_call 19
                   refine (refMay_is HMT.out w4 OKc.out.host OKc.out.name OKc.out.kind.1).mono ?_; rintro e w5 ⟨rfl, hb5⟩
                   have HB5 := Lib.hid (bel2 HB4.out hb5); have HO5 := Lib.hid (own_below HO4.out hb5); clear hb5)
                | (at_builtin
                   refine wpList_append_rd _ rfl (.tmp 79) (.tmp 83) 23 rfl w.heap.size 35 i0 _ 2 16 Try.underlying23 hi0 hz0 hz1 HZ2.out rfl (by omega) (.slice va (pairsN L P n).length vc) (pairsN L P n).length _ rfl (own_below HO5.out (box1 _ _)) _ _ 1 1 [.int .i64 (k : Int), .int .i64 (n : Int)] rfl rfl (lit_rd w5 #[.int .i64 (k : Int), .int .i64 (n : Int)] _) (by intro u hu; simp only [List.mem_cons, List.not_mem_nil, or_false] at hu; rcases hu with rfl | rfl <;> rfl) (by unfold maxLen; omega) (by omega) (by have := HB5.out.size; simp; omega) ?_
                   intro v7 w7 hown7 hg7 _
                   have HO7 := Lib.hid hown7; have HG7 := Lib.hid hg7; clear hown7 hg7))
                go_roundw
                case rel => exact ⟨n + 1, _, by omega, by go_num, rfl, by rw [HK.out, List.length_append, prsV_append, prsV_single]; exact HO7.out, (HB5.out.alloc HB5.out.size _).grown HG7.out (by have := HB5.out.size; simp; omega) (fun g hg => (own_shape HO5.out hg).1)⟩
                case measure => simp [intOf]; omega
        · obtain rfl : n = L.length := by omega
          go_wp2_with fail
          go_ret
          exact ⟨_, rfl, by rw [HEND.out]; exact HO.out, HBB.out⟩
end Go.Proofs.Yteaafjkgopmmdaa

