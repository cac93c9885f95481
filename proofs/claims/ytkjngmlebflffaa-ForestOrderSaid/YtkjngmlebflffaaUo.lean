import Derived.Test.YtkjngmlebflffaaUn
namespace Go.Proofs.Ytkjngmlebflffaa
open Go Go.RowKit Go.Sort Go.Maps
set_option linter.unusedVariables false

/-! What the landed code pays: Of and Right. -/
/-- Where the places that are told are being cut. -/
structure CutI (w w1 wr : World) (g n : Nat) (P K : List Int) (vK : Value) (k : Nat) (Q : List Int) : Prop where
  own : wr.ownsRow w.heap.size 3 1 (.slice (some ⟨g, 0, none⟩) n n) n (intV Q)
  ok : wr.ownsRow w1.heap.size 3 1 vK K.length (intV K)
  glt : g < w1.heap.size
  at_ : ∀ j, j < n → Q.getD j (-1) = if (j : Int) ∈ K.take k then -1 else P.getD j (-1)
  bw : Below w.heap.size w wr
theorem CutI.len {w w1 wr : World} {g n k : Nat} {P K Q : List Int} {vK : Value} (h : CutI w w1 wr g n P K vK k Q) : Q.length = n := own_len10 h.own
theorem CutI.next {w w1 wr : World} {g n k i : Nat} {P K Q : List Int} {vK : Value} (h : CutI w w1 wr g n P K vK k Q) (hk : k < K.length) (hi : i < n) (he : K[k] = (i : Int)) :
    CutI w w1 (wr.setCell ⟨g, i, none⟩ (.int .i64 (-1))) g n P K vK (k + 1) (Q.set i (-1)) := by
  obtain ⟨h1, h2⟩ := h.own.stored i (.int .i64 (-1))
  rw [intV_set] at h1
  refine ⟨h1, h.ok.kept h2 ?_, h.glt, fun j hj => ?_, h.bw.setCell (p := ⟨g, i, none⟩) (own_shape h.own rfl).1 _⟩
  · cases hb : vK.ownBlock with
    | none => exact .inl rfl
    | some b =>
      refine .inr fun e => ?_
      have := (own_shape h.ok hb).1
      have hg := h.glt
      injection e with e; omega
  · have hl := h.len
    rw [List.take_succ_eq_append_getElem hk, he]
    by_cases e : i = j
    · subst e
      rw [getD_set_self' (by omega), if_pos (List.mem_append_right _ (List.mem_singleton.2 rfl))]
    · rw [getD_set_ne' e, h.at_ j hj]
      have : ((j : Int) ∈ K.take k ++ [(i : Int)]) ↔ (j : Int) ∈ K.take k := by
        rw [List.mem_append, List.mem_singleton]
        exact ⟨fun hx => hx.elim id (fun hx => absurd hx (by omega)), .inl⟩
      by_cases hm : (j : Int) ∈ K.take k
      · rw [if_pos hm, if_pos (this.2 hm)]
      · rw [if_neg hm, if_neg (fun hx => hm (this.1 hx))]
set_option maxHeartbeats 4000000 in
theorem of_pays : OfPays := by
  intro a c L w ha hl hok
  have HA := Lib.hid ha; have HOK := Lib.hid hok; clear ha hok
  have HV := Lib.hid (parL_valid L); have HPL := Lib.hid (parL_length L)
  go_enter Try.func16, Try.ntmps16
  go_wp2_with (first
    | (go_at_call 23
       refine (asked_any a c L w HA.out hl HOK.out).mono ?_
       rintro e w1 ⟨g, rfl, hown, hb⟩
       have HO1 := Lib.hid hown; have HB1 := Lib.hid hb; clear hown hb
       have hls := leasts_any (some ⟨g, 0, none⟩) L.length (parL L) w1 HV.out (Rd.own HO1.out) (by rw [HPL.out]; exact hl)
       rw [HPL.out] at hls
       have HLS := Lib.hid hls; clear hls)
    | (go_at_call 24
       refine HLS.out.mono ?_
       rintro e w2 ⟨vK, K, rfl, hK, hKl, hKs, hb⟩
       obtain ⟨va, vc, rfl, _, _, _⟩ := own_slice hK
       have HK := Lib.hid hK; have HKL := Lib.hid hKl; have HKS := Lib.hid hKs; have HB2 := Lib.hid hb; clear hK hKl hKs hb))
  have HI : Hid (CutI w w1 w2 g L.length (parL L) K (.slice va K.length vc) 0 (parL L)) :=
    ⟨own_below HO1.out HB2.out, HK.out, (own_shape HO1.out rfl).2.1, fun j _ => by rw [List.take_zero, if_neg (by simp)], bel2 HB1.out HB2.out⟩
  obtain ⟨P, hP⟩ : ∃ P, P = parL L := ⟨_, rfl⟩
  have HPE := Lib.hid hP
  rw [← hP] at HI HKS HPL
  clear hP HLS HO1 HK
  go_loopw [11] (fun i wr => ∃ (k : Nat) (Q : List Int), k ≤ K.length ∧ i = .int .i64 k ∧ CutI w w1 wr g L.length P K (.slice va K.length vc) k Q) (fun i _ => K.length - (intOf i).toNat)
  case atStart => exact ⟨0, P, Nat.zero_le _, rfl, HI.out⟩
  case round =>
    obtain ⟨k, Q, hk, rfl, hI⟩ := hrel
    have HIK := Lib.hid hI; clear hI
    have hkl := HKL.out
    generalize wr = W1 at *
    by_cases hlt : k < K.length
    · obtain ⟨i, hi, he, _⟩ := HKS.out.2 _ (List.getElem_mem hlt)
      rw [HPL.out] at hi
      have HN := Lib.hid (HIK.out.next hlt hi he)
      obtain ⟨b1, o1, ha1, _, c0⟩ := (Rd.own HIK.out.ok).num hlt
      rw [he] at c0
      subst ha1
      have hqn : i < Q.length := by rw [HIK.out.len]; exact hi
      have hcl := HIK.out.own.cellAt i (by omega)
      rw [intV_get hqn] at hcl
      generalize Q[i] = q at *
      have hfr := HIK.out.own.frozenAt i
      have i1 : (k : Int) < (K.length : Int) := by omega
      have i2 : (0 : Int) ≤ (k : Int) := by omega
      have i3 : (i : Int) < (L.length : Int) := by omega
      have i4 : (0 : Int) ≤ (i : Int) := by omega
      clear he
      go_wp2_with fail
      go_roundw
      case rel => exact ⟨k + 1, _, by omega, by go_num, HN.out⟩
      case measure => simp [intOf]; omega
    · obtain rfl : k = K.length := by omega
      have HQ : Hid (Q = cutP P) := HKS.out.cut (by rw [HIK.out.len, HPL.out]) fun j hj => by
        have := HIK.out.at_ j (by rw [← HPL.out]; exact hj)
        rwa [List.take_length] at this
      have HO := Lib.hid HIK.out.own; have HB := Lib.hid HIK.out.bw
      rw [HQ.out, HPE.out] at HO
      go_wp2_with fail
      go_ret
      exact ⟨_, rfl, HO.out, HB.out⟩
theorem valid_no {P : List Int} {k : Nat} (h : k < P.length) (hx : P[k] < -1 ∨ (P.length : Int) ≤ P[k]) : ¬ ValidP P := fun hv => by
  have := hv _ (List.getElem_mem h); omega
instance decValid (P : List Int) : Decidable (ValidP P) := by unfold ValidP; infer_instance
set_option maxHeartbeats 2000000 in
theorem inRange_any (a : Option Addr) (c : Nat) (P : List Int) (w : World) (ha : Rd w w.heap.size a (intV P)) (hl : P.length ≤ 100000) :
    Calls Try.prog 25 #[.slice a P.length c] w fun e w' => e = .returned (.bool (decide (ValidP P))) ∧ Below w.heap.size w w' := by
  have HA := Lib.hid ha; clear ha
  go_enter Try.func25, Try.ntmps25
  go_wp2
  go_loopw [7] (fun i wr => ∃ k : Nat, k ≤ P.length ∧ i = .int .i64 (k : Int) ∧ (∀ j (h : j < P.length), j < k → -1 ≤ P[j] ∧ P[j] < P.length) ∧ wr = w) (fun i _ => P.length - (intOf i).toNat)
  case atStart => exact ⟨0, Nat.zero_le _, rfl, fun j _ h => absurd h (Nat.not_lt_zero _), rfl⟩
  case round =>
    obtain ⟨k, hk, rfl, hv, hw⟩ := hrel
    subst hw
    have HV := Lib.hid hv; clear hv
    by_cases hlt : k < P.length
    · obtain ⟨b1, o1, ha1, _, c0⟩ := HA.out.num hlt
      subst ha1
      have i1 : (0 : Int) ≤ (k : Int) := by omega
      have i2 : (k : Int) < (P.length : Int) := by omega
      have HN := Lib.hid (fun hx => valid_no hlt hx)
      have HX : Hid (-1 ≤ P[k] ∧ P[k] < P.length → ∀ j (h : j < P.length), j < k + 1 → -1 ≤ P[j] ∧ P[j] < P.length) := fun hx j h hj => by
        by_cases e : j = k
        · subst e; exact hx
        · exact HV.out j h (by omega)
      generalize P[k] = x at *
      by_cases h1 : x < -1
      · have HE : Hid (decide (ValidP P) = false) := decide_eq_false (HN.out (.inl h1))
        have q1 : decide (x < -1) = true := decide_eq_true h1
        go_wp2
        go_ret
        exact ⟨ret_bool HE.out.symm, Below.refl _ _⟩
      · have q1 : decide (x < -1) = false := decide_eq_false h1
        by_cases h2 : (P.length : Int) ≤ x
        · have HE : Hid (decide (ValidP P) = false) := decide_eq_false (HN.out (.inr h2))
          go_wp2
          go_ret
          exact ⟨ret_bool HE.out.symm, Below.refl _ _⟩
        · have HE := Lib.hid (HX.out ⟨by omega, by omega⟩)
          go_wp2
          go_roundw
          case rel => exact ⟨k + 1, by omega, by go_num, HE.out, trivial⟩
          case measure => simp [intOf]; omega
    · have HE : Hid (decide (ValidP P) = true) := decide_eq_true fun x hx => by
        obtain ⟨j, hj, rfl⟩ := List.mem_iff_getElem.1 hx
        exact HV.out j hj (by omega)
      go_wp2
      go_ret
      exact ⟨ret_bool HE.out.symm, Below.refl _ _⟩
set_option maxHeartbeats 2000000 in
theorem right_pays : RightPays := by
  intro a c P w ha hl _
  have HA := Lib.hid ha; clear ha
  have hin := inRange_any a c P w HA.out hl
  by_cases hP : ValidP P
  · rw [decide_eq_true hP] at hin
    have HIN := Lib.hid hin; have HP := Lib.hid hP; clear hin hP
    go_enter Try.func17, Try.ntmps17
    go_wp2_with (first
      | (go_at_call 25
         refine HIN.out.mono ?_; rintro e w1 ⟨rfl, hb1⟩
         have HB1 := Lib.hid hb1; clear hb1)
      | (go_at_call 24
         refine (leasts_any a c P w1 HP.out ((HA.out.below HB1.out).more HB1.out.size) hl).mono ?_
         rintro e w2 ⟨vK, K, rfl, hK, hKl, hKs, hb⟩
         obtain ⟨va, vc, rfl, _, _, _⟩ := own_slice hK
         have HR := Lib.hid (hKs.right HP.out); have HB2 := Lib.hid (bel2 HB1.out hb); clear hK hKl hKs hb))
    go_ret
    refine ⟨ret_bool ?_, HB2.out⟩
    rw [HR.out]
    cases K with
    | nil => simp
    | cons x r => simp; omega
  · rw [decide_eq_false hP] at hin
    have HE : Hid (rightL P = false) := by
      cases hr : rightL P with
      | false => exact rfl
      | true => exact absurd (right_valid hr) hP
    have HIN := Lib.hid hin; clear hin hP
    go_enter Try.func17, Try.ntmps17
    go_wp2_with (go_at_call 25
                 refine HIN.out.mono ?_; rintro e w1 ⟨rfl, hb1⟩
                 have HB1 := Lib.hid hb1; clear hb1)
    go_ret
    exact ⟨ret_bool HE.out.symm, HB1.out⟩
end Go.Proofs.Ytkjngmlebflffaa

