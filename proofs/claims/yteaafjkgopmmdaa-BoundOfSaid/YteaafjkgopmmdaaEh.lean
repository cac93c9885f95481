import Derived.Test.YteaafjkgopmmdaaEg
namespace Go.Proofs.Yteaafjkgopmmdaa
open Go Go.RowKit Go.Sort Go.Maps
set_option maxRecDepth 20000
set_option linter.unusedVariables false

/-! The landed code of stage 13: Of. -/
theorem own_len13 {w : World} {B : Nat} {e : TypeId} {v : Value} {n : Nat} {Q : List Int} (h : w.ownsRow B e 1 v n (intV Q)) : Q.length = n := by
  have := h.1; simpa [intV] using this
theorem intV_get13 {l : List Int} {i : Nat} (h : i < l.length) : (intV l)[i]? = some (.int .i64 l[i]) := by simp [intV, h]
theorem intV_set13 (l : List Int) (i : Nat) (x : Int) : (intV l).set i (.int .i64 x) = intV (l.set i x) := by simp [intV, List.map_set]
theorem numL_get {L : List Sp} {n : Nat} (h : n < L.length) : (numL L)[n]? = some (placeL (hostsL L) (hostT L[n])) := by
  have h' : n < (numL L).length := by rw [numL_length]; exact h
  rw [List.getElem?_eq_getElem h']; simp [numL]
/-- The row as far as it is filled. -/
structure HoI (w wr : World) (g kb : Nat) (L : List Sp) (n : Nat) (Q : List Int) : Prop where
  own : wr.ownsRow w.heap.size 3 1 (.slice (some ⟨g, 0, none⟩) L.length L.length) L.length (intV Q)
  mp : MapG Try.prog 9 keyS wr kb (hostsL L).length (numF (hostsL L) (hostsL L).length)
  at_ : ∀ j, j < n → Q[j]? = (numL L)[j]?
  bw : Below w.heap.size w wr
theorem HoI.len {w wr : World} {g kb : Nat} {L : List Sp} {n : Nat} {Q : List Int} (h : HoI w wr g kb L n Q) : Q.length = L.length := own_len13 h.own
theorem HoI.ne {w wr : World} {g kb : Nat} {L : List Sp} {n : Nat} {Q : List Int} (h : HoI w wr g kb L n Q) : (some kb : Option Nat) ≠ some g := by
  intro e; injection e with e; subst e
  rcases h.own.2 with ⟨hv, _⟩ | ⟨g', cap, cur, hv, _, hg, _⟩
  · cases hv
  · obtain rfl : kb = g' := by injection hv; simp_all
    obtain ⟨D, ⟨es, clock, hmb, _⟩, _⟩ := h.mp
    rw [hg] at hmb; cases hmb
theorem HoI.alloc {w wr : World} {g kb : Nat} {L : List Sp} {n : Nat} {Q : List Int} (h : HoI w wr g kb L n Q) (o : Obj) : HoI w (wr.alloc o) g kb L n Q :=
  ⟨own_below h.own (box1 _ _), h.mp.alloc o, h.at_, h.bw.alloc h.bw.size _⟩
theorem HoI.set {w wr : World} {g kb : Nat} {L : List Sp} {n : Nat} {Q : List Int} {x : Int} (h : HoI w wr g kb L n Q) (hx : (numL L)[n]? = some x) (hn : n < L.length) : HoI w (wr.setCell ⟨g, n, none⟩ (.int .i64 x)) g kb L (n + 1) (Q.set n x) := by
  obtain ⟨h1, h2⟩ := h.own.stored n (.int .i64 x)
  rw [intV_set13] at h1
  refine ⟨h1, h.mp.grown h2 h.ne, fun j hj => ?_, h.bw.setCell (p := ⟨g, n, none⟩) (own_shape h.own rfl).1 _⟩
  by_cases e : j = n
  · subst e
    rw [List.getElem?_set_self (by rw [h.len]; omega), hx]
  · rw [List.getElem?_set_ne (by omega)]; exact h.at_ j (by omega)
theorem HoI.all {w wr : World} {g kb : Nat} {L : List Sp} {Q : List Int} (h : HoI w wr g kb L L.length Q) : Q = numL L := by
  apply List.ext_getElem?
  intro j
  by_cases hj : j < L.length
  · exact h.at_ j hj
  · rw [List.getElem?_eq_none (by rw [h.len]; omega), List.getElem?_eq_none (by rw [numL_length]; omega)]
set_option maxHeartbeats 4000000 in
theorem nums_pays13 : NumsPay 21 := by
  intro a c L w ha hl hok
  obtain ⟨i0, hi0, hz0, hz1, hz2⟩ := info_parts info_int13
  have HZ2 := Lib.hid hz2; clear hz2
  have HA := Lib.hid ha; have HOK := Lib.hid hok; clear ha hok
  go_enter Try.func21, Try.ntmps21
  go_wp2_with (first
    | (go_at_call 33
       refine (numbers_any a c L w HA.out hl HOK.out).mono ?_
       rintro e w1 ⟨rfl, hm, hb⟩
       have HM1 := Lib.hid hm; have HB1 := Lib.hid hb; clear hm hb)
    | (at_make
       refine wpList_make_full _ rfl (.tmp 10) (.tmp 10) 27 rfl w.heap.size 3 i0 _ 1 Try.underlying27 hi0 hz0 hz1 .i64 .i64 _ _ L.length rfl rfl rfl rfl (by rw [HZ2.out]; omega) (by unfold maxLen; omega) HB1.out.size ?_
       intro w2 hown2 hg2
       have HB2 := Lib.hid (HB1.out.grown hg2 HB1.out.size (by simp))
       have HO2 := Lib.hid hown2
       have HM2 := Lib.hid (HM1.out.grown hg2 (by simp))
       clear hown2 hg2))
  have HI1 : Hid (HoI w w2 w1.heap.size w.heap.size L 0 (List.replicate L.length 0)) := by
    have e : intV (List.replicate L.length 0) = (madeCells (Value.int .i64 0).cells (L.length * 1)).toList := by
      simp [intV, toList_madeCells_one, Value.cells]
    exact ⟨by rw [e]; exact HO2.out, HM2.out, fun j h => absurd h (Nat.not_lt_zero _), HB2.out⟩
  clear HO2 HM2 HB2
  go_loopw [14] (fun i wr => ∃ (n : Nat) (Q : List Int), n ≤ L.length ∧ i = .int .i64 n ∧ HoI w wr w1.heap.size w.heap.size L n Q) (fun i _ => L.length - (intOf i).toNat)
  case atStart => exact ⟨0, _, Nat.zero_le _, rfl, HI1.out⟩
  case round =>
    obtain ⟨n, Q, hn, rfl, hI⟩ := hrel
    have HI := Lib.hid hI; clear hI
    generalize wr = W1 at *
    generalize w1.heap.size = g at *
    by_cases hlt : n < L.length
    · obtain ⟨b2, o2, hb1, hB2', f0, f1, f2, f3, f4, f5, f6, f7⟩ := (HA.out.below HI.out.bw).elem hlt
      subst hb1
      have OKs := Lib.hid (HOK.out L[n] (List.getElem_mem _))
      have HIN := Lib.hid (host_in hlt)
      have HNG := Lib.hid (numL_get hlt)
      simp only [hostT] at HIN HNG
      generalize L[n] = s at *
      have i3 : (n : Int) < (L.length : Int) := by omega
      have i4 : (0 : Int) ≤ (n : Int) := by omega
      have HI2 := Lib.hid (HI.out.alloc (.cells s.c 42))
      have HI3 := Lib.hid (HI2.out.set HNG.out hlt)
      have hlook := HI2.out.mp.look lawS13 Try.underlying61 (zero_int13 _) (keyOf_S13 OKs.out.host)
      rw [numF_all, if_pos HIN.out, Option.getD_some] at hlook
      have hfr := HI2.out.own.frozenAt n
      have hqn : n < Q.length := by rw [HI.out.len]; exact hlt
      have hcl := HI2.out.own.cellAt n (by omega)
      rw [intV_get13 hqn] at hcl
      simp only [Sp.c] at hlook hfr hcl
      generalize Q[n] = q at *
      clear hqn HNG HIN
      go_wp2_with fail
      go_roundw
      case rel => exact ⟨n + 1, _, by omega, by go_num, HI3.out⟩
      case measure => simp [intOf]; omega
    · obtain rfl : n = L.length := by omega
      have hof := HI.out.own
      rw [HI.out.all] at hof
      have HF := Lib.hid hof; clear hof
      go_wp2_with fail
      go_ret
      exact ⟨_, rfl, HF.out, HI.out.bw⟩
end Go.Proofs.Yteaafjkgopmmdaa

