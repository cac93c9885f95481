import Derived.Test.YtkjngmlebflffaaUm
namespace Go.Proofs.Ytkjngmlebflffaa
open Go Go.RowKit Go.Sort Go.Maps
set_option linter.unusedVariables false

/-! The landed code: the places of the parents that are asked for. -/
theorem parL_look {L : List Sp} {n : Nat} (h : n < L.length) : (parL L)[n]? = some (if (L[n]).parent = 0 then -1 else firstAt (idsL L) (L[n]).parent 0) := by
  have h' : n < (parL L).length := by rw [parL_length]; exact h
  rw [List.getElem?_eq_getElem h', parL_get h h']
/-- The row as far as it is filled. -/
structure AskI (w wr : World) (g kb : Nat) (L : List Sp) (n : Nat) (Q : List Int) : Prop where
  own : wr.ownsRow w.heap.size 3 1 (.slice (some ⟨g, 0, none⟩) L.length L.length) L.length (intV Q)
  mp : MapG Try.prog 51 keyU wr w.heap.size kb (firF (idsL L))
  at_ : ∀ j, j < n → Q[j]? = (parL L)[j]?
  bw : Below w.heap.size w wr
theorem AskI.len {w wr : World} {g kb : Nat} {L : List Sp} {n : Nat} {Q : List Int} (h : AskI w wr g kb L n Q) : Q.length = L.length := own_len10 h.own
theorem AskI.ne {w wr : World} {g kb : Nat} {L : List Sp} {n : Nat} {Q : List Int} (h : AskI w wr g kb L n Q) : (some w.heap.size : Option Nat) ≠ some g := by
  intro e; injection e with e; subst e
  rcases h.own.2 with ⟨hv, _⟩ | ⟨g', cap, cur, hv, _, hg, _⟩
  · cases hv
  · obtain rfl : w.heap.size = g' := by injection hv; simp_all
    obtain ⟨D, ⟨es, clock, hmb, _⟩, _⟩ := h.mp
    rw [hg] at hmb; cases hmb
theorem AskI.alloc {w wr : World} {g kb : Nat} {L : List Sp} {n : Nat} {Q : List Int} (h : AskI w wr g kb L n Q) (o : Obj) : AskI w (wr.alloc o) g kb L n Q :=
  ⟨own_below h.own (box1 _ _), h.mp.alloc o, h.at_, h.bw.alloc h.bw.size _⟩
theorem AskI.set {w wr : World} {g kb : Nat} {L : List Sp} {n : Nat} {Q : List Int} (h : AskI w wr g kb L n Q) (x : Int) : AskI w (wr.setCell ⟨g, n, none⟩ (.int .i64 x)) g kb L n (Q.set n x) := by
  obtain ⟨h1, h2⟩ := h.own.stored n (.int .i64 x)
  rw [intV_set] at h1
  refine ⟨h1, h.mp.grown h2 h.ne, fun j hj => ?_, h.bw.setCell (p := ⟨g, n, none⟩) (own_shape h.own rfl).1 _⟩
  rw [List.getElem?_set_ne (by omega)]; exact h.at_ j hj
theorem AskI.next {w wr : World} {g kb : Nat} {L : List Sp} {n : Nat} {Q : List Int} {x : Int} (h : AskI w wr g kb L n (Q.set n x)) (hx : (parL L)[n]? = some x) (hn : n < L.length) : AskI w wr g kb L (n + 1) (Q.set n x) :=
  ⟨h.own, h.mp, fun j hj => by
    by_cases e : j = n
    · subst e
      have := h.len
      rw [List.length_set] at this
      rw [List.getElem?_set_self (by omega), hx]
    · exact h.at_ j (by omega), h.bw⟩
theorem AskI.all {w wr : World} {g kb : Nat} {L : List Sp} {Q : List Int} (h : AskI w wr g kb L L.length Q) : Q = parL L := by
  apply List.ext_getElem?
  intro j
  by_cases hj : j < L.length
  · exact h.at_ j hj
  · rw [List.getElem?_eq_none (by rw [h.len]; omega), List.getElem?_eq_none (by rw [parL_length]; omega)]
theorem AskI.cell {w wr : World} {g kb : Nat} {L : List Sp} {n : Nat} {Q : List Int} (h : AskI w wr g kb L n Q) (s : Sp) (t : TypeId) (x : Int) :
    ((wr.alloc (.cells s.c t)).setCell ⟨g, n, none⟩ (.int .i64 x)).cell? ⟨wr.heap.size, 2, none⟩ = some (.int .u64 s.parent) := by
  have h2 := ((h.alloc (.cells s.c t)).own.stored n (.int .i64 x)).2
  have hg : g < wr.heap.size := (own_shape h.own rfl).2.1
  rw [World.cell?_of_block (a := ⟨wr.heap.size, 2, none⟩) (h2.block wr.heap.size (by simp) (by intro e; injection e with e; omega))]
  exact (Box.new wr s t).all.2.2.1
set_option maxHeartbeats 4000000 in
theorem asked_any (a : Option Addr) (c : Nat) (L : List Sp) (w : World) (ha : Rd w w.heap.size a (flatL L)) (hl : L.length ≤ 100000) (hok : ∀ s ∈ L, s.Ok) :
    Calls Try.prog 23 #[.slice a L.length c] w fun e w' => ∃ g, e = .returned (.slice (some ⟨g, 0, none⟩) L.length L.length) ∧ w'.ownsRow w.heap.size 3 1 (.slice (some ⟨g, 0, none⟩) L.length L.length) L.length (intV (parL L)) ∧ Below w.heap.size w w' := by
  obtain ⟨i0, hi0, hz0, hz1, hz2⟩ := info_parts info_int
  have HZ2 := Lib.hid hz2; clear hz2
  have HA := Lib.hid ha; have HOK := Lib.hid hok; clear ha hok
  go_enter Try.func23, Try.ntmps23
  go_wp2_with (first
    | (go_at_call 32
       refine (firsts_any a c L w HA.out hl HOK.out).mono ?_
       rintro e w1 ⟨rfl, ⟨kb, hkb, hm⟩, hb⟩
       have HM1 := Lib.hid hm; have HB1 := Lib.hid hb; clear hm hb)
    | (at_make
       refine wpList_make_full _ rfl (.tmp 12) (.tmp 12) 22 rfl w.heap.size 3 i0 _ 1 Try.underlying22 hi0 hz0 hz1 .i64 .i64 _ _ L.length rfl rfl rfl rfl (by rw [HZ2.out]; omega) (by unfold maxLen; omega) HB1.out.size ?_
       intro w2 hown2 hg2
       have HB2 := Lib.hid (HB1.out.grown hg2 HB1.out.size (by simp))
       have HO2 := Lib.hid hown2
       have HM2 := Lib.hid (HM1.out.grown hg2 (by simp))
       clear hown2 hg2))
  have HI1 : Hid (AskI w w2 w1.heap.size kb L 0 (List.replicate L.length 0)) := by
    have e : intV (List.replicate L.length 0) = (madeCells (Value.int .i64 0).cells (L.length * 1)).toList := by
      simp [intV, toList_madeCells_one, Value.cells]
    exact ⟨by rw [e]; exact HO2.out, HM2.out, fun j h => absurd h (Nat.not_lt_zero _), HB2.out⟩
  clear HO2 HM2 HB2
  go_loopw [16] (fun i wr => ∃ (n : Nat) (Q : List Int), n ≤ L.length ∧ i = .int .i64 n ∧ AskI w wr w1.heap.size kb L n Q) (fun i _ => L.length - (intOf i).toNat)
  case atStart => exact ⟨0, _, Nat.zero_le _, rfl, HI1.out⟩
  case round =>
    obtain ⟨n, Q, hn, rfl, hI⟩ := hrel
    have HI := Lib.hid hI; clear hI
    generalize wr = W1 at *
    generalize w1.heap.size = g at *
    by_cases hlt : n < L.length
    · obtain ⟨b2, o2, hb1, hB2', f0, f1, f2, f3, f4, f5, f6, f7⟩ := (HA.out.below HI.out.bw).elem hlt
      subst hb1
      have OKs := Lib.hid (HOK.out L[n] (List.getElem_mem _))
      have HPL := Lib.hid (parL_look hlt)
      generalize L[n] = s at *
      have i3 : (n : Int) < (L.length : Int) := by omega
      have i4 : (0 : Int) ≤ (n : Int) := by omega
      have HI2 := Lib.hid ((HI.out.alloc (.cells s.c 53)).set (-1))
      have hlook := HI2.out.mp.look_ok lawU10 Try.underlying49 (zero_int10 _) (keyU_of10 OKs.out.parent)
      have hfr := (HI.out.alloc (.cells s.c 53)).own.frozenAt n
      have hfr2 := HI2.out.own.frozenAt n
      have hc2 := HI.out.cell s 53 (-1)
      have hqn : n < Q.length := by rw [HI.out.len]; exact hlt
      have hcl := (HI.out.alloc (.cells s.c 53)).own.cellAt n (by omega)
      rw [intV_get hqn] at hcl
      have hcl2 := HI2.out.own.cellAt n (by omega)
      rw [intV_get (l := Q.set n (-1)) (i := n) (by rw [List.length_set]; exact hqn), List.getElem_set_self] at hcl2
      generalize Q[n] = q at *
      simp only [Sp.c] at hlook hfr hfr2 hc2 hcl hcl2
      cases hf : firF (idsL L) s.parent with
      | none =>
        rw [hf] at hlook
        simp only [Option.getD_none, Option.isSome_none] at hlook
        have HX : Hid ((parL L)[n]? = some (-1)) := by
          show _ = _
          rw [HPL.out]
          unfold firF at hf
          by_cases h1 : firstAt (idsL L) s.parent 0 = -1
          · rw [h1]; split <;> rfl
          · rw [if_neg h1] at hf; cases hf
        clear hf
        go_wp2_with fail
        go_roundw
        case rel => exact ⟨n + 1, _, by omega, by go_num, HI2.out.next HX.out hlt⟩
        case measure => simp [intOf]; omega
      | some u =>
        rw [hf] at hlook
        simp only [Option.getD_some, Option.isSome_some] at hlook
        obtain ⟨v, hv, hu⟩ : ∃ v, firstAt (idsL L) s.parent 0 = v ∧ u = .int .i64 v := by
          unfold firF at hf
          by_cases h1 : firstAt (idsL L) s.parent 0 = -1
          · rw [if_pos h1] at hf; cases hf
          · rw [if_neg h1] at hf
            exact ⟨_, rfl, by injection hf with hf; exact hf.symm⟩
        subst hu
        clear hf
        by_cases hp : s.parent = 0
        · have q1 : (s.parent != 0) = false := by simp [hp]
          have HX : Hid ((parL L)[n]? = some (-1)) := by
            show _ = _
            rw [HPL.out, if_pos hp]
          clear hp hv
          go_wp2_with fail
          go_roundw
          case rel => exact ⟨n + 1, _, by omega, by go_num, HI2.out.next HX.out hlt⟩
          case measure => simp [intOf]; omega
        · have q1 : (s.parent != 0) = true := by simpa using hp
          have HX : Hid ((parL L)[n]? = some v) := by
            show _ = _
            rw [HPL.out, if_neg hp, hv]
          have HI3 := HI2.out.set v
          rw [List.set_set] at HI3
          have HI3 := Lib.hid HI3
          clear hp hv
          go_wp2_with fail
          go_roundw
          case rel => exact ⟨n + 1, _, by omega, by go_num, HI3.out.next HX.out hlt⟩
          case measure => simp [intOf]; omega
    · obtain rfl : n = L.length := by omega
      have HE := HI.out.all
      subst HE
      have HO := Lib.hid HI.out.own; have HB := Lib.hid HI.out.bw
      go_wp2
      go_ret
      exact ⟨_, rfl, HO.out, HB.out⟩
end Go.Proofs.Ytkjngmlebflffaa

