import Derived.Test.YtkaafjcfcknbpaaMd
namespace Go.Proofs.Ytkaafjcfcknbpaa
open Go Go.RowKit Go.Sort

/-! gather: the bodies that are batches' bytes, from the head on. -/
def isB (b : List UInt8) : Bool := decide (errW (getW b) = 0)
def segB (l : List UInt8) (k : Nat) : List (List UInt8) := bodiesF isB (allF l k 14)
theorem while_all {p : List UInt8 → Bool} : ∀ {L : List (List UInt8)}, (∀ x ∈ L, p x = true) → L.takeWhile p = L
  | [], _ => rfl
  | x :: L, h => by rw [List.takeWhile_cons, if_pos (h x (List.mem_cons_self ..)), while_all fun y hy => h y (List.mem_cons_of_mem _ hy)]
theorem while_stop {p : List UInt8 → Bool} {b : List UInt8} (hb : p b = false) {R : List (List UInt8)} : ∀ {L : List (List UInt8)}, (∀ x ∈ L, p x = true) → (L ++ b :: R).takeWhile p = L
  | [], _ => by rw [List.nil_append, List.takeWhile_cons, if_neg (by simp [hb])]
  | x :: L, h => by rw [List.cons_append, List.takeWhile_cons, if_pos (h x (List.mem_cons_self ..)), while_stop hb fun y hy => h y (List.mem_cons_of_mem _ hy)]
/-- L's bodies have been found, each a batch's bytes, of k at most. -/
def Seen (l : List UInt8) (k : Nat) (L : List (List UInt8)) : Prop := Found l k 14 L ∧ ∀ x ∈ L, isB x = true
theorem Seen.start (l : List UInt8) (k : Nat) : Seen l k [] := ⟨Found.start _ _ _, fun _ h => absurd h (by simp)⟩
theorem Seen.next {l b : List UInt8} {k : Nat} {L : List (List UInt8)} (h : Seen l k L) (hm : L.length < k) (hg : gotF l (endF 14 L) = .ok b) (hb : isB b = true) : Seen l k (L ++ [b]) :=
  ⟨h.1.next hm hg, fun x hx => by
    rcases List.mem_append.1 hx with hx | hx
    · exact h.2 x hx
    · rw [List.mem_singleton] at hx; subst hx; exact hb⟩
theorem Seen.stop {l : List UInt8} {k : Nat} {L : List (List UInt8)} {e : Nat} (h : Seen l k L) (hg : gotF l (endF 14 L) = .error e) : segB l k = L := by
  unfold segB bodiesF; rw [h.1.stop hg]; exact while_all h.2
theorem Seen.full {l : List UInt8} {k : Nat} {L : List (List UInt8)} (h : Seen l k L) (hk : k ≤ L.length) : segB l k = L := by
  unfold segB bodiesF; rw [h.1.full hk]; exact while_all h.2
theorem Seen.none {l b : List UInt8} {k : Nat} {L : List (List UInt8)} (h : Seen l k L) (hm : L.length < k) (hg : gotF l (endF 14 L) = .ok b) (hb : isB b = false) : segB l k = L := by
  have h2 := (h.1.next hm hg).2.1
  unfold segB bodiesF
  rw [h2, List.append_assoc]
  exact while_stop hb h.2
theorem BodAt.below {B0 : Nat} {x : Bod} {w w' : World} (h : BodAt B0 x w) (hb : RowKit.Below w.heap.size w w') : BodAt B0 x w' := own_below h hb
theorem own_off {w : World} {base : Nat} {e : TypeId} {size n : Nat} {u : Value} {xs : List Value} (h : w.ownsRow base e size u n xs) {rb : Nat} (hb : rb < base) (i : Nat) (z : Value) : (w.setCell ⟨rb, i, none⟩ z).ownsRow base e size u n xs :=
  h.kept (row := some rb) (by refine ⟨rfl, rfl, rfl, by simp, fun k _ hne => ?_⟩; have : ¬ rb = k := fun e => hne (by rw [e]); simp [World.setCell, Array.getElem?_modify, this]) (by
    cases hk : u.ownBlock with
    | none => exact .inl rfl
    | some k => have := (own_shape h hk).1; exact .inr (by simp; omega))
/-- What gather leaves. -/
def GatherOut (w0 W : World) (rb N K : Nat) (b : List UInt8) (e : Ending) (w' : World) : Prop :=
  e = .returned (.tuple #[]) ∧ ∃ (v : Value) (xs : List Bod), RB w' rb N K v (endF 14 (xs.map Bod.b)) ∧ w'.ownsRow W.heap.size 23 1 v xs.length (xs.map Bod.v) ∧ (∀ x ∈ xs, BodAt W.heap.size x w') ∧ xs.map Bod.b = segB b K ∧ Below w0.heap.size w0 w' ∧ W.heap.size ≤ w'.heap.size
set_option maxRecDepth 20000 in
set_option maxHeartbeats 2000000 in
theorem gather_any (rb N K : Nat) (a : Option Addr) (c : Nat) (b : List UInt8) (w0 W : World) (hB : Below w0.heap.size w0 W) (hrb : w0.heap.size ≤ rb) (box : RB W rb N K (.slice none 0 0) 14)
    (hr : Rd w0 w0.heap.size a (bV b)) (hl : b.length ≤ 1000000000000) (hlc : b.length ≤ c) (hc : c ≤ maxLen) (hK : K ≤ 16) :
    Calls Try.prog 23 #[.pointer (some ⟨rb, 0, none⟩), .slice a b.length c] W (GatherOut w0 W rb N K b) := by
  have HB := Lib.hid hB; have HRB := Lib.hid hrb; have HBOX := Lib.hid box; have HR := Lib.hid hr; have HLC := Lib.hid hlc; have HC := Lib.hid hc
  have hws := box.lt
  clear hB hrb box hr hlc hc
  obtain ⟨i0, hi0, hz0, hz1, hz2⟩ := info_parts info_bytes
  have HZ2 := Lib.hid hz2; clear hz2
  have HW0 : Hid (w0.heap.size ≤ W.heap.size) := HB.out.size
  go_enter Try.func23, Try.ntmps23
  go_wp2_with fail
  go_loopw [4, 5, 6] (fun _ _ _ wr => ∃ (v : Value) (xs : List Bod), Seen b K (xs.map Bod.b) ∧ RB wr rb N K v (endF 14 (xs.map Bod.b)) ∧ wr.ownsRow W.heap.size 23 1 v xs.length (xs.map Bod.v) ∧ (∀ x ∈ xs, BodAt W.heap.size x wr) ∧ Below w0.heap.size w0 wr ∧ W.heap.size ≤ wr.heap.size)
    (fun _ _ _ wr => K - (match wr.cell? ⟨rb, 2, none⟩ with | some (.slice _ n _) => n | _ => 0))
  case atStart => exact ⟨_, [], Seen.start _ _, HBOX.out, World.ownsRow_nil _ _ _ _, fun _ h => absurd h (by simp), HB.out, Nat.le_refl _⟩
  case round =>
    obtain ⟨v, xs, hs, hbox, ho, hbod, hb, hsz⟩ := hrel
    have HS := Lib.hid hs; have HX := Lib.hid hbox; have HO := Lib.hid ho; have HBD := Lib.hid hbod; have HBW := Lib.hid hb; have HSZ := Lib.hid hsz
    have hxk : xs.length ≤ K := by have := hs.1.1; rwa [List.length_map] at this
    obtain ⟨va, vc, rfl, _, _, _⟩ := own_slice ho
    clear hs hbox ho hbod hb hsz
    by_cases hlt : xs.length = K
    · go_wp2_with fail
      refine (full_is wr HX.out true (decide_eq_true hlt)).mono ?_; rintro e w1 ⟨rfl, hb1⟩
      have HB1 := Lib.hid hb1; clear hb1
      go_wp2_with fail
      go_end0
      exact ⟨rfl, _, xs, HX.out.below HB1.out HX.out.lt, own_below HO.out HB1.out, fun x hx => (HBD.out x hx).below HB1.out, (HS.out.full (by rw [List.length_map]; omega)).symm, HBW.out.trans (HB1.out.mono HBW.out.size), Nat.le_trans HSZ.out HB1.out.size⟩
    · have hltk : xs.length < K := by omega
      have HLT := Lib.hid hltk
      go_wp2_with fail
      refine (full_is wr HX.out false (decide_eq_false hlt)).mono ?_; rintro e w1 ⟨rfl, hb1⟩
      have HX1 := Lib.hid (HX.out.below hb1 HX.out.lt); have HO1 := Lib.hid (own_below HO.out hb1); have HBD1 : Hid (∀ x ∈ xs, BodAt W.heap.size x w1) := fun x hx => (HBD.out x hx).below hb1
      have HB1 := Lib.hid (HBW.out.trans (hb1.mono HBW.out.size)); have HSZ1 : Hid (W.heap.size ≤ w1.heap.size) := Nat.le_trans HSZ.out hb1.size
      clear hb1
      have c3 := HX1.out.c3
      obtain ⟨E, hE⟩ : ∃ E, E = endF 14 (xs.map Bod.b) := ⟨_, rfl⟩
      have HE := Lib.hid hE
      rw [← hE] at c3 HX1
      clear hE
      go_wp2_with fail
      refine (gotF_any a b.length c b E w1 rfl HLC.out HC.out hl ((HR.out.below HB1.out).more HB1.out.size)).mono ?_
      rintro e w2 ⟨hb2, (⟨B, bv, hg, rfl, ho2⟩ | ⟨k, hg, rfl⟩)⟩
      · have HX2 := Lib.hid (HX1.out.below hb2 HX1.out.lt); have HO2 := Lib.hid (own_below HO1.out hb2); have HBD2 : Hid (∀ x ∈ xs, BodAt W.heap.size x w2) := fun x hx => (HBD1.out x hx).below hb2
        have HB2 := Lib.hid (HB1.out.trans (hb2.mono HB1.out.size)); have HSZ2 : Hid (W.heap.size ≤ w2.heap.size) := Nat.le_trans HSZ1.out hb2.size
        have HG := Lib.hid hg; have HBV := Lib.hid (own_base ho2 HSZ1.out)
        have hfit := gotF_fits hg
        obtain ⟨ba, bc, rfl, hbn, hbm, _⟩ := own_slice ho2
        have HBN := Lib.hid hbn; have HBM := Lib.hid hbm
        have hBl : B.length ≤ 2406 := hfit.2.2.2
        have HEL : Hid (0 ≤ E ∧ E ≤ 1000000000000) := ⟨by omega, by omega⟩
        clear hb2 hg ho2 hbn hbm hfit
        cases hib : isB B
        · have HIB := Lib.hid hib
          have HCALL : Hid (decide (errW (getW B) = 0) = false) := hib
          clear hib
          go_wp2_with fail
          refine (isBatch_is ba B.length bc B w2 rfl (Rd.own HBV.out) (by omega) HBN.out HBM.out).mono ?_; rintro e w3 ⟨rfl, hb3⟩
          rw [HCALL.out]
          have HX3 := Lib.hid (HX2.out.below hb3 HX2.out.lt); have HO3 := Lib.hid (own_below HO2.out hb3); have HBD3 : Hid (∀ x ∈ xs, BodAt W.heap.size x w3) := fun x hx => (HBD2.out x hx).below hb3
          have HB3 := Lib.hid (HB2.out.trans (hb3.mono HB2.out.size)); have HSZ3 : Hid (W.heap.size ≤ w3.heap.size) := Nat.le_trans HSZ2.out hb3.size
          clear hb3
          go_wp2_with fail
          go_end0
          rw [HE.out] at HX3
          exact ⟨rfl, _, xs, HX3.out, HO3.out, HBD3.out, (HS.out.none (by rw [List.length_map]; exact HLT.out) (by rw [← HE.out]; exact HG.out) HIB.out).symm, HB3.out, HSZ3.out⟩
        · have HIB := Lib.hid hib
          have HCALL : Hid (decide (errW (getW B) = 0) = true) := hib
          clear hib
          go_wp2_with fail
          refine (isBatch_is ba B.length bc B w2 rfl (Rd.own HBV.out) (by omega) HBN.out HBM.out).mono ?_; rintro e w3 ⟨rfl, hb3⟩
          rw [HCALL.out]
          have HX3 := Lib.hid (HX2.out.below hb3 HX2.out.lt); have HO3 := Lib.hid (own_below HO2.out hb3); have HBD3 : Hid (∀ x ∈ xs, BodAt W.heap.size x w3) := fun x hx => (HBD2.out x hx).below hb3
          have HBV3 := Lib.hid (own_below HBV.out hb3)
          have HB3 := Lib.hid (HB2.out.trans (hb3.mono HB2.out.size)); have HSZ3 : Hid (W.heap.size ≤ w3.heap.size) := Nat.le_trans HSZ2.out hb3.size
          clear hb3
          have c2 := HX3.out.c2
          have hw0 : w0.heap.size ≤ W.heap.size := HW0.out
          have hsz3 : W.heap.size ≤ w3.heap.size := HSZ3.out
          obtain ⟨nx, hnx⟩ : ∃ nx, nx = xs.length := ⟨_, rfl⟩
          have HNX := Lib.hid hnx
          have hnx16 : nx ≤ 16 := by omega
          rw [← hnx] at c2 HX3 HO3
          clear hnx
          have HOA := Lib.hid (HO3.out.alloc (.cells #[.slice ba B.length bc] 23))
          have HXA : Hid (RB (w3.alloc (.cells #[.slice ba B.length bc] 23)) rb N K (.slice va nx vc) E) := HX3.out.below (box1 w3 _) HX3.out.lt
          go_wp2_with (at_builtin; go_must (refine wpList_append_rd _ rfl (.tmp 32) (.tmp 34) 29 rfl W.heap.size 23 i0 _ 1 24 Try.underlying29 hi0 hz0 hz1 HZ2.out rfl (by omega) _ nx _ rfl HOA.out _ _ 1 _ [.slice ba B.length bc] rfl rfl (lit_rd w3 #[.slice ba B.length bc] _) (by simp [Value.oneCell']) (by unfold maxLen; omega) (by omega) (by simp; omega) ?_)
                       intro v7 w4 hown4 hg4 _
                       obtain ⟨a7, c7, rfl, _, _, _⟩ := own_slice hown4
                       have hne : some rb ≠ (Value.slice va nx vc).ownBlock := fun e => by have := (own_shape HOA.out e.symm).1; omega
                       have X4 := HXA.out.grown hg4 hne
                       have HX4 := Lib.hid X4
                       have d2 := X4.c2
                       have d2f := X4.fz 2
                       have d3 : (w4.setCell ⟨rb, 2, none⟩ (.slice a7 (nx + 1) c7)).cell? ⟨rb, 3, none⟩ = some (.int .i64 E) := by rw [World.cell?_setCell_other _ _ _ _ (by simp)]; exact X4.c3
                       have d3f := X4.fz 3
                       have HO4 := Lib.hid hown4
                       have HB4 := Lib.hid (Below.of_grown (HB3.out.alloc HB3.out.size (.cells #[.slice ba B.length bc] 23)) hg4 (by simp; omega) (by intro g hg; have := (own_shape HOA.out hg).1; omega))
                       have HG4 := Lib.hid hg4
                       clear X4 hown4 hg4)
          go_roundw
          case rel =>
            have HXS : Hid (RB ((w4.setCell ⟨rb, 2, none⟩ (.slice a7 (nx + 1) c7)).setCell ⟨rb, 3, none⟩ (.int .i64 (E + 6 + (B.length : Int)))) rb N K (.slice a7 (nx + 1) c7) (E + 6 + (B.length : Int))) := HX4.out.set _ _
            obtain ⟨w5, hw5⟩ : ∃ w5, w5 = w4.setCell ⟨rb, 2, none⟩ (.slice a7 (nx + 1) c7) := ⟨_, rfl⟩
            rw [← hw5] at HXS ⊢
            obtain ⟨w6, hw6⟩ : ∃ w6, w6 = w5.setCell ⟨rb, 3, none⟩ (.int .i64 (E + 6 + (B.length : Int))) := ⟨_, rfl⟩
            rw [← hw6] at HXS ⊢
            have far : ∀ {Y : World} {e : TypeId} {u : Value} {k : Nat} {ys : List Value} (i : Nat) (z : Value), Y.ownsRow W.heap.size e 1 u k ys → (Y.setCell ⟨rb, i, none⟩ z).ownsRow W.heap.size e 1 u k ys := fun i z h => own_off h (by omega) i z
            have hbod : ∀ y : Bod, BodAt W.heap.size y w3 → BodAt W.heap.size y w6 := fun y hy => by
              rw [hw6, hw5]
              exact far 3 _ (far 2 _ (World.ownsRow.kept (hy.alloc (.cells #[.slice ba B.length bc] 23)) HG4.out (rows_apart hy HO3.out (by decide))))
            have hEq : endF 14 ((xs ++ [(⟨.slice ba B.length bc, B, 0⟩ : Bod)]).map Bod.b) = E + 6 + (B.length : Int) := by
              rw [List.map_append, List.map_cons, List.map_nil, endF_snoc, ← HE.out]; show E + ((6 + B.length : Nat) : Int) = _; omega
            refine ⟨.slice a7 (nx + 1) c7, xs ++ [⟨.slice ba B.length bc, B, 0⟩], ?_, by rw [hEq]; exact HXS.out, ?_, ?_, ?_, ?_⟩
            · rw [List.map_append]
              exact HS.out.next (by rw [List.length_map]; exact HLT.out) (by rw [← HE.out]; exact HG.out) HIB.out
            · have h := HO4.out
              rw [HNX.out] at h
              rw [List.length_append, List.map_append, hw6, hw5, HNX.out]
              exact far 3 _ (far 2 _ h)
            · intro y hy
              rcases List.mem_append.1 hy with hy | hy
              · exact hbod y (HBD3.out y hy)
              · rw [List.mem_singleton] at hy; subst hy; exact hbod _ HBV3.out
            · rw [hw6, hw5]; exact (HB4.out.setCell (p := ⟨rb, 2, none⟩) HRB.out _).setCell (p := ⟨rb, 3, none⟩) HRB.out _
            · have := HG4.out.size
              have h2 := HSZ3.out
              rw [hw6, hw5]; simp at this ⊢; omega
          case measure =>
            have h1 := HX4.out.set (.slice a7 (nx + 1) c7) (E + 6 + (B.length : Int))
            have h2 := HX.out.c2
            rw [h1.c2, h2]
            have := HLT.out
            have := HNX.out
            simp
            omega
      · have HX2 := Lib.hid (HX1.out.below hb2 HX1.out.lt); have HO2 := Lib.hid (own_below HO1.out hb2); have HBD2 : Hid (∀ x ∈ xs, BodAt W.heap.size x w2) := fun x hx => (HBD1.out x hx).below hb2
        have HB2 := Lib.hid (HB1.out.trans (hb2.mono HB1.out.size)); have HSZ2 : Hid (W.heap.size ≤ w2.heap.size) := Nat.le_trans HSZ1.out hb2.size
        have HG := Lib.hid hg
        have hk : ((k : Int) != 0) = true := by have := (gotF_err hg).1; simp; omega
        clear hb2 hg
        go_wp2_with fail
        go_end0
        rw [HE.out] at HX2
        exact ⟨rfl, _, xs, HX2.out, HO2.out, HBD2.out, (HS.out.stop (by rw [← HE.out]; exact HG.out)).symm, HB2.out, HSZ2.out⟩
end Go.Proofs.Ytkaafjcfcknbpaa
