import Derived.Test.YteaafjkgopmmdaaBb
namespace Go.Proofs.Yteaafjkgopmmdaa
open Go Go.Shelf Go.RowKit Go.Sort
set_option linter.unusedVariables false

/-! The landed finder (stage 12): the span at a place, if there is one that may be. -/
def findL (L : List Sp) (x : Int) : Option Sp := (atP L x).filter (fun s => mayB s)
def zSp : Sp := ⟨0, 0, 0, 0, ⟨#[]⟩, ⟨#[]⟩, 0, 0⟩
def orZ (o : Option Sp) : Sp := o.getD zSp
theorem find_neg {L : List Sp} {x : Int} (h : x < 0) : findL L x = none := by unfold findL; rw [atP_neg h]; rfl
theorem find_far {L : List Sp} {x : Int} (h : (L.length : Int) ≤ x) : findL L x = none := by unfold findL; rw [atP_far h]; rfl
theorem find_no {L : List Sp} {n : Nat} (hn : n < L.length) (h : mayB L[n] = false) : findL L (n : Int) = none := by
  unfold findL; rw [atP_is hn]; simp [h]
theorem find_yes {L : List Sp} {n : Nat} (hn : n < L.length) (h : mayB L[n] = true) : findL L (n : Int) = some L[n] := by
  unfold findL; rw [atP_is hn]; simp [h]
theorem load_set12 (W : World) (s : Sp) (b : Nat) (ht : W.there b 0 8) : (loadVar 42 ⟨b, 0, none⟩).run Try.prog (W.setCells b 0 s.c.toList) = .ok s.v (W.setCells b 0 s.c.toList) :=
  run_loadVar_mid (P := Try.prog) _ b 0 42 _ _ (World.rangeAt_setCells_same W b 0 s.c.toList ht) Try.underlying42 rfl (by kernel_rfl)
theorem sp_one12 (s : Sp) : s.c.all (·.oneCell') = true := by simp [Sp.c, Value.oneCell']
/-- A finder: its number, what it has caught, and the spans that lie there. -/
structure Finder (w : World) (B : Nat) (v : Value) (L : List Sp) : Prop where
  is : ∃ (pb : Nat) (a : Option Addr) (c : Nat), v = .func (.func 40) #[] #[.pointer (some ⟨pb, 0, none⟩)] ∧ pb < B ∧ w.cell? ⟨pb, 0, none⟩ = some (.slice a L.length c) ∧ Rd w B a (flatL L)
set_option maxHeartbeats 4000000 in
theorem find_any (pb : Nat) (a : Option Addr) (c : Nat) (L : List Sp) (x : Int) (w : World) (hpb : pb < w.heap.size) (hc : w.cell? ⟨pb, 0, none⟩ = some (.slice a L.length c)) (ha : Rd w w.heap.size a (flatL L)) (hl : L.length ≤ 100000) (hok : ∀ s ∈ L, s.Ok) :
    Calls Try.prog 40 #[.int .i64 x, .pointer (some ⟨pb, 0, none⟩)] w fun e w' => e = .returned (.tuple #[(orZ (findL L x)).v, .bool (findL L x).isSome]) ∧ Below w.heap.size w w' := by
  have HA := Lib.hid ha; have HOK := Lib.hid hok; clear ha hok
  have HBV := Lib.hid (box1 w (.cells zSp.c 42))
  have hcv : (w.alloc (.cells zSp.c 42)).cell? ⟨pb, 0, none⟩ = some (.slice a L.length c) := (HBV.out.cell (p := ⟨pb, 0, none⟩) hpb).trans hc
  have HLZ : Hid ((loadVar 42 ⟨w.heap.size, 0, none⟩).run Try.prog (w.alloc (.cells zSp.c 42)) = .ok zSp.v (w.alloc (.cells zSp.c 42))) := run_loadVar_mid (P := Try.prog) _ _ 0 42 _ _ (rangeAt_last w zSp.c 42 _ rfl) Try.underlying42 rfl (by kernel_rfl)
  by_cases hx0 : x < 0
  · have HE := Lib.hid (find_neg (L := L) hx0)
    unfold Sp.c zSp at hcv
    go_enter Try.func40, Try.ntmps40
    go_wp2_with fail
    refine bodyPost_ret (v := .tuple #[zSp.v, .bool false]) (results_cell_two (p := 3) (u := 4) (ty := 42) (b := w.heap.size) (x := .bool false) rfl rfl rfl HLZ.out) rfl ?_
    exact ⟨by rw [HE.out]; rfl, HBV.out⟩
  by_cases hx1 : (L.length : Int) ≤ x
  · have HE := Lib.hid (find_far (L := L) hx1)
    unfold Sp.c zSp at hcv
    go_enter Try.func40, Try.ntmps40
    go_wp2_with fail
    refine bodyPost_ret (v := .tuple #[zSp.v, .bool false]) (results_cell_two (p := 3) (u := 4) (ty := 42) (b := w.heap.size) (x := .bool false) rfl rfl rfl HLZ.out) rfl ?_
    exact ⟨by rw [HE.out]; rfl, HBV.out⟩
  obtain ⟨n, rfl⟩ : ∃ n : Nat, x = (n : Int) := ⟨x.toNat, by omega⟩
  have hn : n < L.length := by omega
  have HNO := Lib.hid (fun h => find_no (L := L) hn h)
  have HYES := Lib.hid (fun h => find_yes (L := L) hn h)
  have OKs := Lib.hid (HOK.out L[n] (List.getElem_mem _))
  have HAV := Lib.hid (HA.out.below HBV.out)
  obtain ⟨b1, o1, ha1, hb1, hE1⟩ := HAV.out.elem hn
  subst ha1
  generalize L[n] = s at *
  have i1 : (n : Int) < (L.length : Int) := by omega
  have i3 : (0 : Int) ≤ (n : Int) := by omega
  have HTV : Hid ((w.alloc (.cells zSp.c 42)).there w.heap.size 0 8) := by show World.there _ _ _ _; exact there_last _ _ _ _ _ rfl rfl
  have HVS : Hid ((w.alloc (.cells zSp.c 42)).heap.size = w.heap.size + 1) := by show _ = _; simp
  have HCV := Lib.hid hcv
  have HE1 := Lib.hid hE1
  obtain ⟨e0, e1, e2, e3, e4, e5, e6, e7⟩ := hE1
  unfold Sp.c zSp at e0 e1 e2 e3 e4 e5 e6 e7 hcv
  cases hs : mayB s with
  | false =>
    have HM := Lib.hid hs; clear hs
    have HE := Lib.hid (HNO.out HM.out)
    go_enter Try.func40, Try.ntmps40
    go_wp2_with (first
      | (go_at_call 41
         have hm := may_any s (w.alloc (.cells zSp.c 42)) OKs.out.host OKs.out.name
         rw [HM.out] at hm
         refine hm.mono ?_; clear hm; rintro e w4 ⟨rfl, hb4⟩
         have HT4 := Lib.hid (there_below HTV.out hb4 (by rw [HVS.out]; omega))
         have HB4 := Lib.hid (bel2 HBV.out hb4); clear hb4)
      | (refine wpList_store_mid rfl 42 (.tmp 3) (.tmp 21) rfl w.heap.size 0 zSp.c rfl rfl HT4.out (by kernel_rfl) (sp_one12 _) ?_))
    refine bodyPost_ret (v := .tuple #[zSp.v, .bool false]) (results_cell_two (p := 3) (u := 4) (ty := 42) (b := w.heap.size) (x := .bool false) rfl rfl rfl (load_set12 _ zSp _ HT4.out)) rfl ?_
    exact ⟨by rw [HE.out]; rfl, Below_setCells (Nat.le_refl _) _ 0 _ HB4.out⟩
  | true =>
    have HM := Lib.hid hs; clear hs
    have HE := Lib.hid (HYES.out HM.out)
    go_enter Try.func40, Try.ntmps40
    go_wp2_with (first
      | (go_at_call 41
         have hm := may_any s (w.alloc (.cells zSp.c 42)) OKs.out.host OKs.out.name
         rw [HM.out] at hm
         refine hm.mono ?_; clear hm; rintro e w4 ⟨rfl, hb4⟩
         have HT4 := Lib.hid (there_below HTV.out hb4 (by rw [HVS.out]; omega))
         have hltp : pb < (w.alloc (.cells zSp.c 42)).heap.size := by rw [HVS.out]; omega
         have hcv4 := (hb4.cell (p := ⟨pb, 0, none⟩) hltp).trans HCV.out
         have hlt4 : b1 < (w.alloc (.cells zSp.c 42)).heap.size := by rw [HVS.out]; omega
         have f0 := (hb4.cell (p := ⟨b1, o1 + n * 8, none⟩) hlt4).trans HE1.out.1
         have f1 := (hb4.cell (p := ⟨b1, o1 + n * 8 + 1, none⟩) hlt4).trans HE1.out.2.1
         have f2 := (hb4.cell (p := ⟨b1, o1 + n * 8 + 2, none⟩) hlt4).trans HE1.out.2.2.1
         have f3 := (hb4.cell (p := ⟨b1, o1 + n * 8 + 3, none⟩) hlt4).trans HE1.out.2.2.2.1
         have f4 := (hb4.cell (p := ⟨b1, o1 + n * 8 + 4, none⟩) hlt4).trans HE1.out.2.2.2.2.1
         have f5 := (hb4.cell (p := ⟨b1, o1 + n * 8 + 5, none⟩) hlt4).trans HE1.out.2.2.2.2.2.1
         have f6 := (hb4.cell (p := ⟨b1, o1 + n * 8 + 6, none⟩) hlt4).trans HE1.out.2.2.2.2.2.2.1
         have f7 := (hb4.cell (p := ⟨b1, o1 + n * 8 + 7, none⟩) hlt4).trans HE1.out.2.2.2.2.2.2.2
         have HB4 := Lib.hid (bel2 HBV.out hb4); clear hb4)
      | (refine wpList_store_mid rfl 42 (.tmp 3) (.tmp 25) rfl w.heap.size 0 s.c rfl rfl HT4.out (by kernel_rfl) (sp_one12 _) ?_))
    refine bodyPost_ret (v := .tuple #[s.v, .bool true]) (results_cell_two (p := 3) (u := 4) (ty := 42) (b := w.heap.size) (x := .bool true) rfl rfl rfl (load_set12 _ s _ HT4.out)) rfl ?_
    exact ⟨by rw [HE.out]; rfl, Below_setCells (Nat.le_refl _) _ 0 _ HB4.out⟩
set_option maxHeartbeats 1000000 in
theorem finder_is (a : Option Addr) (n c : Nat) (w : World) :
    Calls Try.prog 35 #[.slice a n c] w fun e w' => e = .returned (.func (.func 40) #[] #[.pointer (some ⟨w.heap.size, 0, none⟩)]) ∧ w' = w.alloc (.cells #[.slice a n c] 22) := by
  have hmf : ∀ (fn : Fn) (first cap : Array Value) (w : World), (Instr.makeFunc fn first cap).run Try.prog w = .ok (.func fn first cap) w := fun _ _ _ _ => rfl
  go_enter Try.func35, Try.ntmps35
  go_wp2_with fail
  go_ret
  exact ⟨rfl, rfl⟩
end Go.Proofs.Yteaafjkgopmmdaa

