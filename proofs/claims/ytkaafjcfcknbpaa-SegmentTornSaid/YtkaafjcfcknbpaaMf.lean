import Derived.Test.YtkaafjcfcknbpaaMe
namespace Go.Proofs.Ytkaafjcfcknbpaa
open Go Go.RowKit Go.Sort

/-! seg and Read. -/
def sgV (N K : Nat) (v : Value) (g : Int) (r : Bool) : Array Value := #[.int .u32 (N : Int), .int .i64 (K : Int), v, .int .i64 g, .bool r]
theorem sgV_one (N K : Nat) (a : Option Addr) (n c : Nat) (g : Int) (r : Bool) : (sgV N K (.slice a n c) g r).all (·.oneCell') = true := by simp [sgV, Value.oneCell']
theorem size_sg : (Try.prog.info? 31).map (·.size) = some 5 := by kernel_rfl
theorem load_sg (W : World) (b N K : Nat) (v : Value) (g : Int) (r : Bool) (ht : W.there b 0 5) : (loadVar 31 ⟨b, 0, none⟩).run Try.prog (W.setCells b 0 (sgV N K v g r).toList) = .ok (.agg (sgV N K v g r)) (W.setCells b 0 (sgV N K v g r).toList) :=
  run_loadVar_mid (P := Try.prog) _ b 0 31 _ _ (World.rangeAt_setCells_same W b 0 (sgV N K v g r).toList ht) Try.underlying31 rfl size_sg
theorem RB.alloc {w : World} {rb N K : Nat} {v : Value} {g : Int} (h : RB w rb N K v g) (o : Obj) : RB (w.alloc o) rb N K v g := h.below (box1 w o) h.lt
set_option maxRecDepth 20000 in
set_option maxHeartbeats 2000000 in
theorem seg_is {rb N K : Nat} {a : Option Addr} {n c : Nat} {g : Int} (w : World) (h : RB w rb N K (.slice a n c) g) (r : Bool) (hr : decide (n = K) = r) :
    Calls Try.prog 24 #[.pointer (some ⟨rb, 0, none⟩)] w fun e w' => e = .returned (.agg (sgV N K (.slice a n c) g r)) ∧ Below w.heap.size w w' := by
  obtain ⟨v, hv⟩ : ∃ v, v = w.alloc (.cells #[.int .u32 0, .int .i64 0, .slice none 0 0, .int .i64 0, .bool false] 31) := ⟨_, rfl⟩
  have HBV : Hid (Below w.heap.size w v) := by show Below _ _ _; rw [hv]; exact box1 _ _
  have HVS : Hid (v.heap.size = w.heap.size + 1) := by show _ = _; rw [hv]; simp
  have HTV : Hid (v.there w.heap.size 0 5) := by show v.there _ _ _; rw [hv]; exact there_last _ _ _ _ _ rfl rfl
  have X : RB v rb N K (.slice a n c) g := by rw [hv]; exact h.alloc _
  have HX := Lib.hid X
  have HRR := Lib.hid hr
  have k0 : ∀ (d : Nat) (os : Array Obj), (grow (redrawn v d) os).cell? ⟨rb, 0, none⟩ = some (.int .u32 (N : Int)) := fun d os => (X.below (below_regrown v d os) X.lt).c0
  have k1 : ∀ (d : Nat) (os : Array Obj), (grow (redrawn v d) os).cell? ⟨rb, 1, none⟩ = some (.int .i64 (K : Int)) := fun d os => (X.below (below_regrown v d os) X.lt).c1
  have k2 : ∀ (d : Nat) (os : Array Obj), (grow (redrawn v d) os).cell? ⟨rb, 2, none⟩ = some (.slice a n c) := fun d os => (X.below (below_regrown v d os) X.lt).c2
  have k3 : ∀ (d : Nat) (os : Array Obj), (grow (redrawn v d) os).cell? ⟨rb, 3, none⟩ = some (.int .i64 g) := fun d os => (X.below (below_regrown v d os) X.lt).c3
  clear h X hr
  go_enter Try.func24, Try.ntmps24
  go_wp2_with fail
  rw [← hv]
  clear hv
  refine wp_region_below_tail 21 (by kernel_rfl) (by kernel_rfl) ?_
  simp only [List.take_succ_cons, List.take_zero, List.drop_succ_cons, List.drop_zero]
  iterate 21 (first | go_big_quiet_step (first
    | (go_at_call 44; exact Calls.regrown_of (full_is _ (HX.out.below (below_regrown v _ _) HX.out.lt) r HRR.out))) | fail)
  refine wpQuiet_nil ?_
  intro W3 hw'
  obtain ⟨⟨d, os⟩, hw''⟩ := hw'
  have hb3 := below_regrown v d os
  rw [← hw''] at hb3
  clear hw'' k0 k1 k2 k3
  have HB3 := Lib.hid (HBV.out.trans (hb3.mono HBV.out.size))
  have HT3 := Lib.hid (there_below HTV.out hb3 (by rw [HVS.out]; omega))
  clear hb3
  go_wp2_with (refine wpList_store_mid rfl 31 (.tmp 2) (.tmp 23) rfl w.heap.size 0 (sgV N K (.slice a n c) g r) rfl rfl HT3.out size_sg (sgV_one _ _ _ _ _ _ _) ?_)
  refine bodyPost_ret (v := .agg (sgV N K (.slice a n c) g r)) (results_cell (p := 2) (ty := 31) (b := w.heap.size) rfl rfl (load_sg _ _ _ _ _ _ _ HT3.out)) rfl ?_
  exact ⟨rfl, Below_setCells (Nat.le_refl _) _ _ _ HB3.out⟩
/-- What Read answers. -/
def ReadOut (w : World) (b : List UInt8) (e : Ending) (w' : World) : Prop := Below w.heap.size w w' ∧
  ((∃ n, headOf b = .error n ∧ e = .returned (.tuple #[.agg (sgV 0 0 (.slice none 0 0) 0 false), .int .i64 (n : Int)])) ∨
   ∃ (N K : Nat) (v : Value) (xs : List Bod), headOf b = .ok (N, K) ∧ e = .returned (.tuple #[.agg (sgV N K v (endF 14 (segB b K)) (decide ((segB b K).length = K))), .int .i64 0]) ∧
     w'.ownsRow w.heap.size 23 1 v xs.length (xs.map Bod.v) ∧ (∀ x ∈ xs, BodAt w.heap.size x w') ∧ xs.map Bod.b = segB b K)
theorem headOf_err {b : List UInt8} {n : Nat} (h : headOf b = .error n) : n = 2 ∨ n = 3 ∨ n = 8 ∨ n = 4 := by
  unfold headOf at h
  repeat' split at h
  all_goals first
    | (cases h; done)
    | (injection h with h; omega)
theorem headOf_range {b : List UInt8} {N K : Nat} (h : headOf b = .ok (N, K)) : N < 4294967296 ∧ 1 ≤ K ∧ K ≤ 16 ∧ 14 ≤ b.length := by
  unfold headOf at h
  repeat' split at h
  all_goals first
    | (cases h; done)
    | (injection h with h; injection h with h1 h2; have := gN_lt b 4 4; omega)
theorem own_offs {base size n b : Nat} {e : TypeId} {v : Value} {xs : List Value} : ∀ {w : World} (_ : w.ownsRow base e size v n xs) (_ : b < base) (us : List Value) (o : Nat), (w.setCells b o us).ownsRow base e size v n xs
  | _, h, _, [], _ => h
  | _, h, hb, _ :: us, o => own_offs (own_off h hb o _) hb us (o + 1)
set_option maxRecDepth 20000 in
set_option maxHeartbeats 2000000 in
theorem read_any (a : Option Addr) (c : Nat) (b : List UInt8) (w : World) (hr : Rd w w.heap.size a (bV b)) (hl : b.length ≤ 1000000000000) (hlc : b.length ≤ c) (hc : c ≤ maxLen) :
    Calls Try.prog 9 #[.slice a b.length c] w (ReadOut w b) := by
  have HLC := Lib.hid hlc; have HC := Lib.hid hc
  obtain ⟨v, hv⟩ : ∃ v, v = w.alloc (.cells #[.int .u32 0, .int .i64 0, .slice none 0 0, .int .i64 0, .bool false] 31) := ⟨_, rfl⟩
  have HBV : Hid (Below w.heap.size w v) := by show Below _ _ _; rw [hv]; exact box1 _ _
  have HVS : Hid (v.heap.size = w.heap.size + 1) := by show _ = _; rw [hv]; simp
  have HTV : Hid (v.there w.heap.size 0 5) := by show v.there _ _ _; rw [hv]; exact there_last _ _ _ _ _ rfl rfl
  have HR : Hid (Rd v v.heap.size a (bV b)) := by show Rd _ _ _ _; exact (hr.below HBV.out).more HBV.out.size
  clear hr hlc hc
  cases hh : headOf b with
  | error n =>
    have HH := Lib.hid hh
    have hn0 : ((n : Int) != 0) = true := by have := headOf_err hh; simp; omega
    have hcall : Calls Try.prog 22 #[.slice a b.length c] v fun e w' => e = .returned (.tuple #[.agg #[.int .u32 0, .int .i64 0], .int .i64 (n : Int)]) ∧ Below v.heap.size v w' := by
      have h := headOf_any a c b v HR.out hl HLC.out HC.out
      rw [hh] at h; exact h
    have HCALL := Lib.hid hcall
    clear hh hcall
    go_enter Try.func9, Try.ntmps9
    go_wp2_with fail
    rw [← hv]
    clear hv
    refine HCALL.out.mono ?_; rintro e w1 ⟨rfl, hb1⟩
    have HB1 := Lib.hid (HBV.out.trans (hb1.mono HBV.out.size)); have HT1 := Lib.hid (there_below HTV.out hb1 (by rw [HVS.out]; omega))
    have HS1 : Hid (w.heap.size ≤ w1.heap.size) := HB1.out.size
    clear hb1
    have HT2 := fun o : Obj => World.there_alloc HT1.out o
    go_wp2_with (refine wpList_store_mid rfl 31 (.tmp 2) (.tmp 14) rfl w.heap.size 0 (sgV 0 0 (.slice none 0 0) 0 false) rfl rfl (HT2 _) size_sg (sgV_one _ _ _ _ _ _ _) ?_)
    refine bodyPost_ret (v := .tuple #[.agg (sgV 0 0 (.slice none 0 0) 0 false), .int .i64 (n : Int)]) (results_cell_two (p := 2) (u := 3) (ty := 31) (b := w.heap.size) (x := .int .i64 (n : Int)) rfl rfl rfl (load_sg _ _ _ _ _ _ _ (HT2 _))) rfl ?_
    exact ⟨Below_setCells (Nat.le_refl _) _ _ _ (HB1.out.alloc HS1.out _), .inl ⟨n, HH.out, rfl⟩⟩
  | ok NK =>
    obtain ⟨N, K⟩ := NK
    have HH := Lib.hid hh
    obtain ⟨hN32, hK1, hK16, h14⟩ := headOf_range hh
    have hcall : Calls Try.prog 22 #[.slice a b.length c] v fun e w' => e = .returned (.tuple #[.agg #[.int .u32 (N : Int), .int .i64 (K : Int)], .int .i64 0]) ∧ Below v.heap.size v w' := by
      have h := headOf_any a c b v HR.out hl HLC.out HC.out
      rw [hh] at h; exact h
    have HCALL := Lib.hid hcall
    clear hh hcall
    go_enter Try.func9, Try.ntmps9
    go_wp2_with fail
    rw [← hv]
    clear hv
    refine HCALL.out.mono ?_; rintro e w1 ⟨rfl, hb1⟩
    have HB1 := Lib.hid (HBV.out.trans (hb1.mono HBV.out.size)); have HT1 := Lib.hid (there_below HTV.out hb1 (by rw [HVS.out]; omega)); have HR1 := Lib.hid ((HR.out.below hb1).more hb1.size)
    have HS1 : Hid (w.heap.size + 1 ≤ w1.heap.size) := by have := hb1.size; rw [HVS.out] at this; exact this
    clear hb1
    go_wp2_with fail
    obtain ⟨w2, hw2⟩ : ∃ w2, w2 = w1.alloc (.cells #[.int .u32 (N : Int), .int .i64 (K : Int)] 64) := ⟨_, rfl⟩
    have hw2s : w2.heap.size = w1.heap.size + 1 := by rw [hw2]; simp
    rw [← hw2, ← hw2s]
    have HB2 : Hid (Below w.heap.size w w2) := by show Below _ _ _; rw [hw2]; exact HB1.out.alloc (by have := HS1.out; omega) _
    have HT2 : Hid (w2.there w.heap.size 0 5) := by show w2.there _ _ _; rw [hw2]; exact World.there_alloc HT1.out _
    have HR2 : Hid (Rd w2 w2.heap.size a (bV b)) := by show Rd _ _ _ _; rw [hw2]; exact (HR1.out.below (box1 w1 _)).more (box1 w1 _).size
    have HS2 : Hid (w.heap.size < w2.heap.size) := by show _ < _; rw [hw2s]; have := HS1.out; omega
    clear hw2 hw2s
    refine (gather_any w2.heap.size N K a c b w2 _ (box1 w2 _) (Nat.le_refl _) (heap_alloc_new w2 _) HR2.out hl HLC.out HC.out hK16).mono ?_
    rintro e w3 ⟨rfl, vv, xs, box, ho, hbod, hseg, hb3, hsz3⟩
    have HBOX := Lib.hid box; have HO := Lib.hid ho; have HBD := Lib.hid hbod; have HSEG := Lib.hid hseg
    have HB3 := Lib.hid (HB2.out.trans (hb3.mono HB2.out.size)); have HT3 := Lib.hid (there_below HT2.out hb3 HS2.out)
    have HSZ3 : Hid (w2.heap.size + 1 ≤ w3.heap.size) := by have := hsz3; simp at this; exact this
    obtain ⟨va, vc, rfl, _, _, _⟩ := own_slice ho
    clear box ho hbod hseg hb3 hsz3
    obtain ⟨E, hE⟩ : ∃ E, E = endF 14 (xs.map Bod.b) := ⟨_, rfl⟩
    have HE : Hid (E = endF 14 (segB b K)) := by show _ = _; rw [hE, HSEG.out]
    obtain ⟨n, hn⟩ : ∃ n, n = xs.length := ⟨_, rfl⟩
    have HN := Lib.hid hn
    obtain ⟨r, hr⟩ : ∃ r, decide (n = K) = r := ⟨_, rfl⟩
    have HRR := Lib.hid hr
    rw [← hE, ← hn] at HBOX
    rw [← hn] at HO
    clear hE hn hr
    go_wp2_with fail
    refine (seg_is w3 HBOX.out r HRR.out).mono ?_; rintro e w4 ⟨rfl, hb4⟩
    have HB4 := Lib.hid (HB3.out.trans (hb4.mono HB3.out.size)); have HT4 := Lib.hid (there_below HT3.out hb4 (by have := HS2.out; have := HSZ3.out; omega))
    have HO4 := Lib.hid (own_below HO.out hb4); have HBD4 : Hid (∀ x ∈ xs, BodAt (w2.alloc (.cells #[.int .u32 (N : Int), .int .i64 (K : Int), .slice none 0 0, .int .i64 14] 68)).heap.size x w4) := fun x hx => (HBD.out x hx).below hb4
    clear hb4
    go_wp2_with (refine wpList_store_mid rfl 31 (.tmp 2) (.tmp 20) rfl w.heap.size 0 (sgV N K (.slice va n vc) E r) rfl rfl HT4.out size_sg (sgV_one _ _ _ _ _ _ _) ?_)
    refine bodyPost_ret (v := .tuple #[.agg (sgV N K (.slice va n vc) E r), .int .i64 0]) (results_cell_two (p := 2) (u := 3) (ty := 31) (b := w.heap.size) (x := .int .i64 0) rfl rfl rfl (load_sg _ _ _ _ _ _ _ HT4.out)) rfl ?_
    have hbase : w.heap.size < (w2.alloc (.cells #[.int .u32 (N : Int), .int .i64 (K : Int), .slice none 0 0, .int .i64 14] 68)).heap.size := by have := HS2.out; simp; omega
    refine ⟨Below_setCells (Nat.le_refl _) _ _ _ HB4.out, .inr ⟨N, K, .slice va n vc, xs, HH.out, ?_, ?_, ?_, HSEG.out⟩⟩
    · rw [← HE.out, show (segB b K).length = n by rw [← HSEG.out, List.length_map, HN.out], HRR.out]
    · rw [← HN.out]; exact own_base (own_offs HO4.out hbase _ _) (Nat.le_of_lt hbase)
    · intro x hx; exact own_base (own_offs (HBD4.out x hx) hbase _ _) (Nat.le_of_lt hbase)
end Go.Proofs.Ytkaafjcfcknbpaa
