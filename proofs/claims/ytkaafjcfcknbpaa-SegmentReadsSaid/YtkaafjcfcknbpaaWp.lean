import Derived.Test.YtkaafjcfcknbpaaWn
namespace Go.Proofs.Ytkaafjcfcknbpaa
open Go Go.RowKit

/-! A closure that keeps its place: the number of some bytes, a text. -/
set_option maxHeartbeats 1000000 in
theorem number_any (bb ab : Nat) (a : Option Addr) (c : Nat) (b : List UInt8) (p k : Nat) (w : World) (hc0 : w.cell? ⟨bb, 0, none⟩ = some (.slice a b.length c)) (hc1 : w.cell? ⟨ab, 0, none⟩ = some (.int .i64 (p : Int))) (hf : w.frozen? ⟨ab, 0, none⟩ = false)
    (hr : Rd w w.heap.size a (bV b)) (hl : b.length ≤ 1000000000000) (hk : cnt (k : Int) = k) (hk8 : k ≤ 8) (hp : p + k ≤ b.length) (G : Nat) (hG : gN b p k = G) :
    Calls Try.prog 68 #[.int .i64 (k : Int), .pointer (some ⟨bb, 0, none⟩), .pointer (some ⟨ab, 0, none⟩)] w fun e w' => e = .returned (.int .u64 (G : Int)) ∧ w' = w.setCell ⟨ab, 0, none⟩ (.int .i64 ((p + k : Nat) : Int)) := by
  have HR := Lib.hid hr; clear hr
  have HY : Hid (getR b (p : Int) (k : Int) = (G, true)) := by show _ = _; rw [getR_yes (by rw [hk]; omega), hk, Int.toNat_natCast, hG]
  have hw : IntKind.i64.wrap ((p : Int) + (k : Int)) = (p : Int) + (k : Int) := IntWalk.i64_in _ ⟨by omega, by omega⟩
  clear hk hG
  go_enter Try.func68, Try.ntmps68
  go_wp2_with fail
  refine (get_any a c b (p : Int) (k : Int) _ HR.out hl (by omega) (by omega) (by omega) (by omega)).mono ?_
  rw [HY.out]
  rintro e w1 ⟨rfl, rfl⟩
  go_wp2_with fail
  go_ret
  exact ⟨rfl, by simp⟩
set_option maxHeartbeats 1000000 in
theorem text_any (bb ab : Nat) (a : Option Addr) (c : Nat) (b : List UInt8) (p : Nat) (w : World) (hc0 : w.cell? ⟨bb, 0, none⟩ = some (.slice a b.length c)) (hc1 : w.cell? ⟨ab, 0, none⟩ = some (.int .i64 (p : Int))) (hf : w.frozen? ⟨ab, 0, none⟩ = false)
    (hr : Rd w w.heap.size a (bV b)) (hl : b.length ≤ 1000000000000) (hlc : b.length ≤ c) (hc : c ≤ maxLen) (hp : p ≤ b.length) (o : Option (List UInt8)) (ho : getT b (p : Int) = o) :
    Calls Try.prog 69 #[.pointer (some ⟨bb, 0, none⟩), .pointer (some ⟨ab, 0, none⟩)] w fun e w' => e = .returned (.tuple #[.string (txt o), .bool o.isSome]) ∧ w' = w.setCell ⟨ab, 0, none⟩ (.int .i64 ((p + 17 : Nat) : Int)) := by
  have HR := Lib.hid hr; have HO := Lib.hid ho; have HC := Lib.hid hc; clear hr ho hc
  have hw : IntKind.i64.wrap ((p : Int) + 17) = (p : Int) + 17 := IntWalk.i64_in _ ⟨by omega, by omega⟩
  go_enter Try.func69, Try.ntmps69
  go_wp2_with fail
  refine (getText_any a c b (p : Int) _ HR.out hl hlc HC.out (by omega) (by omega)).mono ?_
  rw [HO.out]
  rintro e w1 ⟨rfl, rfl⟩
  go_wp2_with fail
  go_ret2
  exact ⟨rfl, by simp⟩
set_option maxHeartbeats 1000000 in
theorem partsFrom_is (a : Option Addr) (n c : Nat) (p : Int) (w : World) :
    Calls Try.prog 55 #[.slice a n c, .int .i64 p] w fun e w' => e = .returned (.tuple #[.func (.func 68) #[] #[.pointer (some ⟨w.heap.size, 0, none⟩), .pointer (some ⟨w.heap.size + 1, 0, none⟩)], .func (.func 69) #[] #[.pointer (some ⟨w.heap.size, 0, none⟩), .pointer (some ⟨w.heap.size + 1, 0, none⟩)]]) ∧ w' = (w.alloc (.cells #[.slice a n c] 23)).alloc (.cells #[.int .i64 p] 3) := by
  have hmf : ∀ (fn : Fn) (first cap : Array Value) (w : World), (Instr.makeFunc fn first cap).run Try.prog w = .ok (.func fn first cap) w := fun _ _ _ _ => rfl
  go_enter Try.func55, Try.ntmps55
  go_wp2_with fail
  go_ret2
  exact ⟨rfl, rfl⟩
end Go.Proofs.Ytkaafjcfcknbpaa

namespace Go.Proofs.Ytkaafjcfcknbpaa
open Go Go.RowKit

/-- What spanAt answers: the span and the error's number. -/
def SpanOut (w : World) (r : Except Nat Sp) (e : Ending) (w' : World) : Prop :=
  (∃ s, r = .ok s ∧ e = .returned (.tuple #[s.v, .int .i64 0]) ∧ Below w.heap.size w w') ∨ (∃ n s, r = .error n ∧ e = .returned (.tuple #[Sp.v s, .int .i64 (n : Int)]) ∧ Below w.heap.size w w')
theorem number3 (w : World) (S : Obj) (bb ab : Nat) (hbb : bb = w.heap.size) (hab : ab = w.heap.size + 1) (a : Option Addr) (c : Nat) (b : List UInt8) (q k : Nat) (hr : Rd w w.heap.size a (bV b)) (hl : b.length ≤ 1000000000000) (hk : cnt (k : Int) = k) (hk8 : k ≤ 8) (hp : q + k ≤ b.length) (G : Nat) (hG : gN b q k = G) :
    Calls Try.prog 68 #[.int .i64 (k : Int), .pointer (some ⟨bb, 0, none⟩), .pointer (some ⟨ab, 0, none⟩)] (((w.alloc (.cells #[.slice a b.length c] 23)).alloc (.cells #[.int .i64 (q : Int)] 3)).alloc S)
      fun e w' => e = .returned (.int .u64 (G : Int)) ∧ w' = (((w.alloc (.cells #[.slice a b.length c] 23)).alloc (.cells #[.int .i64 ((q + k : Nat) : Int)] 3)).alloc S) := by
  subst hbb hab
  refine (number_any _ _ a c b q k _ (by go_simp) (by go_simp) (by go_simp) ((hr.below (((box1 w _).alloc (by simp) _).alloc (by simp; omega) S)).more (by simp; omega)) hl hk hk8 hp G hG).mono ?_
  rintro e w' ⟨he, rfl⟩
  refine ⟨he, ?_⟩
  rw [World.setCell_alloc_past _ _ _ _ (by simp), World.setCell_alloc_at _ _ _ _ _ (by simp)]
  rfl
theorem text3 (w : World) (S : Obj) (bb ab : Nat) (hbb : bb = w.heap.size) (hab : ab = w.heap.size + 1) (a : Option Addr) (c : Nat) (b : List UInt8) (q : Nat) (hr : Rd w w.heap.size a (bV b)) (hl : b.length ≤ 1000000000000) (hlc : b.length ≤ c) (hc : c ≤ maxLen) (hp : q ≤ b.length) (o : Option (List UInt8)) (ho : getT b (q : Int) = o) :
    Calls Try.prog 69 #[.pointer (some ⟨bb, 0, none⟩), .pointer (some ⟨ab, 0, none⟩)] (((w.alloc (.cells #[.slice a b.length c] 23)).alloc (.cells #[.int .i64 (q : Int)] 3)).alloc S)
      fun e w' => e = .returned (.tuple #[.string (txt o), .bool o.isSome]) ∧ w' = (((w.alloc (.cells #[.slice a b.length c] 23)).alloc (.cells #[.int .i64 ((q + 17 : Nat) : Int)] 3)).alloc S) := by
  subst hbb hab
  refine (text_any _ _ a c b q _ (by go_simp) (by go_simp) (by go_simp) ((hr.below (((box1 w _).alloc (by simp) _).alloc (by simp; omega) S)).more (by simp; omega)) hl hlc hc hp o ho).mono ?_
  rintro e w' ⟨he, rfl⟩
  refine ⟨he, ?_⟩
  rw [World.setCell_alloc_past _ _ _ _ (by simp), World.setCell_alloc_at _ _ _ _ _ (by simp)]
  rfl
theorem size_sp : (Try.prog.info? 54).map (·.size) = some 8 := by kernel_rfl
theorem sp_one (s : Sp) : s.c.all (·.oneCell') = true := by simp [Sp.c, Value.oneCell']
theorem load_sp2 (X : World) (z : Sp) (S : Obj) (n : Nat) (hn : n = X.heap.size) : (loadVar 54 ⟨n, 0, none⟩).run Try.prog ((X.alloc (.cells z.c 54)).alloc S) = .ok z.v ((X.alloc (.cells z.c 54)).alloc S) :=
  run_loadVar_mid (P := Try.prog) _ n 0 54 _ _ (World.rangeAt_alloc (rangeAt_last X z.c 54 n hn) S) Try.underlying54 rfl size_sp
theorem load_set (W : World) (s : Sp) (b : Nat) (ht : W.there b 0 8) : (loadVar 54 ⟨b, 0, none⟩).run Try.prog (W.setCells b 0 s.c.toList) = .ok s.v (W.setCells b 0 s.c.toList) :=
  run_loadVar_mid (P := Try.prog) _ b 0 54 _ _ (World.rangeAt_setCells_same W b 0 s.c.toList ht) Try.underlying54 rfl size_sp
def spanRes (o1 o2 : Option (List UInt8)) (f : ByteArray → ByteArray → Sp) : Except Nat Sp :=
  match o1, o2 with
  | none, _ => .error 3
  | _, none => .error 3
  | some h, some n => if mayB (f (bs h) (bs n)) = true then .ok (f (bs h) (bs n)) else .error 4
theorem spanAt_res (b : List UInt8) (p : Nat) : spanAt b p = spanRes (getT b ((p + 41 : Nat) : Int)) (getT b ((p + 58 : Nat) : Int)) fun h n => ⟨gN b p 8, gN b (p + 8) 8, gN b (p + 16) 8, gN b (p + 24) 1, h, n, IntKind.i64.wrap (gN b (p + 25) 8), IntKind.i64.wrap (gN b (p + 33) 8)⟩ := by
  unfold spanAt spanRes
  cases getT b ((p + 41 : Nat) : Int) <;> cases getT b ((p + 58 : Nat) : Int) <;> rfl
set_option maxRecDepth 20000 in
set_option maxHeartbeats 4000000 in
theorem spanAt_any (a : Option Addr) (c : Nat) (b : List UInt8) (p : Nat) (w : World) (hr : Rd w w.heap.size a (bV b)) (hl : b.length ≤ 1000000000000) (hlc : b.length ≤ c) (hc : c ≤ maxLen) (hp : p + 75 ≤ b.length) :
    Calls Try.prog 36 #[.slice a b.length c, .int .i64 (p : Int)] w (SpanOut w (spanAt b p)) := by
  have HC := Lib.hid hc; clear hc
  obtain ⟨v, hv⟩ : ∃ v, v = w.alloc (.cells (⟨0, 0, 0, 0, ⟨#[]⟩, ⟨#[]⟩, 0, 0⟩ : Sp).c 54) := ⟨_, rfl⟩
  have HBV : Hid (Below w.heap.size w v) := by show Below _ _ _; rw [hv]; exact box1 _ _
  have HVS : Hid (v.heap.size = w.heap.size + 1) := by show _ = _; rw [hv]; simp
  have HTV : Hid (v.there w.heap.size 0 8) := by show v.there _ _ _; rw [hv]; exact there_last _ _ _ _ _ rfl rfl
  have HR : Hid (Rd v v.heap.size a (bV b)) := by show Rd _ _ _ _; exact (hr.below HBV.out).more HBV.out.size
  have HV := Lib.hid hv
  clear hr

  obtain ⟨A, hA⟩ : ∃ A, gN b p 8 = A := ⟨_, rfl⟩
  obtain ⟨B, hB⟩ : ∃ B, gN b (p + 8) 8 = B := ⟨_, rfl⟩
  obtain ⟨C, hC⟩ : ∃ C, gN b (p + 16) 8 = C := ⟨_, rfl⟩
  obtain ⟨K, hK⟩ : ∃ K, gN b (p + 24) 1 = K := ⟨_, rfl⟩
  obtain ⟨S, hS⟩ : ∃ S, gN b (p + 25) 8 = S := ⟨_, rfl⟩
  obtain ⟨D, hD⟩ : ∃ D, gN b (p + 33) 8 = D := ⟨_, rfl⟩
  obtain ⟨st, hst⟩ : ∃ st, IntKind.i64.wrap (S : Int) = st := ⟨_, rfl⟩
  obtain ⟨du, hdu⟩ : ∃ du, IntKind.i64.wrap (D : Int) = du := ⟨_, rfl⟩
  obtain ⟨o1, ho1⟩ : ∃ o, getT b ((p + 41 : Nat) : Int) = o := ⟨_, rfl⟩
  obtain ⟨o2, ho2⟩ : ∃ o, getT b ((p + 58 : Nat) : Int) = o := ⟨_, rfl⟩
  have hKl : K < 256 := by rw [← hK]; exact gN_lt b (p + 24) 1
  have hKw : IntKind.u8.wrap (K : Int) = (K : Int) := IntWalk.u8_in _ ⟨by omega, by omega⟩
  have HF : Hid (spanAt b p = spanRes o1 o2 fun h n => ⟨A, B, C, K, h, n, st, du⟩) := by
    show _ = _
    rw [spanAt_res, ho1, ho2, hA, hB, hC, hK, hS, hD, hst, hdu]
  have HA := Lib.hid hA; have HB := Lib.hid hB; have HC' := Lib.hid hC; have HK := Lib.hid hK; have HS := Lib.hid hS; have HD := Lib.hid hD; have HO1 := Lib.hid ho1; have HO2 := Lib.hid ho2
  clear hA hB hC hK hS hD ho1 ho2
  unfold Sp.c at hv
  go_enter Try.func36, Try.ntmps36
  go_wp2_with fail
  rw [← hv]
  clear hv
  refine (partsFrom_is a b.length c (p : Int) v).mono ?_; rintro e v1 ⟨rfl, rfl⟩
  go_wp2_with fail
  refine (number3 v _ _ _ rfl rfl a c b p 8 HR.out hl rfl (by omega) (by omega) A HA.out).mono ?_; rintro e w1 ⟨rfl, rfl⟩
  go_wp2_with fail
  refine (number3 v _ _ _ rfl rfl a c b (p + 8) 8 HR.out hl rfl (by omega) (by omega) B HB.out).mono ?_; rintro e w1 ⟨rfl, rfl⟩
  go_wp2_with fail
  refine (number3 v _ _ _ rfl rfl a c b (p + 8 + 8) 8 HR.out hl rfl (by omega) (by omega) C HC'.out).mono ?_; rintro e w1 ⟨rfl, rfl⟩
  go_wp2_with fail
  refine (number3 v _ _ _ rfl rfl a c b (p + 8 + 8 + 8) 1 HR.out hl rfl (by omega) (by omega) K HK.out).mono ?_; rintro e w1 ⟨rfl, rfl⟩
  go_wp2_with fail
  refine (number3 v _ _ _ rfl rfl a c b (p + 8 + 8 + 8 + 1) 8 HR.out hl rfl (by omega) (by omega) S HS.out).mono ?_; rintro e w1 ⟨rfl, rfl⟩
  go_wp2_with fail
  refine (number3 v _ _ _ rfl rfl a c b (p + 8 + 8 + 8 + 1 + 8) 8 HR.out hl rfl (by omega) (by omega) D HD.out).mono ?_; rintro e w1 ⟨rfl, rfl⟩
  go_wp2_with fail
  refine (text3 v _ _ _ rfl rfl a c b (p + 8 + 8 + 8 + 1 + 8 + 8) HR.out hl hlc HC.out (by omega) o1 HO1.out).mono ?_; rintro e w1 ⟨rfl, rfl⟩
  go_wp2_with fail
  refine (text3 v _ _ _ rfl rfl a c b (p + 8 + 8 + 8 + 1 + 8 + 8 + 17) HR.out hl hlc HC.out (by omega) o2 HO2.out).mono ?_; rintro e w1 ⟨rfl, rfl⟩
  cases o1 with
  | none =>
    go_wp2_with (refine wpList_store_mid rfl 54 (.tmp 4) (.tmp 56) rfl w.heap.size 0 (⟨0, 0, 0, 0, ⟨#[]⟩, ⟨#[]⟩, 0, 0⟩ : Sp).c rfl rfl (World.there_alloc (World.there_alloc (World.there_alloc HTV.out _) _) _) size_sp (sp_one _) ?_)
    refine bodyPost_ret (v := .tuple #[(⟨0, 0, 0, 0, ⟨#[]⟩, ⟨#[]⟩, 0, 0⟩ : Sp).v, .int .i64 3]) (results_cell_two (p := 4) (u := 5) (ty := 54) (b := w.heap.size) (x := .int .i64 3) ?_ ?_ ?_ ?_) rfl ?_
    · rfl
    · rfl
    · rfl
    · exact load_set _ (⟨0, 0, 0, 0, ⟨#[]⟩, ⟨#[]⟩, 0, 0⟩ : Sp) _ (World.there_alloc (World.there_alloc (World.there_alloc HTV.out _) _) _)
    · rw [HF.out]; exact .inr ⟨3, _, rfl, rfl, Below_setCells (Nat.le_refl _) _ 0 _ (((HBV.out.alloc (by have := HVS.out; omega) _).alloc (by have := HVS.out; simp; omega) _).alloc (by have := HVS.out; simp; omega) _)⟩
  | some H =>
    have tx1 : txt (some H) = bs H := rfl
    rw [tx1]
    clear tx1
    cases o2 with
    | none =>
      go_wp2_with (refine wpList_store_mid rfl 54 (.tmp 4) (.tmp 56) rfl w.heap.size 0 (⟨0, 0, 0, 0, ⟨#[]⟩, ⟨#[]⟩, 0, 0⟩ : Sp).c rfl rfl (World.there_alloc (World.there_alloc (World.there_alloc HTV.out _) _) _) size_sp (sp_one _) ?_)
      refine bodyPost_ret (v := .tuple #[(⟨0, 0, 0, 0, ⟨#[]⟩, ⟨#[]⟩, 0, 0⟩ : Sp).v, .int .i64 3]) (results_cell_two (p := 4) (u := 5) (ty := 54) (b := w.heap.size) (x := .int .i64 3) ?_ ?_ ?_ ?_) rfl ?_
      · rfl
      · rfl
      · rfl
      · exact load_set _ (⟨0, 0, 0, 0, ⟨#[]⟩, ⟨#[]⟩, 0, 0⟩ : Sp) _ (World.there_alloc (World.there_alloc (World.there_alloc HTV.out _) _) _)
      · rw [HF.out]; exact .inr ⟨3, _, rfl, rfl, Below_setCells (Nat.le_refl _) _ 0 _ (((HBV.out.alloc (by have := HVS.out; omega) _).alloc (by have := HVS.out; simp; omega) _).alloc (by have := HVS.out; simp; omega) _)⟩
    | some M =>
      have tx2 : txt (some M) = bs M := rfl
      rw [tx2]
      clear tx2
      obtain ⟨X, hX⟩ : ∃ X : Sp, X = ⟨A, B, C, K, bs H, bs M, st, du⟩ := ⟨_, rfl⟩
      have hH := (getT_back (l := b) (h := H) (p := p + 41) (by omega) HO1.out).2
      have hM := (getT_back (l := b) (h := M) (p := p + 58) (by omega) HO2.out).2
      have HHs : Hid ((bs H).size ≤ maxLen) := by show _ ≤ _; rw [bs_size]; unfold maxLen; omega
      have HMs : Hid ((bs M).size ≤ maxLen) := by show _ ≤ _; rw [bs_size]; unfold maxLen; omega
      have HX := Lib.hid hX
      have HRES : Hid (spanAt b p = if mayB X = true then .ok X else .error 4) := by show _ = _; rw [HF.out, hX]; rfl
      clear hH hM hX
      obtain ⟨W, hW⟩ : ∃ W, W = (((v.alloc (.cells #[.slice a b.length c] 23)).alloc (.cells #[.int .i64 ((p : Int) + 8 + 8 + 8 + 1 + 8 + 8 + 17 + 17)] 3)).alloc (.cells (⟨A, B, C, K, bs H, bs M, st, du⟩ : Sp).c 54)) := ⟨_, rfl⟩
      have HWB : Hid (Below w.heap.size w W) := by show Below _ _ _; rw [hW]; exact ((HBV.out.alloc (by have := HVS.out; omega) _).alloc (by have := HVS.out; simp; omega) _).alloc (by have := HVS.out; simp; omega) _
      have HWT : Hid (W.there w.heap.size 0 8) := by show W.there _ _ _; rw [hW]; exact World.there_alloc (World.there_alloc (World.there_alloc HTV.out _) _) _
      have HWX : Hid (Box W (v.heap.size + 1 + 1) X) := by
        show Box _ _ _
        have h := Box.new (((v.alloc (.cells #[.slice a b.length c] 23)).alloc (.cells #[.int .i64 ((p : Int) + 8 + 8 + 8 + 1 + 8 + 8 + 17 + 17)] 3))) X 54
        rw [World.size_alloc, World.size_alloc] at h
        rw [hW, ← HX.out]; exact h
      have HWS : Hid (W.heap.size = w.heap.size + 4) := by show _ = _; rw [hW]; have := HVS.out; simp; omega
      cases hm : mayB X with
      | false =>
        have HM := Lib.hid hm; rw [hm] at HRES; clear hm
        unfold Sp.c at hW
        go_wp2_with fail
        rw [← hW]
        clear hW
        refine (may_is (s := ⟨A, B, C, K, bs H, bs M, st, du⟩) (b := false) (by rw [← HX.out]; exact HM.out) W HHs.out HMs.out).mono ?_; rintro e w6 ⟨rfl, hb6⟩
        have HT6 := Lib.hid (there_below HWT.out hb6 (by rw [HWS.out]; omega))
        have HB6 := Lib.hid (Below_setCells (Nat.le_refl w.heap.size) (⟨0, 0, 0, 0, ⟨#[]⟩, ⟨#[]⟩, 0, 0⟩ : Sp).c.toList 0 _ (bel2 HWB.out hb6))
        clear hb6
        go_wp2_with (refine wpList_store_mid rfl 54 (.tmp 4) (.tmp 64) rfl w.heap.size 0 (⟨0, 0, 0, 0, ⟨#[]⟩, ⟨#[]⟩, 0, 0⟩ : Sp).c rfl rfl HT6.out size_sp (sp_one _) ?_)
        refine bodyPost_ret (v := .tuple #[(⟨0, 0, 0, 0, ⟨#[]⟩, ⟨#[]⟩, 0, 0⟩ : Sp).v, .int .i64 4]) (results_cell_two (p := 4) (u := 5) (ty := 54) (b := w.heap.size) (x := .int .i64 4) ?_ ?_ ?_ ?_) rfl ?_
        · rfl
        · rfl
        · rfl
        · exact load_set _ (⟨0, 0, 0, 0, ⟨#[]⟩, ⟨#[]⟩, 0, 0⟩ : Sp) _ HT6.out
        · exact (by rw [HRES.out]; exact .inr ⟨4, _, rfl, rfl, HB6.out⟩)
      | true =>
        have HM := Lib.hid hm; rw [hm] at HRES; clear hm
        unfold Sp.c at hW
        go_wp2_with fail
        rw [← hW]
        clear hW
        refine (may_is (s := ⟨A, B, C, K, bs H, bs M, st, du⟩) (b := true) (by rw [← HX.out]; exact HM.out) W HHs.out HMs.out).mono ?_; rintro e w6 ⟨rfl, hb6⟩
        have HT6 := Lib.hid (there_below HWT.out hb6 (by rw [HWS.out]; omega))
        have hbx := Box.below HWX.out hb6 (by rw [HWS.out]; have := HVS.out; omega)
        rw [HX.out] at hbx
        obtain ⟨d0, d1, d2, d3, d4, d5, d6, d7⟩ := hbx.all
        have HB6 := Lib.hid (Below_setCells (Nat.le_refl w.heap.size) (⟨A, B, C, K, bs H, bs M, st, du⟩ : Sp).c.toList 0 _ (bel2 HWB.out hb6))
        clear hb6 hbx
        go_wp2_with (refine wpList_store_mid rfl 54 (.tmp 4) (.tmp 65) rfl w.heap.size 0 (⟨A, B, C, K, bs H, bs M, st, du⟩ : Sp).c rfl rfl HT6.out size_sp (sp_one _) ?_)
        refine bodyPost_ret (v := .tuple #[(⟨A, B, C, K, bs H, bs M, st, du⟩ : Sp).v, .int .i64 0]) (results_cell_two (p := 4) (u := 5) (ty := 54) (b := w.heap.size) (x := .int .i64 0) ?_ ?_ ?_ ?_) rfl ?_
        · rfl
        · rfl
        · rfl
        · exact load_set _ (⟨A, B, C, K, bs H, bs M, st, du⟩ : Sp) _ HT6.out
        · exact (by rw [HRES.out]; exact .inl ⟨X, rfl, by rw [HX.out], HB6.out⟩)
end Go.Proofs.Ytkaafjcfcknbpaa

