import Derived.Test.YtkaafjcfcknbpaaMb
namespace Go.Proofs.Ytkaafjcfcknbpaa
open Go Go.RowKit

/-! The head with which bytes begin, as the landed code reads it. -/
def hdV (n k : Nat) : Array Value := #[.int .u32 (n : Int), .int .i64 (k : Int)]
theorem hdV_one (n k : Nat) : (hdV n k).all (·.oneCell') = true := by simp [hdV, Value.oneCell']
theorem size_hd : (Try.prog.info? 64).map (·.size) = some 2 := by kernel_rfl
theorem load_hd (W : World) (b n k : Nat) (ht : W.there b 0 2) : (loadVar 64 ⟨b, 0, none⟩).run Try.prog (W.setCells b 0 (hdV n k).toList) = .ok (.agg (hdV n k)) (W.setCells b 0 (hdV n k).toList) :=
  run_loadVar_mid (P := Try.prog) _ b 0 64 _ _ (World.rangeAt_setCells_same W b 0 (hdV n k).toList ht) Try.underlying64 rfl size_hd
def hdOf : Except Nat (Nat × Nat) → Nat × Nat
  | .ok x => x
  | .error _ => (0, 0)
def hdErr : Except Nat (Nat × Nat) → Nat
  | .ok _ => 0
  | .error e => e
theorem headOf_short {b : List UInt8} (h : b.length < 14) : headOf b = .error 2 := if_pos h
theorem headOf_form {b : List UInt8} (h : ¬ b.length < 14) (h2 : b.take 4 ≠ let7) : headOf b = .error 3 := by unfold headOf; rw [if_neg h, if_pos h2]
theorem headOf_sum {b : List UInt8} (h : ¬ b.length < 14) (h2 : b.take 4 = let7) (h3 : moreL 0 (b.take 10) ≠ gN b 10 4) : headOf b = .error 8 := by unfold headOf; rw [if_neg h, if_neg (by simp [h2]), if_pos h3]
theorem headOf_keep {b : List UInt8} (h : ¬ b.length < 14) (h2 : b.take 4 = let7) (h3 : moreL 0 (b.take 10) = gN b 10 4) (h4 : gN b 8 2 = 0 ∨ 16 < gN b 8 2) : headOf b = .error 4 := by unfold headOf; rw [if_neg h, if_neg (by simp [h2]), if_neg (by simp [h3]), if_pos h4]
theorem headOf_ok {b : List UInt8} (h : ¬ b.length < 14) (h2 : b.take 4 = let7) (h3 : moreL 0 (b.take 10) = gN b 10 4) (h4 : ¬ (gN b 8 2 = 0 ∨ 16 < gN b 8 2)) : headOf b = .ok (gN b 4 4, gN b 8 2) := by unfold headOf; rw [if_neg h, if_neg (by simp [h2]), if_neg (by simp [h3]), if_neg h4]
def HeadOut (w : World) (r : Except Nat (Nat × Nat)) (e : Ending) (w' : World) : Prop :=
  e = .returned (.tuple #[.agg (hdV (hdOf r).1 (hdOf r).2), .int .i64 (hdErr r : Nat)]) ∧ Below w.heap.size w w'
theorem HeadOut.no {w w' : World} {r : Except Nat (Nat × Nat)} {n : Nat} (h : r = .error n) (hb : Below w.heap.size w w') : HeadOut w r (.returned (.tuple #[.agg (hdV 0 0), .int .i64 (n : Int)])) w' := by
  subst h; exact ⟨rfl, hb⟩
theorem HeadOut.yes {w w' : World} {r : Except Nat (Nat × Nat)} {n k : Nat} (h : r = .ok (n, k)) (hb : Below w.heap.size w w') : HeadOut w r (.returned (.tuple #[.agg (hdV n k), .int .i64 0])) w' := by
  subst h; exact ⟨rfl, hb⟩
set_option maxRecDepth 20000 in
set_option maxHeartbeats 2000000 in
theorem headOf_any (a : Option Addr) (c : Nat) (b : List UInt8) (w : World) (hr : Rd w w.heap.size a (bV b)) (hl : b.length ≤ 1000000000000) (hlc : b.length ≤ c) (hc : c ≤ maxLen) :
    Calls Try.prog 22 #[.slice a b.length c] w (HeadOut w (headOf b)) := by
  unfold maxLen at hc
  obtain ⟨v, hv⟩ : ∃ v, v = w.alloc (.cells (hdV 0 0) 64) := ⟨_, rfl⟩
  have HBV : Hid (Below w.heap.size w v) := by show Below _ _ _; rw [hv]; exact box1 _ _
  have HVS : Hid (v.heap.size = w.heap.size + 1) := by show _ = _; rw [hv]; simp
  have HTV : Hid (v.there w.heap.size 0 2) := by show v.there _ _ _; rw [hv]; exact there_last _ _ _ _ _ rfl rfl
  have HR : Hid (Rd v v.heap.size a (bV b)) := by show Rd _ _ _ _; exact (hr.below HBV.out).more HBV.out.size
  have HV := Lib.hid hv
  clear hr
  replace hv : v = w.alloc (.cells #[.int .u32 0, .int .i64 0] 64) := hv
  by_cases h14 : b.length < 14
  · have HE := Lib.hid (headOf_short h14)
    go_enter Try.func22, Try.ntmps22
    go_wp2_with fail
    refine bodyPost_ret (v := .tuple #[.agg (hdV 0 0), .int .i64 2]) (results_cell_two (p := 2) (u := 3) (ty := 64) (b := w.heap.size) (x := .int .i64 2) rfl rfl rfl (run_loadVar_mid (P := Try.prog) _ w.heap.size 0 64 _ _ (rangeAt_last _ _ _ _ rfl) Try.underlying64 rfl size_hd)) rfl ?_
    exact HeadOut.no HE.out (box1 _ _)
  have e4 : (ByteArray.mk #[83, 69, 71, 49]).toList = [83, 69, 71, 49] := by rw [ByteArray.toList_eq]
  have hcv := run_string_of (w := v) (l := b.take 4) 4 c (by rw [bV_take]; exact HR.out.take 4) (by rw [List.length_take]; omega)
  have i1 : (4 : Int) ≤ (c : Int) := by omega
  have i2 : (10 : Int) ≤ (c : Int) := by omega
  obtain ⟨N, hN⟩ : ∃ N, gN b 4 4 = N := ⟨_, rfl⟩
  obtain ⟨K, hK⟩ : ∃ K, gN b 8 2 = K := ⟨_, rfl⟩
  obtain ⟨S, hS⟩ : ∃ S, gN b 10 4 = S := ⟨_, rfl⟩
  obtain ⟨T, hT⟩ : ∃ T, T = moreL 0 (b.take 10) := ⟨_, rfl⟩
  have hN32 : N < 4294967296 := by have := gN_lt b 4 4; omega
  have hK16 : K < 65536 := by have := gN_lt b 8 2; omega
  have hS32 : S < 4294967296 := by have := gN_lt b 10 4; omega
  have hT32 : T < 4294967296 := by rw [hT]; exact moreL_lt _ _
  have hw1 : IntKind.u32.wrap (N : Int) = (N : Int) := IntWalk.u32_in _ ⟨by omega, by omega⟩
  have hw2 : IntKind.i64.wrap (K : Int) = (K : Int) := i64_small (by omega)
  have HN := Lib.hid hN; have HK := Lib.hid hK; have HS := Lib.hid hS; have HT := Lib.hid hT
  have HR10 : Hid (Rd v v.heap.size a (bV (b.take 10))) := by show Rd _ _ _ _; rw [bV_take]; exact HR.out.take 10
  by_cases h4 : b.take 4 = let7
  case neg =>
    have HE := Lib.hid (headOf_form h14 h4)
    obtain ⟨t1, t2⟩ := str_eq (x := bs (b.take 4)) (y := ByteArray.mk #[83, 69, 71, 49]) (b := false) (by
      have : ¬ bs (b.take 4) = ByteArray.mk #[83, 69, 71, 49] := fun e => h4 (bs_inj e)
      simp [this])
    have t3 : ((bs (b.take 4)).toList != [83, 69, 71, 49]) = true := by rw [bne, ← e4, t1]; rfl
    rw [e4] at t1
    clear t2 e4
    clear h4 hN hK hS hT
    generalize b.take 4 = B4 at hcv t1 t3
    go_enter Try.func22, Try.ntmps22
    go_wp2_with fail
    rw [← hv]
    clear hv
    refine (get_is a c b 4 4 _ HR.out hl rfl (by omega) (by omega) N HN.out).mono ?_; rintro e w2 ⟨rfl, rfl⟩
    go_wp2_with fail
    refine (get_is a c b 8 2 _ HR.out hl rfl (by omega) (by omega) K HK.out).mono ?_; rintro e w2 ⟨rfl, rfl⟩
    go_wp2_with fail
    refine (get_is a c b 10 4 _ HR.out hl rfl (by omega) (by omega) S HS.out).mono ?_; rintro e w2 ⟨rfl, rfl⟩
    go_wp2_with (refine wpList_store_mid rfl 64 (.tmp 2) (.tmp 34) rfl w.heap.size 0 (hdV 0 0) rfl rfl HTV.out size_hd (hdV_one _ _) ?_)
    refine bodyPost_ret (v := .tuple #[.agg (hdV 0 0), .int .i64 3]) (results_cell_two (p := 2) (u := 3) (ty := 64) (b := w.heap.size) (x := .int .i64 3) rfl rfl rfl (load_hd _ _ _ _ HTV.out)) rfl ?_
    exact HeadOut.no HE.out (Below_setCells (Nat.le_refl _) _ _ _ HBV.out)
  obtain ⟨t1, t2⟩ := str_eq (x := bs (b.take 4)) (y := ByteArray.mk #[83, 69, 71, 49]) (b := true) (by rw [h4]; decide)
  have t3 : ((bs (b.take 4)).toList != [83, 69, 71, 49]) = false := by rw [bne, ← e4, t1]; rfl
  rw [e4] at t1
  clear t2 e4
  by_cases h8 : T = S
  case neg =>
    have HE := Lib.hid (headOf_sum h14 h4 (by rw [← hT, hS]; exact h8))
    have hne : ((T : Int) != (S : Int)) = true := by simp; omega
    clear h4 hN hK hS hT h8
    generalize b.take 4 = B4 at hcv t1 t3
    go_enter Try.func22, Try.ntmps22
    go_wp2_with fail
    rw [← hv]
    clear hv
    refine (get_is a c b 4 4 _ HR.out hl rfl (by omega) (by omega) N HN.out).mono ?_; rintro e w2 ⟨rfl, rfl⟩
    go_wp2_with fail
    refine (get_is a c b 8 2 _ HR.out hl rfl (by omega) (by omega) K HK.out).mono ?_; rintro e w2 ⟨rfl, rfl⟩
    go_wp2_with fail
    refine (get_is a c b 10 4 _ HR.out hl rfl (by omega) (by omega) S HS.out).mono ?_; rintro e w2 ⟨rfl, rfl⟩
    go_wp2_with fail
    refine (sumOf7_is a 10 c (b.take 10) _ (by rw [List.length_take]; omega) T HT.out HR10.out (by rw [List.length_take]; omega)).mono ?_; rintro e w3 ⟨rfl, hb3⟩
    have HB3 := Lib.hid (HBV.out.trans (hb3.mono HBV.out.size))
    have HT3 := Lib.hid (there_below HTV.out hb3 (by rw [HVS.out]; omega))
    clear hb3
    go_wp2_with (refine wpList_store_mid rfl 64 (.tmp 2) (.tmp 41) rfl w.heap.size 0 (hdV 0 0) rfl rfl HT3.out size_hd (hdV_one _ _) ?_)
    refine bodyPost_ret (v := .tuple #[.agg (hdV 0 0), .int .i64 8]) (results_cell_two (p := 2) (u := 3) (ty := 64) (b := w.heap.size) (x := .int .i64 8) rfl rfl rfl (load_hd _ _ _ _ HT3.out)) rfl ?_
    exact HeadOut.no HE.out (Below_setCells (Nat.le_refl _) _ _ _ HB3.out)
  subst h8
  by_cases hk : K = 0 ∨ 16 < K
  · have HE := Lib.hid (headOf_keep h14 h4 (by rw [← hT, hS]) (by rw [hK]; exact hk))
    have HKM : Hid ((decide ((1 : Int) ≤ (K : Int)) && decide ((K : Int) ≤ 16)) = false) := by
      show _ = _
      by_cases h1 : 1 ≤ K
      · simp; omega
      · simp; omega
    clear h4 hN hK hS hT hk
    generalize b.take 4 = B4 at hcv t1 t3
    go_enter Try.func22, Try.ntmps22
    go_wp2_with fail
    rw [← hv]
    clear hv
    refine (get_is a c b 4 4 _ HR.out hl rfl (by omega) (by omega) N HN.out).mono ?_; rintro e w2 ⟨rfl, rfl⟩
    go_wp2_with fail
    refine (get_is a c b 8 2 _ HR.out hl rfl (by omega) (by omega) K HK.out).mono ?_; rintro e w2 ⟨rfl, rfl⟩
    go_wp2_with fail
    refine (get_is a c b 10 4 _ HR.out hl rfl (by omega) (by omega) T HS.out).mono ?_; rintro e w2 ⟨rfl, rfl⟩
    go_wp2_with fail
    refine (sumOf7_is a 10 c (b.take 10) _ (by rw [List.length_take]; omega) T HT.out HR10.out (by rw [List.length_take]; omega)).mono ?_; rintro e w3 ⟨rfl, hb3⟩
    have HB3 := Lib.hid (HBV.out.trans (hb3.mono HBV.out.size))
    have HT3 := Lib.hid (there_below HTV.out hb3 (by rw [HVS.out]; omega))
    clear hb3
    go_wp2_with fail
    refine (keepMay_is K false HKM.out _).mono ?_; rintro e w4 ⟨rfl, rfl⟩
    go_wp2_with (refine wpList_store_mid rfl 64 (.tmp 2) (.tmp 47) rfl w.heap.size 0 (hdV 0 0) rfl rfl HT3.out size_hd (hdV_one _ _) ?_)
    refine bodyPost_ret (v := .tuple #[.agg (hdV 0 0), .int .i64 4]) (results_cell_two (p := 2) (u := 3) (ty := 64) (b := w.heap.size) (x := .int .i64 4) rfl rfl rfl (load_hd _ _ _ _ HT3.out)) rfl ?_
    exact HeadOut.no HE.out (Below_setCells (Nat.le_refl _) _ _ _ HB3.out)
  · have HE := Lib.hid (headOf_ok h14 h4 (by rw [← hT, hS]) (by rw [hK]; exact hk))
    rw [hN, hK] at HE
    have HKM : Hid ((decide ((1 : Int) ≤ (K : Int)) && decide ((K : Int) ≤ 16)) = true) := by show _ = _; simp; omega
    clear h4 hN hK hS hT hk
    generalize b.take 4 = B4 at hcv t1 t3
    go_enter Try.func22, Try.ntmps22
    go_wp2_with fail
    rw [← hv]
    clear hv
    refine (get_is a c b 4 4 _ HR.out hl rfl (by omega) (by omega) N HN.out).mono ?_; rintro e w2 ⟨rfl, rfl⟩
    go_wp2_with fail
    refine (get_is a c b 8 2 _ HR.out hl rfl (by omega) (by omega) K HK.out).mono ?_; rintro e w2 ⟨rfl, rfl⟩
    go_wp2_with fail
    refine (get_is a c b 10 4 _ HR.out hl rfl (by omega) (by omega) T HS.out).mono ?_; rintro e w2 ⟨rfl, rfl⟩
    go_wp2_with fail
    refine (sumOf7_is a 10 c (b.take 10) _ (by rw [List.length_take]; omega) T HT.out HR10.out (by rw [List.length_take]; omega)).mono ?_; rintro e w3 ⟨rfl, hb3⟩
    have HB3 := Lib.hid (HBV.out.trans (hb3.mono HBV.out.size))
    have HT3 := Lib.hid (there_below HTV.out hb3 (by rw [HVS.out]; omega))
    clear hb3
    go_wp2_with fail
    refine (keepMay_is K true HKM.out _).mono ?_; rintro e w4 ⟨rfl, rfl⟩
    go_wp2_with (refine wpList_store_mid rfl 64 (.tmp 2) (.tmp 52) rfl w.heap.size 0 (hdV N K) rfl rfl HT3.out size_hd (hdV_one _ _) ?_)
    refine bodyPost_ret (v := .tuple #[.agg (hdV N K), .int .i64 0]) (results_cell_two (p := 2) (u := 3) (ty := 64) (b := w.heap.size) (x := .int .i64 0) rfl rfl rfl (load_hd _ _ _ _ HT3.out)) rfl ?_
    exact HeadOut.yes HE.out (Below_setCells (Nat.le_refl _) _ _ _ HB3.out)
end Go.Proofs.Ytkaafjcfcknbpaa
