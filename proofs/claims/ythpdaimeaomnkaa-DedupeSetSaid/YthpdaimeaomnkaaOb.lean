import Derived.Test.YthpdaimeaomnkaaOa
import Derived.Test.YthpdaimeaomnkaaSe
namespace Go.Proofs.Ythpdaimeaomnkaa
open Go.RowKit Go.Sort
set_option maxHeartbeats 400000 in
theorem cmp34 (x y : Int) (w : World) : Calls Try.prog 45 #[.int .i64 x, .int .i64 y] w fun e w' => e = .returned (.int .i64 (c3 x y)) ∧ w = w' := by
  rcases Int.lt_trichotomy x y with h | h | h
  · go_enter Try.func45, Try.ntmps45
    go_wp2
    go_ret
    exact ⟨ret_i64 (c3_lt h).symm, rfl⟩
  · subst h
    go_enter Try.func45, Try.ntmps45
    go_wp2
    go_ret
    exact ⟨ret_i64 (c3_eq _).symm, rfl⟩
  · go_enter Try.func45, Try.ntmps45
    go_wp2
    go_ret
    exact ⟨ret_i64 (c3_gt h).symm, rfl⟩
set_option maxHeartbeats 400000 in
theorem cmp35 (x y : Int) (w : World) : Calls Try.prog 46 #[.int .u64 x, .int .u64 y] w fun e w' => e = .returned (.int .i64 (c3 x y)) ∧ w = w' := by
  rcases Int.lt_trichotomy x y with h | h | h
  · go_enter Try.func46, Try.ntmps46
    go_wp2
    go_ret
    exact ⟨ret_i64 (c3_lt h).symm, rfl⟩
  · subst h
    go_enter Try.func46, Try.ntmps46
    go_wp2
    go_ret
    exact ⟨ret_i64 (c3_eq _).symm, rfl⟩
  · go_enter Try.func46, Try.ntmps46
    go_wp2
    go_ret
    exact ⟨ret_i64 (c3_gt h).symm, rfl⟩
set_option maxHeartbeats 400000 in
theorem cmp36 (x y : Int) (w : World) : Calls Try.prog 47 #[.int .u8 x, .int .u8 y] w fun e w' => e = .returned (.int .i64 (c3 x y)) ∧ w = w' := by
  rcases Int.lt_trichotomy x y with h | h | h
  · go_enter Try.func47, Try.ntmps47
    go_wp2
    go_ret
    exact ⟨ret_i64 (c3_lt h).symm, rfl⟩
  · subst h
    go_enter Try.func47, Try.ntmps47
    go_wp2
    go_ret
    exact ⟨ret_i64 (c3_eq _).symm, rfl⟩
  · go_enter Try.func47, Try.ntmps47
    go_wp2
    go_ret
    exact ⟨ret_i64 (c3_gt h).symm, rfl⟩
set_option maxHeartbeats 400000 in
theorem cmp37 (x y : ByteArray) (w : World) : Calls Try.prog 48 #[.string x, .string y] w fun e w' => e = .returned (.int .i64 (lexS x y)) ∧ w = w' := by
  rcases (show lexS x y = -1 ∨ lexS x y = 0 ∨ lexS x y = 1 from lexI_vals _ _) with h | h | h
  · have h1 := lexS_lt h
    rw [h]; clear h
    go_enter Try.func48, Try.ntmps48
    go_wp2
    go_ret
    exact ⟨rfl, rfl⟩
  · have h1 := lexS_nlt (x := x) (y := y) (by omega)
    have h2 := lexS_eq h
    rw [h]; clear h
    go_enter Try.func48, Try.ntmps48
    go_wp2
    go_ret
    exact ⟨rfl, rfl⟩
  · have h1 := lexS_nlt (x := x) (y := y) (by omega)
    have h2 := lexS_ne (x := x) (y := y) (by omega)
    rw [h]; clear h
    go_enter Try.func48, Try.ntmps48
    go_wp2
    go_ret
    exact ⟨rfl, rfl⟩

def fieldFn : Nat → FuncId
  | 0 => 31
  | 1 => 32
  | 2 => 33
  | 3 => 34
  | 4 => 35
  | 5 => 36
  | 6 => 37
  | _ => 38
/-- Blocks are laid, nothing else. -/
def Lay (w w' : World) : Prop := RowKit.Below w.heap.size w w' ∧ w'.drawn = w.drawn
theorem Lay.trans {a b c : World} (h : Lay a b) (k : Lay b c) : Lay a c := ⟨h.1.trans (k.1.mono h.1.size), k.2.trans h.2⟩
theorem Lay.grow {w w' : World} (h : Lay w w') : ∃ os, w' = grow w os := by
  obtain ⟨⟨d, os⟩, hw⟩ := regrown_of_below h.1
  refine ⟨os, ?_⟩
  have : d = w.drawn := by rw [← h.2, hw]; rfl
  rw [hw, this]; rfl
theorem lay2 (w : World) (o1 o2 : Obj) : Lay w ((w.alloc o1).alloc o2) := ⟨((RowKit.Below.refl _ _).alloc (Nat.le_refl _) _).alloc (by simp) _, rfl⟩
theorem lay3 (w : World) (o1 o2 o3 : Obj) : Lay w (((w.alloc o1).alloc o2).alloc o3) := ⟨(((RowKit.Below.refl _ _).alloc (Nat.le_refl _) _).alloc (by simp) _).alloc (by simp; omega) _, rfl⟩

set_option maxHeartbeats 400000 in
theorem p23 (a b : Sp) (w : World) : Calls Try.prog 31 #[a.v, b.v] w fun e w' => e = .returned (.int .i64 (c3 a.start b.start)) ∧ Lay w w' := by
  unfold Sp.v
  go_enter Try.func31, Try.ntmps31
  go_wp2_with (go_at_call 45; refine (cmp34 _ _ _).mono ?_; rintro e w' ⟨rfl, rfl⟩)
  go_ret
  exact ⟨rfl, lay2 _ _ _⟩
set_option maxHeartbeats 400000 in
theorem p24 (a b : Sp) (w : World) : Calls Try.prog 32 #[a.v, b.v] w fun e w' => e = .returned (.int .i64 (c3 a.id b.id)) ∧ Lay w w' := by
  unfold Sp.v
  go_enter Try.func32, Try.ntmps32
  go_wp2_with (go_at_call 46; refine (cmp35 _ _ _).mono ?_; rintro e w' ⟨rfl, rfl⟩)
  go_ret
  exact ⟨rfl, lay2 _ _ _⟩
set_option maxHeartbeats 400000 in
theorem p25 (a b : Sp) (w : World) : Calls Try.prog 33 #[a.v, b.v] w fun e w' => e = .returned (.int .i64 (c3 a.parent b.parent)) ∧ Lay w w' := by
  unfold Sp.v
  go_enter Try.func33, Try.ntmps33
  go_wp2_with (go_at_call 46; refine (cmp35 _ _ _).mono ?_; rintro e w' ⟨rfl, rfl⟩)
  go_ret
  exact ⟨rfl, lay2 _ _ _⟩
set_option maxHeartbeats 400000 in
theorem p26 (a b : Sp) (w : World) : Calls Try.prog 34 #[a.v, b.v] w fun e w' => e = .returned (.int .i64 (c3 a.kind b.kind)) ∧ Lay w w' := by
  unfold Sp.v
  go_enter Try.func34, Try.ntmps34
  go_wp2_with (go_at_call 47; refine (cmp36 _ _ _).mono ?_; rintro e w' ⟨rfl, rfl⟩)
  go_ret
  exact ⟨rfl, lay2 _ _ _⟩
set_option maxHeartbeats 400000 in
theorem p27 (a b : Sp) (w : World) : Calls Try.prog 35 #[a.v, b.v] w fun e w' => e = .returned (.int .i64 (c3 a.dur b.dur)) ∧ Lay w w' := by
  unfold Sp.v
  go_enter Try.func35, Try.ntmps35
  go_wp2_with (go_at_call 45; refine (cmp34 _ _ _).mono ?_; rintro e w' ⟨rfl, rfl⟩)
  go_ret
  exact ⟨rfl, lay2 _ _ _⟩
set_option maxHeartbeats 400000 in
theorem p28 (a b : Sp) (w : World) : Calls Try.prog 36 #[a.v, b.v] w fun e w' => e = .returned (.int .i64 (lexS a.host b.host)) ∧ Lay w w' := by
  unfold Sp.v
  go_enter Try.func36, Try.ntmps36
  go_wp2_with (go_at_call 48; refine (cmp37 _ _ _).mono ?_; rintro e w' ⟨rfl, rfl⟩)
  go_ret
  exact ⟨rfl, lay2 _ _ _⟩
set_option maxHeartbeats 400000 in
theorem p29 (a b : Sp) (w : World) : Calls Try.prog 37 #[a.v, b.v] w fun e w' => e = .returned (.int .i64 (lexS a.name b.name)) ∧ Lay w w' := by
  unfold Sp.v
  go_enter Try.func37, Try.ntmps37
  go_wp2_with (go_at_call 48; refine (cmp37 _ _ _).mono ?_; rintro e w' ⟨rfl, rfl⟩)
  go_ret
  exact ⟨rfl, lay2 _ _ _⟩
set_option maxHeartbeats 400000 in
theorem p30 (a b : Sp) (w : World) : Calls Try.prog 38 #[a.v, b.v] w fun e w' => e = .returned (.int .i64 (c3 a.trace b.trace)) ∧ Lay w w' := by
  unfold Sp.v
  go_enter Try.func38, Try.ntmps38
  go_wp2_with (go_at_call 46; refine (cmp35 _ _ _).mono ?_; rintro e w' ⟨rfl, rfl⟩)
  go_ret
  exact ⟨rfl, lay2 _ _ _⟩

set_option maxHeartbeats 1000000 in
theorem firstUnlike_lay (a b : Sp) (k : Nat) (w : World) (hf : ∀ i, i < 8 → w.cell? ⟨k, i, none⟩ = some (.func (.func (fieldFn i)) #[] #[])) :
    Calls Try.prog 30 #[a.v, b.v, .slice (some ⟨k, 0, none⟩) 8 8] w fun e w' => e = .returned (.int .i64 (cmpI a b)) ∧ Lay w w' := by
  unfold Sp.v
  have hk : k < w.heap.size := by
    have h0 := hf 0 (by omega)
    exact block_lt_of_cell h0
  have HF := Lib.hid hf; clear hf
  go_enter Try.func30, Try.ntmps30
  go_wp2
  go_loopw [12] (fun i wr => ∃ n : Nat, n ≤ 8 ∧ i = .int .i64 n ∧ (∀ j < n, cmpAt a b j = 0) ∧ Lay w wr ∧ Box wr w.heap.size a ∧ Box wr (w.heap.size + 1) b) (fun i _ => 8 - (intOf i).toNat)
  case atStart => exact ⟨0, by omega, rfl, fun _ h => by omega, lay2 _ _ _, (Box.new w a 29).below ((RowKit.Below.refl (w.heap.size + 1) _).alloc (by simp) _) (by omega), by have := Box.new (w.alloc (.cells a.c 29)) b 29; simpa [Sp.c] using this⟩
  case round =>
    obtain ⟨n, hn, rfl, hz, hb, hA, hB⟩ := hrel
    have HZ := Lib.hid hz; clear hz
    have HB := Lib.hid hb; clear hb
    obtain ⟨a0, a1, a2, a3, a4, a5, a6, a7⟩ := hA.all
    obtain ⟨b0, b1, b2, b3, b4, b5, b6, b7⟩ := hB.all
    have HAA := Lib.hid hA; have HBB := Lib.hid hB; clear hA hB
    by_cases hlt : n < 8
    · have hcell : wr.cell? ⟨k, n, none⟩ = some (.func (.func (fieldFn n)) #[] #[]) := by
        rw [HB.out.1.cell (p := ⟨k, n, none⟩) hk]; exact HF.out n hlt
      rcases (show n = 0 ∨ n = 1 ∨ n = 2 ∨ n = 3 ∨ n = 4 ∨ n = 5 ∨ n = 6 ∨ n = 7 by omega) with rfl | rfl | rfl | rfl | rfl | rfl | rfl | rfl <;> simp only [fieldFn] at hcell
      · by_cases hx : c3 a.start b.start = 0
        · have HX : Hid (c3 a.start b.start = 0) := hx
          go_wp2_with (go_at_call 31; refine (p23 a b _).mono ?_; rintro e w' ⟨rfl, hb2⟩)
          go_roundw
          case rel => exact ⟨1, by omega, by go_num, fun j hj => by
            by_cases e : j = 0
            · subst e; exact HX.out
            · exact HZ.out j (by omega), HB.out.trans hb2, HAA.out.below hb2.1 HAA.out.1, HBB.out.below hb2.1 HBB.out.1⟩
          case measure => simp [intOf]
        · have hx1 : ((c3 a.start b.start) == 0) = false := by simpa using hx
          have hx2 : ((c3 a.start b.start) != 0) = true := by simpa using hx
          have HX := Lib.hid hx; clear hx
          go_wp2_with (go_at_call 31; refine (p23 a b _).mono ?_; rintro e w' ⟨rfl, hb2⟩)
          go_ret
          exact ⟨ret_i64 (firstNZ_at (cmpL a b) 0 HZ.out HX.out).symm, HB.out.trans hb2⟩
      · by_cases hx : c3 a.id b.id = 0
        · have HX : Hid (c3 a.id b.id = 0) := hx
          go_wp2_with (go_at_call 32; refine (p24 a b _).mono ?_; rintro e w' ⟨rfl, hb2⟩)
          go_roundw
          case rel => exact ⟨2, by omega, by go_num, fun j hj => by
            by_cases e : j = 1
            · subst e; exact HX.out
            · exact HZ.out j (by omega), HB.out.trans hb2, HAA.out.below hb2.1 HAA.out.1, HBB.out.below hb2.1 HBB.out.1⟩
          case measure => simp [intOf]
        · have hx1 : ((c3 a.id b.id) == 0) = false := by simpa using hx
          have hx2 : ((c3 a.id b.id) != 0) = true := by simpa using hx
          have HX := Lib.hid hx; clear hx
          go_wp2_with (go_at_call 32; refine (p24 a b _).mono ?_; rintro e w' ⟨rfl, hb2⟩)
          go_ret
          exact ⟨ret_i64 (firstNZ_at (cmpL a b) 1 HZ.out HX.out).symm, HB.out.trans hb2⟩
      · by_cases hx : c3 a.parent b.parent = 0
        · have HX : Hid (c3 a.parent b.parent = 0) := hx
          go_wp2_with (go_at_call 33; refine (p25 a b _).mono ?_; rintro e w' ⟨rfl, hb2⟩)
          go_roundw
          case rel => exact ⟨3, by omega, by go_num, fun j hj => by
            by_cases e : j = 2
            · subst e; exact HX.out
            · exact HZ.out j (by omega), HB.out.trans hb2, HAA.out.below hb2.1 HAA.out.1, HBB.out.below hb2.1 HBB.out.1⟩
          case measure => simp [intOf]
        · have hx1 : ((c3 a.parent b.parent) == 0) = false := by simpa using hx
          have hx2 : ((c3 a.parent b.parent) != 0) = true := by simpa using hx
          have HX := Lib.hid hx; clear hx
          go_wp2_with (go_at_call 33; refine (p25 a b _).mono ?_; rintro e w' ⟨rfl, hb2⟩)
          go_ret
          exact ⟨ret_i64 (firstNZ_at (cmpL a b) 2 HZ.out HX.out).symm, HB.out.trans hb2⟩
      · by_cases hx : c3 a.kind b.kind = 0
        · have HX : Hid (c3 a.kind b.kind = 0) := hx
          go_wp2_with (go_at_call 34; refine (p26 a b _).mono ?_; rintro e w' ⟨rfl, hb2⟩)
          go_roundw
          case rel => exact ⟨4, by omega, by go_num, fun j hj => by
            by_cases e : j = 3
            · subst e; exact HX.out
            · exact HZ.out j (by omega), HB.out.trans hb2, HAA.out.below hb2.1 HAA.out.1, HBB.out.below hb2.1 HBB.out.1⟩
          case measure => simp [intOf]
        · have hx1 : ((c3 a.kind b.kind) == 0) = false := by simpa using hx
          have hx2 : ((c3 a.kind b.kind) != 0) = true := by simpa using hx
          have HX := Lib.hid hx; clear hx
          go_wp2_with (go_at_call 34; refine (p26 a b _).mono ?_; rintro e w' ⟨rfl, hb2⟩)
          go_ret
          exact ⟨ret_i64 (firstNZ_at (cmpL a b) 3 HZ.out HX.out).symm, HB.out.trans hb2⟩
      · by_cases hx : c3 a.dur b.dur = 0
        · have HX : Hid (c3 a.dur b.dur = 0) := hx
          go_wp2_with (go_at_call 35; refine (p27 a b _).mono ?_; rintro e w' ⟨rfl, hb2⟩)
          go_roundw
          case rel => exact ⟨5, by omega, by go_num, fun j hj => by
            by_cases e : j = 4
            · subst e; exact HX.out
            · exact HZ.out j (by omega), HB.out.trans hb2, HAA.out.below hb2.1 HAA.out.1, HBB.out.below hb2.1 HBB.out.1⟩
          case measure => simp [intOf]
        · have hx1 : ((c3 a.dur b.dur) == 0) = false := by simpa using hx
          have hx2 : ((c3 a.dur b.dur) != 0) = true := by simpa using hx
          have HX := Lib.hid hx; clear hx
          go_wp2_with (go_at_call 35; refine (p27 a b _).mono ?_; rintro e w' ⟨rfl, hb2⟩)
          go_ret
          exact ⟨ret_i64 (firstNZ_at (cmpL a b) 4 HZ.out HX.out).symm, HB.out.trans hb2⟩
      · by_cases hx : lexS a.host b.host = 0
        · have HX : Hid (lexS a.host b.host = 0) := hx
          go_wp2_with (go_at_call 36; refine (p28 a b _).mono ?_; rintro e w' ⟨rfl, hb2⟩)
          go_roundw
          case rel => exact ⟨6, by omega, by go_num, fun j hj => by
            by_cases e : j = 5
            · subst e; exact HX.out
            · exact HZ.out j (by omega), HB.out.trans hb2, HAA.out.below hb2.1 HAA.out.1, HBB.out.below hb2.1 HBB.out.1⟩
          case measure => simp [intOf]
        · have hx1 : ((lexS a.host b.host) == 0) = false := by simpa using hx
          have hx2 : ((lexS a.host b.host) != 0) = true := by simpa using hx
          have HX := Lib.hid hx; clear hx
          go_wp2_with (go_at_call 36; refine (p28 a b _).mono ?_; rintro e w' ⟨rfl, hb2⟩)
          go_ret
          exact ⟨ret_i64 (firstNZ_at (cmpL a b) 5 HZ.out HX.out).symm, HB.out.trans hb2⟩
      · by_cases hx : lexS a.name b.name = 0
        · have HX : Hid (lexS a.name b.name = 0) := hx
          go_wp2_with (go_at_call 37; refine (p29 a b _).mono ?_; rintro e w' ⟨rfl, hb2⟩)
          go_roundw
          case rel => exact ⟨7, by omega, by go_num, fun j hj => by
            by_cases e : j = 6
            · subst e; exact HX.out
            · exact HZ.out j (by omega), HB.out.trans hb2, HAA.out.below hb2.1 HAA.out.1, HBB.out.below hb2.1 HBB.out.1⟩
          case measure => simp [intOf]
        · have hx1 : ((lexS a.name b.name) == 0) = false := by simpa using hx
          have hx2 : ((lexS a.name b.name) != 0) = true := by simpa using hx
          have HX := Lib.hid hx; clear hx
          go_wp2_with (go_at_call 37; refine (p29 a b _).mono ?_; rintro e w' ⟨rfl, hb2⟩)
          go_ret
          exact ⟨ret_i64 (firstNZ_at (cmpL a b) 6 HZ.out HX.out).symm, HB.out.trans hb2⟩
      · by_cases hx : c3 a.trace b.trace = 0
        · have HX : Hid (c3 a.trace b.trace = 0) := hx
          go_wp2_with (go_at_call 38; refine (p30 a b _).mono ?_; rintro e w' ⟨rfl, hb2⟩)
          go_roundw
          case rel => exact ⟨8, by omega, by go_num, fun j hj => by
            by_cases e : j = 7
            · subst e; exact HX.out
            · exact HZ.out j (by omega), HB.out.trans hb2, HAA.out.below hb2.1 HAA.out.1, HBB.out.below hb2.1 HBB.out.1⟩
          case measure => simp [intOf]
        · have hx1 : ((c3 a.trace b.trace) == 0) = false := by simpa using hx
          have hx2 : ((c3 a.trace b.trace) != 0) = true := by simpa using hx
          have HX := Lib.hid hx; clear hx
          go_wp2_with (go_at_call 38; refine (p30 a b _).mono ?_; rintro e w' ⟨rfl, hb2⟩)
          go_ret
          exact ⟨ret_i64 (firstNZ_at (cmpL a b) 7 HZ.out HX.out).symm, HB.out.trans hb2⟩
    · have : n = 8 := by omega
      subst this
      go_wp2
      go_ret
      exact ⟨ret_i64 (firstNZ_none (cmpL a b) HZ.out).symm, HB.out⟩

set_option maxHeartbeats 1000000 in
theorem cmp_lay (a b : Sp) (w : World) : Calls Try.prog 20 #[a.v, b.v] w fun e w' => e = .returned (.int .i64 (cmpI a b)) ∧ Lay w w' := by
  unfold Sp.v
  go_enter Try.func20, Try.ntmps20
  go_wp2_with fail
  refine (firstUnlike_lay a b _ _ ?_).mono ?_
  · intro i hi
    rcases (show i = 0 ∨ i = 1 ∨ i = 2 ∨ i = 3 ∨ i = 4 ∨ i = 5 ∨ i = 6 ∨ i = 7 by omega) with rfl | rfl | rfl | rfl | rfl | rfl | rfl | rfl <;> (rw [World.cell?_alloc_at] <;> simp [fieldFn])
  rintro e w' ⟨rfl, hb⟩
  go_wp2
  go_ret
  exact ⟨rfl, (lay3 _ _ _ _).trans hb⟩
theorem cmp_any (a b : Sp) (w : World) : Calls Try.prog 20 #[a.v, b.v] w fun e w' => e = .returned (.int .i64 (cmpI a b)) ∧ RowKit.Below w.heap.size w w' := (cmp_lay a b w).mono fun _ _ h => ⟨h.1, h.2.1⟩
end Go.Proofs.Ythpdaimeaomnkaa
