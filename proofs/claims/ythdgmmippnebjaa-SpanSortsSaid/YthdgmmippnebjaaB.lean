import Derived.Test.YthdgmmippnebjaaA
namespace Go.Proofs.Ythdgmmippnebjaa
open Go.RowKit

def c3 (x y : Int) : Int := if x < y then -1 else if y < x then 1 else 0
theorem c3_lt {x y : Int} (h : x < y) : c3 x y = -1 := by simp [c3, h]
theorem c3_gt {x y : Int} (h : y < x) : c3 x y = 1 := by unfold c3; rw [if_neg (by omega), if_pos h]
theorem c3_eq (x : Int) : c3 x x = 0 := by simp [c3]
theorem ret_i64 {a b : Int} (h : a = b) : Ending.returned (.int .i64 a) = .returned (.int .i64 b) := by rw [h]

def lexI : List UInt8 → List UInt8 → Int
  | [], [] => 0
  | [], _ :: _ => -1
  | _ :: _, [] => 1
  | a :: x, b :: y => if a < b then -1 else if b < a then 1 else lexI x y

theorem lexI_refl : ∀ a : List UInt8, lexI a a = 0
  | [] => rfl
  | a :: x => by simp [lexI, lexI_refl x, UInt8.lt_irrefl]
theorem lexI_zero : ∀ a b : List UInt8, lexI a b = 0 → a = b
  | [], [], _ => rfl
  | [], _ :: _, h => by simp [lexI] at h
  | _ :: _, [], h => by simp [lexI] at h
  | a :: x, b :: y, h => by
    simp only [lexI] at h
    split at h
    · simp at h
    split at h
    · simp at h
    rename_i h1 h2
    have := lexI_zero x y h
    have : a = b := UInt8.le_antisymm (UInt8.not_lt.1 h2) (UInt8.not_lt.1 h1)
    simp_all
theorem lexI_less : ∀ a b : List UInt8, Op.bytesLess a b = decide (lexI a b = -1)
  | [], [] => by simp [Op.bytesLess, lexI]
  | [], _ :: _ => by simp [Op.bytesLess, lexI]
  | _ :: _, [] => by simp [Op.bytesLess, lexI]
  | a :: x, b :: y => by
    have ih := lexI_less x y
    simp only [Op.bytesLess, lexI, ih]
    by_cases h1 : a < b
    · simp [h1]
    by_cases h2 : b < a
    · have : ¬ a = b := fun e => by subst e; exact UInt8.lt_irrefl _ h2
      simp [h1, h2, this]
    · have : a = b := UInt8.le_antisymm (UInt8.not_lt.1 h2) (UInt8.not_lt.1 h1)
      simp [this, UInt8.lt_irrefl]
theorem lexI_vals : ∀ a b : List UInt8, lexI a b = -1 ∨ lexI a b = 0 ∨ lexI a b = 1
  | [], [] => by simp [lexI]
  | [], _ :: _ => by simp [lexI]
  | _ :: _, [] => by simp [lexI]
  | a :: x, b :: y => by
    simp only [lexI]
    split
    · simp
    split
    · simp
    · exact lexI_vals x y

set_option maxHeartbeats 400000 in
theorem cmp34 (x y : Int) (w : World) : Calls Try.prog 34 #[.int .i64 x, .int .i64 y] w fun e w' => e = .returned (.int .i64 (c3 x y)) ∧ w = w' := by
  rcases Int.lt_trichotomy x y with h | h | h
  · go_enter Try.func34, Try.ntmps34
    go_wp2
    go_ret
    exact ⟨ret_i64 (c3_lt h).symm, rfl⟩
  · subst h
    go_enter Try.func34, Try.ntmps34
    go_wp2
    go_ret
    exact ⟨ret_i64 (c3_eq _).symm, rfl⟩
  · go_enter Try.func34, Try.ntmps34
    go_wp2
    go_ret
    exact ⟨ret_i64 (c3_gt h).symm, rfl⟩
set_option maxHeartbeats 400000 in
theorem cmp35 (x y : Int) (w : World) : Calls Try.prog 35 #[.int .u64 x, .int .u64 y] w fun e w' => e = .returned (.int .i64 (c3 x y)) ∧ w = w' := by
  rcases Int.lt_trichotomy x y with h | h | h
  · go_enter Try.func35, Try.ntmps35
    go_wp2
    go_ret
    exact ⟨ret_i64 (c3_lt h).symm, rfl⟩
  · subst h
    go_enter Try.func35, Try.ntmps35
    go_wp2
    go_ret
    exact ⟨ret_i64 (c3_eq _).symm, rfl⟩
  · go_enter Try.func35, Try.ntmps35
    go_wp2
    go_ret
    exact ⟨ret_i64 (c3_gt h).symm, rfl⟩
set_option maxHeartbeats 400000 in
theorem cmp36 (x y : Int) (w : World) : Calls Try.prog 36 #[.int .u8 x, .int .u8 y] w fun e w' => e = .returned (.int .i64 (c3 x y)) ∧ w = w' := by
  rcases Int.lt_trichotomy x y with h | h | h
  · go_enter Try.func36, Try.ntmps36
    go_wp2
    go_ret
    exact ⟨ret_i64 (c3_lt h).symm, rfl⟩
  · subst h
    go_enter Try.func36, Try.ntmps36
    go_wp2
    go_ret
    exact ⟨ret_i64 (c3_eq _).symm, rfl⟩
  · go_enter Try.func36, Try.ntmps36
    go_wp2
    go_ret
    exact ⟨ret_i64 (c3_gt h).symm, rfl⟩
def lexS (x y : ByteArray) : Int := lexI x.data.toList y.data.toList
theorem lexS_lt {x y : ByteArray} (h : lexS x y = -1) : Op.bytesLess x.toList y.toList = true := by
  rw [ByteArray.toList_eq, ByteArray.toList_eq, lexI_less]; simpa [lexS] using h
theorem lexS_nlt {x y : ByteArray} (h : lexS x y ≠ -1) : Op.bytesLess x.toList y.toList = false := by
  rw [ByteArray.toList_eq, ByteArray.toList_eq, lexI_less]; simpa [lexS] using h
theorem lexS_eq {x y : ByteArray} (h : lexS x y = 0) : (x.toList == y.toList) = true := by
  rw [ByteArray.toList_eq, ByteArray.toList_eq, lexI_zero _ _ h]; simp
theorem lexS_ne {x y : ByteArray} (h : lexS x y ≠ 0) : (x.toList == y.toList) = false := by
  rw [ByteArray.toList_eq, ByteArray.toList_eq]
  rw [beq_eq_false_iff_ne]; intro e; apply h; unfold lexS; rw [e]; exact lexI_refl _
set_option maxHeartbeats 400000 in
theorem cmp37 (x y : ByteArray) (w : World) : Calls Try.prog 37 #[.string x, .string y] w fun e w' => e = .returned (.int .i64 (lexS x y)) ∧ w = w' := by
  rcases (show lexS x y = -1 ∨ lexS x y = 0 ∨ lexS x y = 1 from lexI_vals _ _) with h | h | h
  · have h1 := lexS_lt h
    rw [h]; clear h
    go_enter Try.func37, Try.ntmps37
    go_wp2
    go_ret
    exact ⟨rfl, rfl⟩
  · have h1 := lexS_nlt (x := x) (y := y) (by omega)
    have h2 := lexS_eq h
    rw [h]; clear h
    go_enter Try.func37, Try.ntmps37
    go_wp2
    go_ret
    exact ⟨rfl, rfl⟩
  · have h1 := lexS_nlt (x := x) (y := y) (by omega)
    have h2 := lexS_ne (x := x) (y := y) (by omega)
    rw [h]; clear h
    go_enter Try.func37, Try.ntmps37
    go_wp2
    go_ret
    exact ⟨rfl, rfl⟩

structure Sp where
  trace : Int
  id : Int
  parent : Int
  kind : Int
  host : ByteArray
  name : ByteArray
  start : Int
  dur : Int
def Sp.c (s : Sp) : Array Value := #[.int .u64 s.trace, .int .u64 s.id, .int .u64 s.parent, .int .u8 s.kind, .string s.host, .string s.name, .int .i64 s.start, .int .i64 s.dur]
def Sp.v (s : Sp) : Value := .agg #[.int .u64 s.trace, .int .u64 s.id, .int .u64 s.parent, .int .u8 s.kind, .string s.host, .string s.name, .int .i64 s.start, .int .i64 s.dur]

set_option maxHeartbeats 400000 in
theorem f23 (a b : Sp) (w : World) : Calls Try.prog 23 #[a.v, b.v] w fun e w' => e = .returned (.int .i64 (c3 a.start b.start)) ∧ Below w.heap.size w w' := by
  unfold Sp.v
  go_enter Try.func23, Try.ntmps23
  go_wp2_with (go_at_call 34; refine (cmp34 _ _ _).mono ?_; rintro e w' ⟨rfl, rfl⟩)
  go_ret
  exact ⟨rfl, ((Below.refl _ _).alloc (Nat.le_refl _) _).alloc (by simp) _⟩
set_option maxHeartbeats 400000 in
theorem f28 (a b : Sp) (w : World) : Calls Try.prog 28 #[a.v, b.v] w fun e w' => e = .returned (.int .i64 (lexS a.host b.host)) ∧ Below w.heap.size w w' := by
  unfold Sp.v
  go_enter Try.func28, Try.ntmps28
  go_wp2_with (go_at_call 37; refine (cmp37 _ _ _).mono ?_; rintro e w' ⟨rfl, rfl⟩)
  go_ret
  exact ⟨rfl, ((Below.refl _ _).alloc (Nat.le_refl _) _).alloc (by simp) _⟩
set_option maxHeartbeats 400000 in
theorem f24 (a b : Sp) (w : World) : Calls Try.prog 24 #[a.v, b.v] w fun e w' => e = .returned (.int .i64 (c3 a.id b.id)) ∧ Below w.heap.size w w' := by
  unfold Sp.v
  go_enter Try.func24, Try.ntmps24
  go_wp2_with (go_at_call 35; refine (cmp35 _ _ _).mono ?_; rintro e w' ⟨rfl, rfl⟩)
  go_ret
  exact ⟨rfl, ((Below.refl _ _).alloc (Nat.le_refl _) _).alloc (by simp) _⟩
set_option maxHeartbeats 400000 in
theorem f25 (a b : Sp) (w : World) : Calls Try.prog 25 #[a.v, b.v] w fun e w' => e = .returned (.int .i64 (c3 a.parent b.parent)) ∧ Below w.heap.size w w' := by
  unfold Sp.v
  go_enter Try.func25, Try.ntmps25
  go_wp2_with (go_at_call 35; refine (cmp35 _ _ _).mono ?_; rintro e w' ⟨rfl, rfl⟩)
  go_ret
  exact ⟨rfl, ((Below.refl _ _).alloc (Nat.le_refl _) _).alloc (by simp) _⟩
set_option maxHeartbeats 400000 in
theorem f26 (a b : Sp) (w : World) : Calls Try.prog 26 #[a.v, b.v] w fun e w' => e = .returned (.int .i64 (c3 a.kind b.kind)) ∧ Below w.heap.size w w' := by
  unfold Sp.v
  go_enter Try.func26, Try.ntmps26
  go_wp2_with (go_at_call 36; refine (cmp36 _ _ _).mono ?_; rintro e w' ⟨rfl, rfl⟩)
  go_ret
  exact ⟨rfl, ((Below.refl _ _).alloc (Nat.le_refl _) _).alloc (by simp) _⟩
set_option maxHeartbeats 400000 in
theorem f27 (a b : Sp) (w : World) : Calls Try.prog 27 #[a.v, b.v] w fun e w' => e = .returned (.int .i64 (c3 a.dur b.dur)) ∧ Below w.heap.size w w' := by
  unfold Sp.v
  go_enter Try.func27, Try.ntmps27
  go_wp2_with (go_at_call 34; refine (cmp34 _ _ _).mono ?_; rintro e w' ⟨rfl, rfl⟩)
  go_ret
  exact ⟨rfl, ((Below.refl _ _).alloc (Nat.le_refl _) _).alloc (by simp) _⟩
set_option maxHeartbeats 400000 in
theorem f29 (a b : Sp) (w : World) : Calls Try.prog 29 #[a.v, b.v] w fun e w' => e = .returned (.int .i64 (lexS a.name b.name)) ∧ Below w.heap.size w w' := by
  unfold Sp.v
  go_enter Try.func29, Try.ntmps29
  go_wp2_with (go_at_call 37; refine (cmp37 _ _ _).mono ?_; rintro e w' ⟨rfl, rfl⟩)
  go_ret
  exact ⟨rfl, ((Below.refl _ _).alloc (Nat.le_refl _) _).alloc (by simp) _⟩
set_option maxHeartbeats 400000 in
theorem f30 (a b : Sp) (w : World) : Calls Try.prog 30 #[a.v, b.v] w fun e w' => e = .returned (.int .i64 (c3 a.trace b.trace)) ∧ Below w.heap.size w w' := by
  unfold Sp.v
  go_enter Try.func30, Try.ntmps30
  go_wp2_with (go_at_call 35; refine (cmp35 _ _ _).mono ?_; rintro e w' ⟨rfl, rfl⟩)
  go_ret
  exact ⟨rfl, ((Below.refl _ _).alloc (Nat.le_refl _) _).alloc (by simp) _⟩

def cmpL (a b : Sp) : List Int := [c3 a.start b.start, c3 a.id b.id, c3 a.parent b.parent, c3 a.kind b.kind, c3 a.dur b.dur, lexS a.host b.host, lexS a.name b.name, c3 a.trace b.trace]
def firstNZ : List Int → Int
  | [] => 0
  | x :: r => if x = 0 then firstNZ r else x
def cmpI (a b : Sp) : Int := firstNZ (cmpL a b)
/-- The value of the number i field. -/
def cmpAt (a b : Sp) (i : Nat) : Int := (cmpL a b).getD i 0
theorem firstNZ_at : ∀ (l : List Int) (i : Nat), (∀ j < i, l.getD j 0 = 0) → l.getD i 0 ≠ 0 → firstNZ l = l.getD i 0
  | [], i, _, h => by simp at h
  | x :: r, 0, _, h => by simp [firstNZ] at *; intro e; exact absurd e h
  | x :: r, i + 1, h0, h => by
    have hx : x = 0 := by simpa using h0 0 (by omega)
    simp only [firstNZ, hx, if_pos]
    have := firstNZ_at r i (fun j hj => by simpa using h0 (j + 1) (by omega)) (by simpa using h)
    simpa using this
theorem firstNZ_none : ∀ (l : List Int), (∀ j < l.length, l.getD j 0 = 0) → firstNZ l = 0
  | [], _ => rfl
  | x :: r, h => by
    have hx : x = 0 := by simpa using h 0 (by simp)
    simp only [firstNZ, hx, if_pos]
    exact firstNZ_none r fun j hj => by simpa using h (j + 1) (by simpa using hj)

def fieldFn (i : Nat) : FuncId := 23 + i
theorem field_any (i : Nat) (hi : i < 8) (a b : Sp) (w : World) : Calls Try.prog (23 + i) #[a.v, b.v] w fun e w' => e = .returned (.int .i64 (cmpAt a b i)) ∧ Below w.heap.size w w' := by
  match i, hi with
  | 0, _ => exact f23 a b w
  | 1, _ => exact f24 a b w
  | 2, _ => exact f25 a b w
  | 3, _ => exact f26 a b w
  | 4, _ => exact f27 a b w
  | 5, _ => exact f28 a b w
  | 6, _ => exact f29 a b w
  | 7, _ => exact f30 a b w

theorem bcell {W w1 : World} (hb : Below W.heap.size W w1) : (∀ b o, b < W.heap.size → w1.cell? ⟨b, o, none⟩ = W.cell? ⟨b, o, none⟩) ∧ (∀ b o, b < W.heap.size → w1.frozen? ⟨b, o, none⟩ = W.frozen? ⟨b, o, none⟩) :=
  ⟨fun b o h => hb.cell (p := ⟨b, o, none⟩) h, fun b o h => hb.frozen (p := ⟨b, o, none⟩) h⟩


/-- Block n holds the span s. -/
def Box (w : World) (n : Nat) (s : Sp) : Prop := n < w.heap.size ∧ ∀ i, i < 8 → w.cell? ⟨n, i, none⟩ = s.c[i]?
theorem Box.below {w w' : World} {n : Nat} {s : Sp} (h : Box w n s) {B : Nat} (hb : Below B w w') (hB : n < B) : Box w' n s :=
  ⟨Nat.lt_of_lt_of_le h.1 hb.size, fun i hi => by rw [hb.cell (p := ⟨n, i, none⟩) hB]; exact h.2 i hi⟩
theorem Box.all {w : World} {n : Nat} {s : Sp} (h : Box w n s) :
    w.cell? ⟨n, 0, none⟩ = some (.int .u64 s.trace) ∧ w.cell? ⟨n, 1, none⟩ = some (.int .u64 s.id) ∧ w.cell? ⟨n, 2, none⟩ = some (.int .u64 s.parent) ∧ w.cell? ⟨n, 3, none⟩ = some (.int .u8 s.kind)
    ∧ w.cell? ⟨n, 4, none⟩ = some (.string s.host) ∧ w.cell? ⟨n, 5, none⟩ = some (.string s.name) ∧ w.cell? ⟨n, 6, none⟩ = some (.int .i64 s.start) ∧ w.cell? ⟨n, 7, none⟩ = some (.int .i64 s.dur) :=
  ⟨h.2 0 (by omega), h.2 1 (by omega), h.2 2 (by omega), h.2 3 (by omega), h.2 4 (by omega), h.2 5 (by omega), h.2 6 (by omega), h.2 7 (by omega)⟩
theorem Box.new (w : World) (s : Sp) (t : TypeId) : Box (w.alloc (.cells s.c t)) w.heap.size s := ⟨by simp, fun i _ => by simp⟩

set_option maxHeartbeats 1000000 in
theorem firstUnlike_any (a b : Sp) (k : Nat) (w : World) (hf : ∀ i, i < 8 → w.cell? ⟨k, i, none⟩ = some (.func (.func (23 + i)) #[] #[])) :
    Calls Try.prog 22 #[a.v, b.v, .slice (some ⟨k, 0, none⟩) 8 8] w fun e w' => e = .returned (.int .i64 (cmpI a b)) ∧ Below w.heap.size w w' := by
  unfold Sp.v
  have hk : k < w.heap.size := by
    have h0 := hf 0 (by omega)
    exact block_lt_of_cell h0
  have HF := Lib.hid hf; clear hf
  go_enter Try.func22, Try.ntmps22
  go_wp2
  go_loopw [12] (fun i wr => ∃ n : Nat, n ≤ 8 ∧ i = .int .i64 n ∧ (∀ j < n, cmpAt a b j = 0) ∧ Below w.heap.size w wr ∧ Box wr w.heap.size a ∧ Box wr (w.heap.size + 1) b) (fun i _ => 8 - (intOf i).toNat)
  case atStart => exact ⟨0, by omega, rfl, fun _ h => by omega, ((Below.refl _ _).alloc (Nat.le_refl _) _).alloc (by simp) _, (Box.new w a 26).below ((Below.refl (w.heap.size + 1) _).alloc (by simp) _) (by omega), by have := Box.new (w.alloc (.cells a.c 26)) b 26; simpa [Sp.c] using this⟩
  case round =>
    obtain ⟨n, hn, rfl, hz, hb, hA, hB⟩ := hrel
    have HZ := Lib.hid hz; clear hz
    have HB := Lib.hid hb; clear hb
    obtain ⟨a0, a1, a2, a3, a4, a5, a6, a7⟩ := hA.all
    obtain ⟨b0, b1, b2, b3, b4, b5, b6, b7⟩ := hB.all
    have HAA := Lib.hid hA; have HBB := Lib.hid hB; clear hA hB
    by_cases hlt : n < 8
    · have hcell : wr.cell? ⟨k, n, none⟩ = some (.func (.func (23 + n)) #[] #[]) := by
        rw [HB.out.cell (p := ⟨k, n, none⟩) hk]; exact HF.out n hlt
      rcases (show n = 0 ∨ n = 1 ∨ n = 2 ∨ n = 3 ∨ n = 4 ∨ n = 5 ∨ n = 6 ∨ n = 7 by omega) with rfl | rfl | rfl | rfl | rfl | rfl | rfl | rfl
      · by_cases hx : c3 a.start b.start = 0
        · have HX : Hid (c3 a.start b.start = 0) := hx
          go_wp2_with (go_at_call 23; refine (f23 a b _).mono ?_; rintro e w' ⟨rfl, hb2⟩)
          go_roundw
          case rel => exact ⟨1, by omega, by go_num, fun j hj => by
            by_cases e : j = 0
            · subst e; exact HX.out
            · exact HZ.out j (by omega), HB.out.trans (hb2.mono HB.out.size), HAA.out.below hb2 HAA.out.1, HBB.out.below hb2 HBB.out.1⟩
          case measure => simp [intOf]
        · have hx1 : ((c3 a.start b.start) == 0) = false := by simpa using hx
          have hx2 : ((c3 a.start b.start) != 0) = true := by simpa using hx
          have HX := Lib.hid hx; clear hx
          go_wp2_with (go_at_call 23; refine (f23 a b _).mono ?_; rintro e w' ⟨rfl, hb2⟩)
          go_ret
          exact ⟨ret_i64 (firstNZ_at (cmpL a b) 0 HZ.out HX.out).symm, HB.out.trans (hb2.mono HB.out.size)⟩
      · by_cases hx : c3 a.id b.id = 0
        · have HX : Hid (c3 a.id b.id = 0) := hx
          go_wp2_with (go_at_call 24; refine (f24 a b _).mono ?_; rintro e w' ⟨rfl, hb2⟩)
          go_roundw
          case rel => exact ⟨2, by omega, by go_num, fun j hj => by
            by_cases e : j = 1
            · subst e; exact HX.out
            · exact HZ.out j (by omega), HB.out.trans (hb2.mono HB.out.size), HAA.out.below hb2 HAA.out.1, HBB.out.below hb2 HBB.out.1⟩
          case measure => simp [intOf]
        · have hx1 : ((c3 a.id b.id) == 0) = false := by simpa using hx
          have hx2 : ((c3 a.id b.id) != 0) = true := by simpa using hx
          have HX := Lib.hid hx; clear hx
          go_wp2_with (go_at_call 24; refine (f24 a b _).mono ?_; rintro e w' ⟨rfl, hb2⟩)
          go_ret
          exact ⟨ret_i64 (firstNZ_at (cmpL a b) 1 HZ.out HX.out).symm, HB.out.trans (hb2.mono HB.out.size)⟩
      · by_cases hx : c3 a.parent b.parent = 0
        · have HX : Hid (c3 a.parent b.parent = 0) := hx
          go_wp2_with (go_at_call 25; refine (f25 a b _).mono ?_; rintro e w' ⟨rfl, hb2⟩)
          go_roundw
          case rel => exact ⟨3, by omega, by go_num, fun j hj => by
            by_cases e : j = 2
            · subst e; exact HX.out
            · exact HZ.out j (by omega), HB.out.trans (hb2.mono HB.out.size), HAA.out.below hb2 HAA.out.1, HBB.out.below hb2 HBB.out.1⟩
          case measure => simp [intOf]
        · have hx1 : ((c3 a.parent b.parent) == 0) = false := by simpa using hx
          have hx2 : ((c3 a.parent b.parent) != 0) = true := by simpa using hx
          have HX := Lib.hid hx; clear hx
          go_wp2_with (go_at_call 25; refine (f25 a b _).mono ?_; rintro e w' ⟨rfl, hb2⟩)
          go_ret
          exact ⟨ret_i64 (firstNZ_at (cmpL a b) 2 HZ.out HX.out).symm, HB.out.trans (hb2.mono HB.out.size)⟩
      · by_cases hx : c3 a.kind b.kind = 0
        · have HX : Hid (c3 a.kind b.kind = 0) := hx
          go_wp2_with (go_at_call 26; refine (f26 a b _).mono ?_; rintro e w' ⟨rfl, hb2⟩)
          go_roundw
          case rel => exact ⟨4, by omega, by go_num, fun j hj => by
            by_cases e : j = 3
            · subst e; exact HX.out
            · exact HZ.out j (by omega), HB.out.trans (hb2.mono HB.out.size), HAA.out.below hb2 HAA.out.1, HBB.out.below hb2 HBB.out.1⟩
          case measure => simp [intOf]
        · have hx1 : ((c3 a.kind b.kind) == 0) = false := by simpa using hx
          have hx2 : ((c3 a.kind b.kind) != 0) = true := by simpa using hx
          have HX := Lib.hid hx; clear hx
          go_wp2_with (go_at_call 26; refine (f26 a b _).mono ?_; rintro e w' ⟨rfl, hb2⟩)
          go_ret
          exact ⟨ret_i64 (firstNZ_at (cmpL a b) 3 HZ.out HX.out).symm, HB.out.trans (hb2.mono HB.out.size)⟩
      · by_cases hx : c3 a.dur b.dur = 0
        · have HX : Hid (c3 a.dur b.dur = 0) := hx
          go_wp2_with (go_at_call 27; refine (f27 a b _).mono ?_; rintro e w' ⟨rfl, hb2⟩)
          go_roundw
          case rel => exact ⟨5, by omega, by go_num, fun j hj => by
            by_cases e : j = 4
            · subst e; exact HX.out
            · exact HZ.out j (by omega), HB.out.trans (hb2.mono HB.out.size), HAA.out.below hb2 HAA.out.1, HBB.out.below hb2 HBB.out.1⟩
          case measure => simp [intOf]
        · have hx1 : ((c3 a.dur b.dur) == 0) = false := by simpa using hx
          have hx2 : ((c3 a.dur b.dur) != 0) = true := by simpa using hx
          have HX := Lib.hid hx; clear hx
          go_wp2_with (go_at_call 27; refine (f27 a b _).mono ?_; rintro e w' ⟨rfl, hb2⟩)
          go_ret
          exact ⟨ret_i64 (firstNZ_at (cmpL a b) 4 HZ.out HX.out).symm, HB.out.trans (hb2.mono HB.out.size)⟩
      · by_cases hx : lexS a.host b.host = 0
        · have HX : Hid (lexS a.host b.host = 0) := hx
          go_wp2_with (go_at_call 28; refine (f28 a b _).mono ?_; rintro e w' ⟨rfl, hb2⟩)
          go_roundw
          case rel => exact ⟨6, by omega, by go_num, fun j hj => by
            by_cases e : j = 5
            · subst e; exact HX.out
            · exact HZ.out j (by omega), HB.out.trans (hb2.mono HB.out.size), HAA.out.below hb2 HAA.out.1, HBB.out.below hb2 HBB.out.1⟩
          case measure => simp [intOf]
        · have hx1 : ((lexS a.host b.host) == 0) = false := by simpa using hx
          have hx2 : ((lexS a.host b.host) != 0) = true := by simpa using hx
          have HX := Lib.hid hx; clear hx
          go_wp2_with (go_at_call 28; refine (f28 a b _).mono ?_; rintro e w' ⟨rfl, hb2⟩)
          go_ret
          exact ⟨ret_i64 (firstNZ_at (cmpL a b) 5 HZ.out HX.out).symm, HB.out.trans (hb2.mono HB.out.size)⟩
      · by_cases hx : lexS a.name b.name = 0
        · have HX : Hid (lexS a.name b.name = 0) := hx
          go_wp2_with (go_at_call 29; refine (f29 a b _).mono ?_; rintro e w' ⟨rfl, hb2⟩)
          go_roundw
          case rel => exact ⟨7, by omega, by go_num, fun j hj => by
            by_cases e : j = 6
            · subst e; exact HX.out
            · exact HZ.out j (by omega), HB.out.trans (hb2.mono HB.out.size), HAA.out.below hb2 HAA.out.1, HBB.out.below hb2 HBB.out.1⟩
          case measure => simp [intOf]
        · have hx1 : ((lexS a.name b.name) == 0) = false := by simpa using hx
          have hx2 : ((lexS a.name b.name) != 0) = true := by simpa using hx
          have HX := Lib.hid hx; clear hx
          go_wp2_with (go_at_call 29; refine (f29 a b _).mono ?_; rintro e w' ⟨rfl, hb2⟩)
          go_ret
          exact ⟨ret_i64 (firstNZ_at (cmpL a b) 6 HZ.out HX.out).symm, HB.out.trans (hb2.mono HB.out.size)⟩
      · by_cases hx : c3 a.trace b.trace = 0
        · have HX : Hid (c3 a.trace b.trace = 0) := hx
          go_wp2_with (go_at_call 30; refine (f30 a b _).mono ?_; rintro e w' ⟨rfl, hb2⟩)
          go_roundw
          case rel => exact ⟨8, by omega, by go_num, fun j hj => by
            by_cases e : j = 7
            · subst e; exact HX.out
            · exact HZ.out j (by omega), HB.out.trans (hb2.mono HB.out.size), HAA.out.below hb2 HAA.out.1, HBB.out.below hb2 HBB.out.1⟩
          case measure => simp [intOf]
        · have hx1 : ((c3 a.trace b.trace) == 0) = false := by simpa using hx
          have hx2 : ((c3 a.trace b.trace) != 0) = true := by simpa using hx
          have HX := Lib.hid hx; clear hx
          go_wp2_with (go_at_call 30; refine (f30 a b _).mono ?_; rintro e w' ⟨rfl, hb2⟩)
          go_ret
          exact ⟨ret_i64 (firstNZ_at (cmpL a b) 7 HZ.out HX.out).symm, HB.out.trans (hb2.mono HB.out.size)⟩
    · have : n = 8 := by omega
      subst this
      go_wp2
      go_ret
      exact ⟨ret_i64 (firstNZ_none (cmpL a b) HZ.out).symm, HB.out⟩
end Go.Proofs.Ythdgmmippnebjaa
