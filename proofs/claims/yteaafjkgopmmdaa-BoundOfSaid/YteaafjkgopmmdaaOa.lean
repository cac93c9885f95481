import Derived.Test.YteaafjkgopmmdaaSb
namespace Go.Proofs.Yteaafjkgopmmdaa
open Go.RowKit
def c3 (x y : Int) : Int := if x < y then -1 else if y < x then 1 else 0
theorem c3_lt {x y : Int} (h : x < y) : c3 x y = -1 := by simp [c3, h]
theorem c3_gt {x y : Int} (h : y < x) : c3 x y = 1 := by unfold c3; rw [if_neg (by omega), if_pos h]
theorem c3_eq (x : Int) : c3 x x = 0 := by simp [c3]

def lexI : List UInt8 → List UInt8 → Int
  | [], [] => 0
  | [], _ :: _ => -1
  | _ :: _, [] => 1
  | a :: x, b :: y => if a < b then -1 else if b < a then 1 else lexI x y

theorem lexI_refl : ∀ a : List UInt8, lexI a a = 0
  | [] => rfl
  | a :: x => by simp [lexI, lexI_refl x, UInt8.lt_irrefl]
theorem lexI_zero : ∀ a b : List UInt8, lexI a b = 0 → a = b
  | [], [], _ => rfl
  | [], _ :: _, h => by simp [lexI] at h
  | _ :: _, [], h => by simp [lexI] at h
  | a :: x, b :: y, h => by
    simp only [lexI] at h
    split at h
    · simp at h
    split at h
    · simp at h
    rename_i h1 h2
    have := lexI_zero x y h
    have : a = b := UInt8.le_antisymm (UInt8.not_lt.1 h2) (UInt8.not_lt.1 h1)
    simp_all
theorem lexI_less : ∀ a b : List UInt8, Op.bytesLess a b = decide (lexI a b = -1)
  | [], [] => by simp [Op.bytesLess, lexI]
  | [], _ :: _ => by simp [Op.bytesLess, lexI]
  | _ :: _, [] => by simp [Op.bytesLess, lexI]
  | a :: x, b :: y => by
    have ih := lexI_less x y
    simp only [Op.bytesLess, lexI, ih]
    by_cases h1 : a < b
    · simp [h1]
    by_cases h2 : b < a
    · have : ¬ a = b := fun e => by subst e; exact UInt8.lt_irrefl _ h2
      simp [h1, h2, this]
    · have : a = b := UInt8.le_antisymm (UInt8.not_lt.1 h2) (UInt8.not_lt.1 h1)
      simp [this, UInt8.lt_irrefl]
theorem lexI_vals : ∀ a b : List UInt8, lexI a b = -1 ∨ lexI a b = 0 ∨ lexI a b = 1
  | [], [] => by simp [lexI]
  | [], _ :: _ => by simp [lexI]
  | _ :: _, [] => by simp [lexI]
  | a :: x, b :: y => by
    simp only [lexI]
    split
    · simp
    split
    · simp
    · exact lexI_vals x y

def lexS (x y : ByteArray) : Int := lexI x.data.toList y.data.toList
theorem lexS_lt {x y : ByteArray} (h : lexS x y = -1) : Op.bytesLess x.toList y.toList = true := by
  rw [ByteArray.toList_eq, ByteArray.toList_eq, lexI_less]; simpa [lexS] using h
theorem lexS_nlt {x y : ByteArray} (h : lexS x y ≠ -1) : Op.bytesLess x.toList y.toList = false := by
  rw [ByteArray.toList_eq, ByteArray.toList_eq, lexI_less]; simpa [lexS] using h
theorem lexS_eq {x y : ByteArray} (h : lexS x y = 0) : (x.toList == y.toList) = true := by
  rw [ByteArray.toList_eq, ByteArray.toList_eq, lexI_zero _ _ h]; simp
theorem lexS_ne {x y : ByteArray} (h : lexS x y ≠ 0) : (x.toList == y.toList) = false := by
  rw [ByteArray.toList_eq, ByteArray.toList_eq]
  rw [beq_eq_false_iff_ne]; intro e; apply h; unfold lexS; rw [e]; exact lexI_refl _
def cmpL (a b : Sp) : List Int := [c3 a.start b.start, c3 a.id b.id, c3 a.parent b.parent, c3 a.kind b.kind, c3 a.dur b.dur, lexS a.host b.host, lexS a.name b.name, c3 a.trace b.trace]
def firstNZ : List Int → Int
  | [] => 0
  | x :: r => if x = 0 then firstNZ r else x
def cmpI (a b : Sp) : Int := firstNZ (cmpL a b)
/-- The value of the number i field. -/
def cmpAt (a b : Sp) (i : Nat) : Int := (cmpL a b).getD i 0
theorem firstNZ_at : ∀ (l : List Int) (i : Nat), (∀ j < i, l.getD j 0 = 0) → l.getD i 0 ≠ 0 → firstNZ l = l.getD i 0
  | [], i, _, h => by simp at h
  | x :: r, 0, _, h => by simp [firstNZ] at *; intro e; exact absurd e h
  | x :: r, i + 1, h0, h => by
    have hx : x = 0 := by simpa using h0 0 (by omega)
    simp only [firstNZ, hx, if_pos]
    have := firstNZ_at r i (fun j hj => by simpa using h0 (j + 1) (by omega)) (by simpa using h)
    simpa using this
theorem firstNZ_none : ∀ (l : List Int), (∀ j < l.length, l.getD j 0 = 0) → firstNZ l = 0
  | [], _ => rfl
  | x :: r, h => by
    have hx : x = 0 := by simpa using h 0 (by simp)
    simp only [firstNZ, hx, if_pos]
    exact firstNZ_none r fun j hj => by simpa using h (j + 1) (by simpa using hj)

/-! Plain facts on the order. -/
def Tri (x y z : Int) : Prop := (-1 ≤ x ∧ x ≤ 1) ∧ (-1 ≤ y ∧ y ≤ 1) ∧ (-1 ≤ z ∧ z ≤ 1) ∧ (x = 0 → z = y) ∧ (y = 0 → z = x) ∧ (x = y → z = x)
theorem c3_tri (a b c : Int) : Tri (c3 a b) (c3 b c) (c3 a c) := by
  unfold c3 Tri; repeat' split
  all_goals omega
theorem c3_neg (a b : Int) : c3 b a = -(c3 a b) := by unfold c3; repeat' split <;> omega
theorem c3_zero {a b : Int} (h : c3 a b = 0) : a = b := by unfold c3 at h; repeat' split at h <;> omega
def u3 (a b : UInt8) : Int := if a < b then -1 else if b < a then 1 else 0
theorem u3_eq (a b : UInt8) : u3 a b = c3 a.toNat b.toNat := by
  simp only [u3, c3, UInt8.lt_iff_toNat_lt]
  have : ((a.toNat : Int) < (b.toNat : Int)) ↔ a.toNat < b.toNat := by omega
  have : ((b.toNat : Int) < (a.toNat : Int)) ↔ b.toNat < a.toNat := by omega
  simp [*]
theorem lexI_cons (a b : UInt8) (x y : List UInt8) : lexI (a :: x) (b :: y) = if u3 a b = 0 then lexI x y else u3 a b := by
  simp only [lexI, u3]; repeat' split
  all_goals first | rfl | simp_all
theorem tri_step {x y z X Y Z : Int} (h : Tri x y z) (H : Tri X Y Z) : Tri (if x = 0 then X else x) (if y = 0 then Y else y) (if z = 0 then Z else z) := by
  unfold Tri at *
  split <;> split <;> split <;> omega
theorem lexI_tri : ∀ a b c : List UInt8, Tri (lexI a b) (lexI b c) (lexI a c)
  | [], [], [] => by simp [lexI, Tri]
  | [], [], _ :: _ => by simp [lexI, Tri]
  | [], _ :: _, [] => by simp [lexI, Tri]
  | _ :: _, [], [] => by simp [lexI, Tri]
  | [], b :: y, c :: z => by
    have := lexI_vals (b :: y) (c :: z)
    have e1 : lexI [] (b :: y) = -1 := rfl
    have e2 : lexI [] (c :: z) = -1 := rfl
    rw [e1, e2]; unfold Tri; omega
  | a :: x, [], c :: z => by
    have := lexI_vals (a :: x) (c :: z)
    have e1 : lexI (a :: x) [] = 1 := rfl
    have e2 : lexI [] (c :: z) = -1 := rfl
    rw [e1, e2]; unfold Tri; omega
  | a :: x, b :: y, [] => by
    have := lexI_vals (a :: x) (b :: y)
    have e1 : lexI (a :: x) [] = 1 := rfl
    have e2 : lexI (b :: y) [] = 1 := rfl
    rw [e1, e2]; unfold Tri; omega
  | a :: x, b :: y, c :: z => by
    rw [lexI_cons, lexI_cons, lexI_cons]
    refine tri_step ?_ (lexI_tri x y z)
    rw [u3_eq, u3_eq, u3_eq]; exact c3_tri _ _ _
theorem lexI_neg : ∀ a b : List UInt8, lexI b a = -(lexI a b)
  | [], [] => rfl
  | [], _ :: _ => rfl
  | _ :: _, [] => rfl
  | a :: x, b :: y => by
    rw [lexI_cons, lexI_cons, u3_eq, u3_eq, c3_neg a.toNat b.toNat, lexI_neg x y]
    split <;> split <;> omega
theorem cmpI_eq (a b : Sp) : cmpI a b = if c3 a.start b.start = 0 then if c3 a.id b.id = 0 then if c3 a.parent b.parent = 0 then if c3 a.kind b.kind = 0 then if c3 a.dur b.dur = 0 then if lexS a.host b.host = 0 then if lexS a.name b.name = 0 then if c3 a.trace b.trace = 0 then 0 else c3 a.trace b.trace else lexS a.name b.name else lexS a.host b.host else c3 a.dur b.dur else c3 a.kind b.kind else c3 a.parent b.parent else c3 a.id b.id else c3 a.start b.start := rfl
theorem cmpI_tri (a b c : Sp) : Tri (cmpI a b) (cmpI b c) (cmpI a c) := by
  rw [cmpI_eq, cmpI_eq, cmpI_eq]
  exact tri_step (c3_tri _ _ _) (tri_step (c3_tri _ _ _) (tri_step (c3_tri _ _ _) (tri_step (c3_tri _ _ _) (tri_step (c3_tri _ _ _) (tri_step (lexI_tri _ _ _) (tri_step (lexI_tri _ _ _) (tri_step (c3_tri _ _ _) (by simp [Tri]))))))))
theorem neg_step {x y X Y : Int} (h : y = -x) (H : Y = -X) : (if y = 0 then Y else y) = -(if x = 0 then X else x) := by
  subst h H; split <;> split <;> omega
theorem cmpI_neg (a b : Sp) : cmpI b a = -(cmpI a b) := by
  rw [cmpI_eq, cmpI_eq]
  exact neg_step (c3_neg _ _) (neg_step (c3_neg _ _) (neg_step (c3_neg _ _) (neg_step (c3_neg _ _) (neg_step (c3_neg _ _) (neg_step (lexI_neg _ _) (neg_step (lexI_neg _ _) (neg_step (c3_neg _ _) (by simp))))))))
theorem zero_step {x X : Int} (h : (if x = 0 then X else x) = 0) : x = 0 ∧ X = 0 := by split at h <;> simp_all
theorem lexS_zero {a b : ByteArray} (h : lexS a b = 0) : a = b := by
  have := lexI_zero _ _ h
  cases a; cases b; simp at this; rw [this]
theorem cmpI_zero {a b : Sp} (h : cmpI a b = 0) : a = b := by
  rw [cmpI_eq] at h
  obtain ⟨h1, h⟩ := zero_step h; obtain ⟨h2, h⟩ := zero_step h; obtain ⟨h3, h⟩ := zero_step h; obtain ⟨h4, h⟩ := zero_step h
  obtain ⟨h5, h⟩ := zero_step h; obtain ⟨h6, h⟩ := zero_step h; obtain ⟨h7, h⟩ := zero_step h; obtain ⟨h8, _⟩ := zero_step h
  cases a; cases b
  simp only [Sp.mk.injEq]
  exact ⟨c3_zero h8, c3_zero h2, c3_zero h3, c3_zero h4, lexS_zero h6, lexS_zero h7, c3_zero h1, c3_zero h5⟩
theorem cmpI_refl (a : Sp) : cmpI a a = 0 := by have := cmpI_neg a a; omega
end Go.Proofs.Yteaafjkgopmmdaa

