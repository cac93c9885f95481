import Derived.Test.YthdgmmippnebjaaC
namespace Go.Proofs.Ythdgmmippnebjaa
/-! Plain facts on the order. -/
def Tri (x y z : Int) : Prop := (-1 ≤ x ∧ x ≤ 1) ∧ (-1 ≤ y ∧ y ≤ 1) ∧ (-1 ≤ z ∧ z ≤ 1) ∧ (x = 0 → z = y) ∧ (y = 0 → z = x) ∧ (x = y → z = x)
theorem c3_tri (a b c : Int) : Tri (c3 a b) (c3 b c) (c3 a c) := by
  unfold c3 Tri; repeat' split
  all_goals omega
theorem c3_neg (a b : Int) : c3 b a = -(c3 a b) := by unfold c3; repeat' split <;> omega
theorem c3_zero {a b : Int} (h : c3 a b = 0) : a = b := by unfold c3 at h; repeat' split at h <;> omega
def u3 (a b : UInt8) : Int := if a < b then -1 else if b < a then 1 else 0
theorem u3_eq (a b : UInt8) : u3 a b = c3 a.toNat b.toNat := by
  simp only [u3, c3, UInt8.lt_iff_toNat_lt]
  have : ((a.toNat : Int) < (b.toNat : Int)) ↔ a.toNat < b.toNat := by omega
  have : ((b.toNat : Int) < (a.toNat : Int)) ↔ b.toNat < a.toNat := by omega
  simp [*]
theorem lexI_cons (a b : UInt8) (x y : List UInt8) : lexI (a :: x) (b :: y) = if u3 a b = 0 then lexI x y else u3 a b := by
  simp only [lexI, u3]; repeat' split
  all_goals first | rfl | simp_all
theorem tri_step {x y z X Y Z : Int} (h : Tri x y z) (H : Tri X Y Z) : Tri (if x = 0 then X else x) (if y = 0 then Y else y) (if z = 0 then Z else z) := by
  unfold Tri at *
  split <;> split <;> split <;> omega
theorem lexI_tri : ∀ a b c : List UInt8, Tri (lexI a b) (lexI b c) (lexI a c)
  | [], [], [] => by simp [lexI, Tri]
  | [], [], _ :: _ => by simp [lexI, Tri]
  | [], _ :: _, [] => by simp [lexI, Tri]
  | _ :: _, [], [] => by simp [lexI, Tri]
  | [], b :: y, c :: z => by
    have := lexI_vals (b :: y) (c :: z)
    have e1 : lexI [] (b :: y) = -1 := rfl
    have e2 : lexI [] (c :: z) = -1 := rfl
    rw [e1, e2]; unfold Tri; omega
  | a :: x, [], c :: z => by
    have := lexI_vals (a :: x) (c :: z)
    have e1 : lexI (a :: x) [] = 1 := rfl
    have e2 : lexI [] (c :: z) = -1 := rfl
    rw [e1, e2]; unfold Tri; omega
  | a :: x, b :: y, [] => by
    have := lexI_vals (a :: x) (b :: y)
    have e1 : lexI (a :: x) [] = 1 := rfl
    have e2 : lexI (b :: y) [] = 1 := rfl
    rw [e1, e2]; unfold Tri; omega
  | a :: x, b :: y, c :: z => by
    rw [lexI_cons, lexI_cons, lexI_cons]
    refine tri_step ?_ (lexI_tri x y z)
    rw [u3_eq, u3_eq, u3_eq]; exact c3_tri _ _ _
theorem lexI_neg : ∀ a b : List UInt8, lexI b a = -(lexI a b)
  | [], [] => rfl
  | [], _ :: _ => rfl
  | _ :: _, [] => rfl
  | a :: x, b :: y => by
    rw [lexI_cons, lexI_cons, u3_eq, u3_eq, c3_neg a.toNat b.toNat, lexI_neg x y]
    split <;> split <;> omega
theorem cmpI_eq (a b : Sp) : cmpI a b = if c3 a.start b.start = 0 then if c3 a.id b.id = 0 then if c3 a.parent b.parent = 0 then if c3 a.kind b.kind = 0 then if c3 a.dur b.dur = 0 then if lexS a.host b.host = 0 then if lexS a.name b.name = 0 then if c3 a.trace b.trace = 0 then 0 else c3 a.trace b.trace else lexS a.name b.name else lexS a.host b.host else c3 a.dur b.dur else c3 a.kind b.kind else c3 a.parent b.parent else c3 a.id b.id else c3 a.start b.start := rfl
theorem cmpI_tri (a b c : Sp) : Tri (cmpI a b) (cmpI b c) (cmpI a c) := by
  rw [cmpI_eq, cmpI_eq, cmpI_eq]
  exact tri_step (c3_tri _ _ _) (tri_step (c3_tri _ _ _) (tri_step (c3_tri _ _ _) (tri_step (c3_tri _ _ _) (tri_step (c3_tri _ _ _) (tri_step (lexI_tri _ _ _) (tri_step (lexI_tri _ _ _) (tri_step (c3_tri _ _ _) (by simp [Tri]))))))))
theorem neg_step {x y X Y : Int} (h : y = -x) (H : Y = -X) : (if y = 0 then Y else y) = -(if x = 0 then X else x) := by
  subst h H; split <;> split <;> omega
theorem cmpI_neg (a b : Sp) : cmpI b a = -(cmpI a b) := by
  rw [cmpI_eq, cmpI_eq]
  exact neg_step (c3_neg _ _) (neg_step (c3_neg _ _) (neg_step (c3_neg _ _) (neg_step (c3_neg _ _) (neg_step (c3_neg _ _) (neg_step (lexI_neg _ _) (neg_step (lexI_neg _ _) (neg_step (c3_neg _ _) (by simp))))))))
theorem zero_step {x X : Int} (h : (if x = 0 then X else x) = 0) : x = 0 ∧ X = 0 := by split at h <;> simp_all
theorem lexS_zero {a b : ByteArray} (h : lexS a b = 0) : a = b := by
  have := lexI_zero _ _ h
  cases a; cases b; simp at this; rw [this]
theorem cmpI_zero {a b : Sp} (h : cmpI a b = 0) : a = b := by
  rw [cmpI_eq] at h
  obtain ⟨h1, h⟩ := zero_step h; obtain ⟨h2, h⟩ := zero_step h; obtain ⟨h3, h⟩ := zero_step h; obtain ⟨h4, h⟩ := zero_step h
  obtain ⟨h5, h⟩ := zero_step h; obtain ⟨h6, h⟩ := zero_step h; obtain ⟨h7, h⟩ := zero_step h; obtain ⟨h8, _⟩ := zero_step h
  cases a; cases b
  simp only [Sp.mk.injEq]
  exact ⟨c3_zero h8, c3_zero h2, c3_zero h3, c3_zero h4, lexS_zero h6, lexS_zero h7, c3_zero h1, c3_zero h5⟩
theorem cmpI_refl (a : Sp) : cmpI a a = 0 := by have := cmpI_neg a a; omega
end Go.Proofs.Ythdgmmippnebjaa
