import Derived.Test.YthdgmmippnebjaaF
import Derived.Test.YthdgmmippnebjaaM
import Derived.Laws.StructEq
import Derived.Deep.DeepCutAuto
namespace Go.Proofs.Ythdgmmippnebjaa
open Go.RowKit Go.Sort

theorem toList_inj' {a b : ByteArray} (h : a.toList = b.toList) : a = b := by
  rw [ByteArray.toList_eq, ByteArray.toList_eq] at h
  cases a; cases b; simp at h; rw [h]
theorem eql_same (a : Sp) (w : World) : (binOp .eql 26 a.v a.v).run Try.prog w = .ok (.bool true) w := by
  unfold Sp.v
  simp [go_sem]
theorem eql_not (a b : Sp) (w : World) (h : a ≠ b) : (binOp .eql 26 a.v b.v).run Try.prog w = .ok (.bool false) w := by
  unfold Sp.v
  simp [go_sem]
  intro h1 h2 h3 h4 h5 h6 h7 h8
  apply h
  cases a; cases b
  simp only [Sp.mk.injEq]
  exact ⟨h1, h2, h3, h4, toList_inj' h5, toList_inj' h6, h7, h8⟩

theorem chainB (x y z : Int) (h : Tri x y z) : ((decide (0 < x) || decide (0 < y) || decide (z ≤ 0)) && (decide (x < 0) || decide (y < 0) || decide (0 ≤ z))) = true := by
  unfold Tri at h
  simp; omega

/-- The longs of three spans. -/
theorem long_is {s : Sp} {b : Bool} (h : longB s = b) (w : World) (hh : s.host.size ≤ maxLen) (hn : s.name.size ≤ maxLen) : Calls Try.prog 10 #[s.v] w fun e w' => e = .returned (.bool b) ∧ Below w.heap.size w w' := by
  subst h; exact long_any s w hh hn

structure Box3 (w : World) (n : Nat) (a b c : Sp) : Prop where
  a : Box w n a
  b : Box w (n + 1) b
  c : Box w (n + 2) c
theorem Box3.below {w w' : World} {n : Nat} {a b c : Sp} (h : Box3 w n a b c) (hb : Below w.heap.size w w') : Box3 w' n a b c := ⟨h.a.below hb h.a.1, h.b.below hb h.b.1, h.c.below hb h.c.1⟩
theorem box3_new (w : World) (a b c : Sp) (t : TypeId) : Box3 (((w.alloc (.cells a.c t)).alloc (.cells b.c t)).alloc (.cells c.c t)) w.heap.size a b c :=
  ⟨((Box.new w a t).below (box1 _ _) (by simp)).below (box1 _ _) (by simp; omega), by have := (Box.new (w.alloc (.cells a.c t)) b t).below (box1 _ (.cells c.c t)) (by simp); simpa using this, by have := (Box.new ((w.alloc (.cells a.c t)).alloc (.cells b.c t)) c t); simpa using this⟩
theorem bel3 (w : World) (o1 o2 o3 : Obj) : Below w.heap.size w (((w.alloc o1).alloc o2).alloc o3) := bel2 (bel2 (box1 _ _) (box1 _ _)) (box1 _ _)

end Go.Proofs.Ythdgmmippnebjaa
