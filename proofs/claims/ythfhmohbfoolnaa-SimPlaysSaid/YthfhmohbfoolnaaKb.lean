import Derived.Test.YthfhmohbfoolnaaKa
import Derived.BigQuiet
namespace Go.Proofs.Ythfhmohbfoolnaa
open Go Go.RowKit Go.Maps

/-! The landed file system: comparisons, and what only looks. -/
theorem eqv_state (d : Nat) (t k : Bool) (n s : ByteArray) (w : World) : (Op.equalIn (d + 2) 67 (.agg #[.bool t, .string n]) (.agg #[.bool k, .string s])).run Try.prog w = .ok ((t == k) && (n.toList == s.toList)) w := by
  have hS : Try.prog.underlying 67 = some (.struct (Try.prog.fieldsOf 67)) := by kernel_rfl
  have hp : Try.prog.stoodInHeld 67 = false := by kernel_rfl
  have u4 := Try.underlying4
  have u9 := Try.underlying9
  have a4 := Try.isAgg4
  have a9 := Try.isAgg9
  have z4 := Try.sizeOf4
  have z9 := Try.sizeOf9
  rw [show d + 2 = (d + 1) + 1 from rfl, run_equalIn_agg w (d + 1) 67 _ _ hS hp]
  simp only [Program.fieldsOf, Try.underlying67]
  by_cases h : n.toList = s.toList <;> cases t <;> cases k <;> go_simp <;> simp [h]
theorem neq_state (t k : Bool) (n s : ByteArray) (w : World) : (binOp .neq 67 (.agg #[.bool t, .string n]) (.agg #[.bool k, .string s])).run Try.prog w = .ok (.bool (!((t == k) && (n.toList == s.toList)))) w := by
  rw [run_neq_struct, show (10000 : Nat) = 9998 + 2 from rfl, eqv_state]; rfl
theorem guard_state : Try.prog.eqGuardType Try.prog.depth 67 = false := by kernel_rfl
theorem guard_file : Try.prog.eqGuardType Try.prog.depth 69 = false := by kernel_rfl
theorem eql_file (t k : Bool) (n s : ByteArray) (w : World) : (binOp .eql 69 (.agg #[.bool t, .string n, .bool k, .string s]) (.agg #[.bool false, .string ⟨#[]⟩, .bool false, .string ⟨#[]⟩])).run Try.prog w = .ok (.bool (((t == false) && (n.toList == [])) && ((k == false) && (s.toList == [])))) w := by
  have hS : Try.prog.underlying 69 = some (.struct (Try.prog.fieldsOf 69)) := by kernel_rfl
  have hp : Try.prog.stoodInHeld 69 = false := by kernel_rfl
  have hS2 : Try.prog.underlying 67 = some (.struct (Try.prog.fieldsOf 67)) := by kernel_rfl
  have hp2 : Try.prog.stoodInHeld 67 = false := by kernel_rfl
  have a67 := Try.isAgg67
  have z67 := Try.sizeOf67
  rw [run_eql_struct, show (10000 : Nat) = 9999 + 1 from rfl, run_equalIn_agg w 9999 69 _ _ hS hp]
  have e1 := fun (t k : Bool) (n s : ByteArray) (w : World) => eqv_state 9997 t k n s w
  simp only [show (9997 + 2 : Nat) = 9999 from rfl] at e1
  simp only [Program.fieldsOf, Try.underlying69]
  go_simp
  by_cases h1 : n.toList = [] <;> by_cases h2 : s.toList = [] <;> cases t <;> cases k <;> simp [h1, h2]
theorem toList_nil {b : ByteArray} : b.toList = [] ↔ b = ByteArray.empty := by
  rw [ByteArray.toList_eq]
  obtain ⟨⟨l⟩⟩ := b
  constructor
  · intro h; simp at h; subst h; rfl
  · intro h; cases h; rfl
theorem toList_inj {a b : ByteArray} : a.toList = b.toList ↔ a = b := by
  rw [ByteArray.toList_eq, ByteArray.toList_eq]
  obtain ⟨⟨l⟩⟩ := a
  obtain ⟨⟨m⟩⟩ := b
  simp
theorem loose_eq {x : Fl} (h : OkX x) : looseF x = !((x.there == x.kept) && (x.now.toList == x.safe.toList)) := by
  obtain ⟨n, t, k, nw, sf⟩ := x
  obtain ⟨h1, h2⟩ := h
  simp only at h1 h2
  unfold looseF
  simp only
  cases t <;> cases k
  · rw [h1 rfl, h2 rfl]; simp
  · rfl
  · rfl
  · by_cases e : nw = sf
    · simp [e]
    · have : ¬ nw.toList = sf.toList := fun h => e (toList_inj.1 h)
      simp [e, this]
theorem zero_eq {x : Fl} (h : OkX x) : (((x.there == false) && (x.now.toList == [])) && ((x.kept == false) && (x.safe.toList == []))) = !hasF x := by
  obtain ⟨n, t, k, nw, sf⟩ := x
  obtain ⟨h1, h2⟩ := h
  simp only at h1 h2
  unfold hasF
  simp only
  cases t <;> cases k
  · rw [h1 rfl, h2 rfl, toList_nil.2 rfl]; rfl
  all_goals simp
set_option maxHeartbeats 1000000 in
theorem isUnsafe_any (x : Fl) (hx : OkX x) (w : World) : Calls Try.prog 26 #[flV x] w fun e w' => e = .returned (.bool (looseF x)) ∧ Below w.heap.size w w' := by
  have HL := Lib.hid (loose_eq hx)
  have hq := neq_state
  have hg := guard_state
  obtain ⟨n, t, k, nw, sf⟩ := x
  unfold flV
  simp only at HL ⊢
  clear hx
  go_enter Try.func26, Try.ntmps26
  go_wp2
  go_ret
  exact ⟨ret_bool (by rw [HL.out]; simp), box1 _ _⟩
set_option maxHeartbeats 1000000 in
theorem isThere_any (x : Fl) (w : World) : Calls Try.prog 27 #[flV x] w fun e w' => e = .returned (.bool x.there) ∧ Below w.heap.size w w' := by
  obtain ⟨n, t, k, nw, sf⟩ := x
  unfold flV
  simp only
  go_enter Try.func27, Try.ntmps27
  go_wp2
  go_ret
  exact ⟨rfl, box1 _ _⟩
end Go.Proofs.Ythfhmohbfoolnaa
