import Derived.Test.YtkjngmlebflffaaAm
import Derived.Test.YtkjngmlebflffaaRf
import Derived.Shelf.Abstract
import Derived.Shelf.RegionOpen
import Derived.OwnWalkIn
import Derived.TacticsInMore
import Derived.LoopNIn
import Derived.LoopIn
import Derived.Maps.AppendAt
namespace Go.Proofs.Ytkjngmlebflffaa
open Go Go.RowKit Go.Sort Go.Shelf
set_option linter.unusedVariables false
attribute [local go_sem] Oper.semAt_some

/-! slices.Backward at a row of numbers: what it hands over, round by round (stage 11). -/
/-- What is handed over behind so many: the place from the end, and what stands there. -/
def BackG (O : List Nat) (pre : List (Nat × Nat)) (x : Nat × Nat) : Prop := pre.length < O.length ∧ x.1 = O.length - 1 - pre.length ∧ O[x.1]? = some x.2
/-- What a round keeps: all that lies below n0, but one block. -/
def KpS (n0 s0 : Nat) (W W' : World) : Prop := W.heap.size ≤ W'.heap.size ∧ ∀ k, k < n0 → k ≠ s0 → W'.heap[k]? = W.heap[k]?
theorem kpS_t {n0 s0 : Nat} {A B C : World} (h : KpS n0 s0 A B) (k : KpS n0 s0 B C) : KpS n0 s0 A C := ⟨Nat.le_trans h.1 k.1, fun j hj hne => (k.2 j hj hne).trans (h.2 j hj hne)⟩
theorem kpS_g {n0 s0 : Nat} {A B : World} (h : A.grownBy B (some s0)) (hn : n0 ≤ A.heap.size) : KpS n0 s0 A B := ⟨h.size, fun j hj hne => h.block j (Nat.lt_of_lt_of_le hj hn) (by simp [hne])⟩
theorem kpS_b {n0 s0 : Nat} {A B : World} (h : Below n0 A B) (hs : A.heap.size ≤ B.heap.size) : KpS n0 s0 A B := ⟨hs, fun j hj hne => h.block j hj⟩
theorem KpS.cell {n0 s0 : Nat} {A B : World} (h : KpS n0 s0 A B) {b o : Nat} (hb : b < n0) (hne : b ≠ s0) : B.cell? ⟨b, o, none⟩ = A.cell? ⟨b, o, none⟩ := World.cell?_of_block (a := ⟨b, o, none⟩) (h.2 b hb hne)
/-- A row that is read, but not in that block. -/
def RdBut (W : World) (n0 s0 : Nat) (a : Option Addr) (cs : List Value) : Prop := 0 < cs.length → ∃ b off, a = some ⟨b, off, none⟩ ∧ b < n0 ∧ b ≠ s0 ∧ ∀ j v, cs[j]? = some v → W.cell? ⟨b, off + j, none⟩ = some v
theorem RdBut.kept {W W' : World} {n0 s0 : Nat} {a : Option Addr} {cs : List Value} (h : RdBut W n0 s0 a cs) (hk : KpS n0 s0 W W') : RdBut W' n0 s0 a cs := fun h0 => by
  obtain ⟨b, off, h1, h2, h3, h4⟩ := h h0
  exact ⟨b, off, h1, h2, h3, fun j v hv => (hk.cell h2 h3).trans (h4 j v hv)⟩
theorem ownsRow_cells {X Y : World} {row : Option Nat} {base : Nat} {e : TypeId} {size k : Nat} {v : Value} {xs : List Value} (h : X.ownsRow base e size v k xs) (hg : X.grownBy Y row) (hr : ∀ r, row = some r → ∃ o : Obj, X.heap[r]? = some o ∧ o.isCells = false) : Y.ownsRow base e size v k xs := by
  refine h.kept hg ?_
  rcases h.2 with ⟨rfl, _⟩ | ⟨g, cap, cur, rfl, _, hgb, _⟩
  · exact .inl rfl
  · refine .inr fun e' => ?_
    obtain ⟨o, ho, hc⟩ := hr g e'.symm
    rw [hgb] at ho; cases ho; cases hc
theorem boxed_cells {X Y : World} {row : Option Nat} {B : Nat} {t : TypeId} {v : Value} (h : Boxed X B t v) (hg : X.grownBy Y row) (hr : ∀ r, row = some r → ∃ o : Obj, X.heap[r]? = some o ∧ o.isCells = false) : Boxed Y B t v := by
  refine h.kept hg fun e' => ?_
  obtain ⟨o, ho, hc⟩ := hr B e'.symm
  rw [show X.heap[B]? = _ from h] at ho; cases ho; cases hc
set_option maxHeartbeats 400000 in
theorem backward_is (a : Option Addr) (n c : Nat) (w : World) :
    Calls Try.prog 26 #[.slice a n c] w fun e w' => e = .returned (.func (.func 34) #[] #[.pointer (some ⟨w.heap.size, 0, none⟩)]) ∧ w' = w.alloc (.cells #[.slice a n c] 22) := by
  have hmf : ∀ (fn : Fn) (first cap : Array Value) (w : World), (Instr.makeFunc fn first cap).run Try.prog w = .ok (.func fn first cap) w := fun _ _ _ _ => rfl
  go_enter Try.func26, Try.ntmps26
  go_wp2
  go_ret
  exact ⟨rfl, rfl⟩
set_option maxRecDepth 100000 in
set_option maxHeartbeats 2000000 in
theorem back1_in (n : Nat) (l bb n0 s0 c : Nat) (a : Option Addr) (O : List Nat) (J : List (Nat × Nat) → World → Prop) (W : World) (hJ : ∀ s A B, J s A → A.grownBy B none → J s B)
    (hY : ∀ pre x W1, J pre W1 → BackG O pre x → YieldAt Fence.wide (n - 1) Try.prog l #[.int .i64 (x.1 : Int), .int .i64 (x.2 : Int)] W1 fun e W' => e = .returned (.bool true) ∧ J (pre ++ [x]) W' ∧ KpS n0 s0 W1 W')
    (h0 : J [] W) (hl : O.length ≤ 100000) (hr : RdBut W n0 s0 a (intV (natI O))) (hbn : bb < n0) (hbs : bb ≠ s0) (hbb : W.cell? ⟨bb, 0, none⟩ = some (.slice a O.length c)) :
    CallsIn Fence.wide n Try.prog 34 #[.func (.yield l) #[] #[], .pointer (some ⟨bb, 0, none⟩)] W fun e W' => (∃ v, e = .returned v) ∧ ∃ xs : List (Nat × Nat), xs.length = O.length ∧ J xs W' := by
  have HR := Lib.hid hr; have HY := Lib.hid hY; have HJ := Lib.hid hJ; have HJ0 := Lib.hid h0; have HBB := Lib.hid hbb
  clear hr hY hJ h0
  refine callsIn_of_wp Try.func34 rfl trivial ?_ rfl
  simp only [Try.ntmps34, List.size_toArray, List.length_cons, List.length_nil, Nat.reduceAdd, Nat.reduceSub, Array.replicate_succ, Array.replicate_zero, List.push_toArray, List.append_toArray, List.nil_append, List.cons_append]
  have i8 : IntKind.i64.wrap ((O.length : Int) - 1) = (O.length : Int) - 1 := IntWalk.i64_in _ (by omega)
  gi_wp2
  gi_loopw [3] (fun i wr => ∃ xs : List (Nat × Nat), xs.length ≤ O.length ∧ i = .int .i64 ((O.length : Int) - 1 - (xs.length : Nat)) ∧ J xs wr ∧ KpS n0 s0 W wr) (fun i _ => (intOf i + 1).toNat)
  case atStart => exact ⟨[], Nat.zero_le _, by simp, HJ0.out, Nat.le_refl _, fun _ _ _ => rfl⟩
  clear hbb
  case round =>
    obtain ⟨xs, hx, rfl, hj, hk⟩ := hrel
    have HJX := Lib.hid hj; have HK := Lib.hid hk
    have hcb := (HK.out.cell (o := 0) hbn hbs).trans HBB.out
    clear hj hk
    by_cases hlt : xs.length < O.length
    · obtain ⟨i, hi⟩ : ∃ i, O.length - 1 - xs.length = i := ⟨_, rfl⟩
      have hil : i < O.length := by omega
      have e1 : (O.length : Int) - 1 - (xs.length : Nat) = (i : Int) := by omega
      rw [e1]
      obtain ⟨b1, o1, ha1, hb1, hbs1, hc1⟩ := (HR.out.kept HK.out) (by rw [intV_natI_length]; omega)
      have c1 := hc1 i (.int .i64 (O[i] : Int)) (by simp [intV, natI, hil])
      subst ha1
      obtain ⟨fn, tmps, assign, body, hy, hR⟩ := HY.out xs (i, O[i]) wr HJX.out ⟨hlt, hi.symm, by simp [hil]⟩
      dsimp only at hy
      have hR' := Lib.hid hR
      have HLEN : Hid ((xs ++ [(i, O[i])]).length = xs.length + 1) := by show _ = _; simp
      generalize O[i] = p at *
      have j3 : (i : Int) < (O.length : Int) := by omega
      have j4 : (0 : Int) ≤ (i : Int) := by omega
      have j5 : IntKind.i64.wrap ((i : Int) - 1) = (i : Int) - 1 := IntWalk.i64_in _ (by omega)
      clear hR hc1
      gi_wp2_with fail
      refine ⟨fun h => (by cases h), hR'.out.mono ?_⟩
      rintro e W3 ⟨rfl, hj3, hk3⟩
      have HJ3 := Lib.hid hj3
      have HK3 := Lib.hid (kpS_t HK.out hk3)
      clear hj3 hk3 hcb c1
      gi_wp2_with fail
      go_roundw
      case rel => exact ⟨xs ++ [(i, p)], by rw [HLEN.out]; omega, by rw [HLEN.out, show (O.length : Int) - 1 - ((xs.length + 1 : Nat) : Int) = (i : Int) - 1 by omega], HJ3.out, HK3.out⟩
      case measure => simp [intOf]
    · have hxl : xs.length = O.length := by omega
      have e1 : (O.length : Int) - 1 - (xs.length : Nat) = -1 := by omega
      rw [e1]
      gi_wp2_with fail
      go_end0
      exact ⟨⟨_, rfl⟩, xs, hxl, HJX.out⟩
end Go.Proofs.Ytkjngmlebflffaa
