import Derived.Test.YtkaafjcfcknbpaaMc
import Derived.Test.YtkaafjcfcknbpaaRg
import Derived.Deep.QuietTactic
namespace Go.Proofs.Ytkaafjcfcknbpaa
open Go Go.RowKit Go.Sort

/-! What is gathered of a segment. -/
def RB (w : World) (rb N K : Nat) (v : Value) (g : Int) : Prop := w.heap[rb]? = some (.cells #[.int .u32 (N : Int), .int .i64 (K : Int), v, .int .i64 g] 68)
section
variable {w w' : World} {rb N K : Nat} {v : Value} {g : Int}
theorem RB.lt (h : RB w rb N K v g) : rb < w.heap.size := (Array.getElem?_eq_some_iff.1 h).1
theorem RB.c0 (h : RB w rb N K v g) : w.cell? ⟨rb, 0, none⟩ = some (.int .u32 (N : Int)) := by unfold RB at h; simp [World.cell?, h]
theorem RB.c1 (h : RB w rb N K v g) : w.cell? ⟨rb, 1, none⟩ = some (.int .i64 (K : Int)) := by unfold RB at h; simp [World.cell?, h]
theorem RB.c2 (h : RB w rb N K v g) : w.cell? ⟨rb, 2, none⟩ = some v := by unfold RB at h; simp [World.cell?, h]
theorem RB.c3 (h : RB w rb N K v g) : w.cell? ⟨rb, 3, none⟩ = some (.int .i64 g) := by unfold RB at h; simp [World.cell?, h]
theorem RB.fz (h : RB w rb N K v g) (i : Nat) : w.frozen? ⟨rb, i, none⟩ = false := by unfold RB at h; simp [World.frozen?, h]
theorem RB.grown (h : RB w rb N K v g) {row : Option Nat} (hg : w.grownBy w' row) (hr : some rb ≠ row) : RB w' rb N K v g := (hg.block rb h.lt hr).trans h
theorem RB.below (h : RB w rb N K v g) {B : Nat} (hb : Below B w w') (hB : rb < B) : RB w' rb N K v g := (hb.block rb hB).trans h
theorem RB.set (h : RB w rb N K v g) (v' : Value) (g' : Int) : RB ((w.setCell ⟨rb, 2, none⟩ v').setCell ⟨rb, 3, none⟩ (.int .i64 g')) rb N K v' g' := by
  unfold RB at h ⊢
  simp [World.setCell, Array.getElem?_modify, h]
end
theorem beqI (n k : Nat) : ((n : Int) == (k : Int)) = decide (n = k) := by
  by_cases h : n = k
  · subst h; simp
  · have : ¬ ((n : Int) = (k : Int)) := by omega
    simp [h, this]
set_option maxHeartbeats 1000000 in
theorem full_is {rb N K : Nat} {a : Option Addr} {n c : Nat} {g : Int} (w : World) (h : RB w rb N K (.slice a n c) g) (r : Bool) (hr : decide (n = K) = r) :
    Calls Try.prog 44 #[.pointer (some ⟨rb, 0, none⟩)] w fun e w' => e = .returned (.bool r) ∧ Below w.heap.size w w' := by
  have HE : Hid (((n : Int) == (K : Int)) = r) := by show _ = _; rw [← hr]; exact beqI n K
  have c1 := h.c1; have c2 := h.c2
  clear h hr
  go_enter Try.func44, Try.ntmps44
  go_wp2_with fail
  go_quiet (fail)
  go_wp2_with fail
  go_ret
  exact ⟨ret_bool HE.out, Below_drewN (Below.refl _ _) _⟩
set_option maxHeartbeats 1000000 in
theorem isBatch_is (a : Option Addr) (n c : Nat) (b : List UInt8) (w : World) (hn : n = b.length) (hr : Rd w w.heap.size a (bV b)) (hl : b.length ≤ 1000000000000) (hlc : n ≤ c) (hc : c ≤ maxLen) :
    Calls Try.prog 46 #[.slice a n c] w fun e w' => e = .returned (.bool (decide (errW (getW b) = 0))) ∧ Below w.heap.size w w' := by
  have HR := Lib.hid hr; have HN := Lib.hid hn; have HC := Lib.hid hc; have HLC := Lib.hid hlc
  clear hr hn hc hlc
  go_enter Try.func46, Try.ntmps46
  go_wp2_with fail
  refine (getW_is a n c b HN.out w HR.out hl HLC.out HC.out).mono ?_; rintro e w1 ⟨a1, c1, rfl, _, _, _, hb1⟩
  have HB1 := Lib.hid hb1; clear hb1
  go_wp2_with fail
  go_ret
  exact ⟨ret_bool (beqI _ 0), HB1.out⟩
end Go.Proofs.Ytkaafjcfcknbpaa
