import Derived.Test.YtlpalhlihckidaaWn
namespace Go.Proofs.Ytlpalhlihckidaa
open Go Go.RowKit

/-! A closure that keeps its place: the number of some bytes, a text. -/
set_option maxHeartbeats 1000000 in
theorem number_any (bb ab : Nat) (a : Option Addr) (c : Nat) (b : List UInt8) (p k : Nat) (w : World) (hc0 : w.cell? ⟨bb, 0, none⟩ = some (.slice a b.length c)) (hc1 : w.cell? ⟨ab, 0, none⟩ = some (.int .i64 (p : Int))) (hf : w.frozen? ⟨ab, 0, none⟩ = false)
    (hr : Rd w w.heap.size a (bV b)) (hl : b.length ≤ 1000000000000) (hk : cnt (k : Int) = k) (hk8 : k ≤ 8) (hp : p + k ≤ b.length) (G : Nat) (hG : gN b p k = G) :
    Calls Try.prog 43 #[.int .i64 (k : Int), .pointer (some ⟨bb, 0, none⟩), .pointer (some ⟨ab, 0, none⟩)] w fun e w' => e = .returned (.int .u64 (G : Int)) ∧ w' = w.setCell ⟨ab, 0, none⟩ (.int .i64 ((p + k : Nat) : Int)) := by
  have HR := Lib.hid hr; clear hr
  have HY : Hid (getR b (p : Int) (k : Int) = (G, true)) := by show _ = _; rw [getR_yes (by rw [hk]; omega), hk, Int.toNat_natCast, hG]
  have hw : IntKind.i64.wrap ((p : Int) + (k : Int)) = (p : Int) + (k : Int) := IntWalk.i64_in _ ⟨by omega, by omega⟩
  clear hk hG
  go_enter Try.func43, Try.ntmps43
  go_wp2_with fail
  refine (get_any a c b (p : Int) (k : Int) _ HR.out hl (by omega) (by omega) (by omega) (by omega)).mono ?_
  rw [HY.out]
  rintro e w1 ⟨rfl, rfl⟩
  go_wp2_with fail
  go_ret
  exact ⟨rfl, by simp⟩
set_option maxHeartbeats 1000000 in
theorem text_any (bb ab : Nat) (a : Option Addr) (c : Nat) (b : List UInt8) (p : Nat) (w : World) (hc0 : w.cell? ⟨bb, 0, none⟩ = some (.slice a b.length c)) (hc1 : w.cell? ⟨ab, 0, none⟩ = some (.int .i64 (p : Int))) (hf : w.frozen? ⟨ab, 0, none⟩ = false)
    (hr : Rd w w.heap.size a (bV b)) (hl : b.length ≤ 1000000000000) (hlc : b.length ≤ c) (hc : c ≤ maxLen) (hp : p ≤ b.length) (o : Option (List UInt8)) (ho : getT b (p : Int) = o) :
    Calls Try.prog 44 #[.pointer (some ⟨bb, 0, none⟩), .pointer (some ⟨ab, 0, none⟩)] w fun e w' => e = .returned (.tuple #[.string (txt o), .bool o.isSome]) ∧ w' = w.setCell ⟨ab, 0, none⟩ (.int .i64 ((p + 17 : Nat) : Int)) := by
  have HR := Lib.hid hr; have HO := Lib.hid ho; have HC := Lib.hid hc; clear hr ho hc
  have hw : IntKind.i64.wrap ((p : Int) + 17) = (p : Int) + 17 := IntWalk.i64_in _ ⟨by omega, by omega⟩
  go_enter Try.func44, Try.ntmps44
  go_wp2_with fail
  refine (getText_any a c b (p : Int) _ HR.out hl hlc HC.out (by omega) (by omega)).mono ?_
  rw [HO.out]
  rintro e w1 ⟨rfl, rfl⟩
  go_wp2_with fail
  go_ret2
  exact ⟨rfl, by simp⟩
set_option maxHeartbeats 1000000 in
theorem partsFrom_is (a : Option Addr) (n c : Nat) (p : Int) (w : World) :
    Calls Try.prog 35 #[.slice a n c, .int .i64 p] w fun e w' => e = .returned (.tuple #[.func (.func 43) #[] #[.pointer (some ⟨w.heap.size, 0, none⟩), .pointer (some ⟨w.heap.size + 1, 0, none⟩)], .func (.func 44) #[] #[.pointer (some ⟨w.heap.size, 0, none⟩), .pointer (some ⟨w.heap.size + 1, 0, none⟩)]]) ∧ w' = (w.alloc (.cells #[.slice a n c] 25)).alloc (.cells #[.int .i64 p] 3) := by
  have hmf : ∀ (fn : Fn) (first cap : Array Value) (w : World), (Instr.makeFunc fn first cap).run Try.prog w = .ok (.func fn first cap) w := fun _ _ _ _ => rfl
  go_enter Try.func35, Try.ntmps35
  go_wp2_with fail
  go_ret2
  exact ⟨rfl, rfl⟩
end Go.Proofs.Ytlpalhlihckidaa
