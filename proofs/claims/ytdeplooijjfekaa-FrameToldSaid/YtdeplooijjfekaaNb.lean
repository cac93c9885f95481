import Derived.Test.YtdeplooijjfekaaPa
namespace Go.Proofs.Ytdeplooijjfekaa
open Go Go.RowKit

/-- The lowest bytes of a number. -/
def putL (n k : Nat) : List UInt8 := (List.range k).map (byt n)
theorem putL_length (n k : Nat) : (putL n k).length = k := by simp [putL]
set_option maxHeartbeats 1000000 in
theorem put_any (a : Option Addr) (c : Nat) (l : List UInt8) (n : Nat) (s : Int) (w : World) (hr : Rd w w.heap.size a (bV l)) (hl : l.length ≤ 1000000000000) (hlc : l.length ≤ c) (hn : n < 18446744073709551616)
    (h1 : -9223372036854775808 ≤ s) (h2 : s ≤ 9223372036854775807) :
    Calls Try.prog 17 #[.slice a l.length c, .int .u64 n, .int .i64 s] w
      fun e w' => ∃ v, e = .returned v ∧ w'.ownsRow w.heap.size 5 1 v (l.length + cnt s) (bV (l ++ putL n (cnt s))) ∧ Below w.heap.size w w' := by
  have HR := Lib.hid hr; clear hr
  have hmf : ∀ (fn : Fn) (first cap : Array Value) (w : World), (Instr.makeFunc fn first cap).run Try.prog w = .ok (.func fn first cap) w := fun _ _ _ _ => rfl
  have hk := cnt_le s
  have H1 := Lib.hid h1; have H2 := Lib.hid h2; clear h1 h2
  go_enter Try.func17, Try.ntmps17
  go_wp2_with (go_at_call 27; refine (counted_any _ _ H1.out H2.out).mono ?_; rintro e w' ⟨rfl, rfl⟩)
  refine (lay_any (.func (.func 28) #[] #[.pointer (some ⟨w.heap.size, 0, none⟩)]) 28 #[.pointer (some ⟨w.heap.size, 0, none⟩)] (byt n) (cnt s) a c l _ ((HR.out.below (box1 w _)).more (by simp)) hl hlc (by omega) (fun _ => rfl) (fun _ => enters_at Try.func28 (by kernel_rfl) rfl) ?_).mono ?_
  · intro i hi W hW
    exact put1_any n i _ W (by omega) hn (by rw [hW.cell (by simp)]; go_simp)
  rintro e w1 ⟨v, rfl, hown, hb⟩
  go_wp2
  go_ret
  exact ⟨v, rfl, own_base hown (by simp), bel2 (box1 w _) hb⟩

def stB (n : Nat) (at_ size : Int) : Bool := decide (0 ≤ at_) && decide (size ≤ n - at_)
set_option maxHeartbeats 400000 in
theorem stands_any (a : Option Addr) (c n : Nat) (at_ size : Int) (w : World) (hn : n ≤ 1000000000000) (h1 : -9223372036854775808 ≤ at_) (h2 : at_ ≤ 9223372036854775807) :
    Calls Try.prog 37 #[.slice a n c, .int .i64 at_, .int .i64 size] w fun e w' => e = .returned (.bool (stB n at_ size)) ∧ w = w' := by
  by_cases h0 : 0 ≤ at_
  · go_enter Try.func37, Try.ntmps37
    go_wp2
    go_ret
    exact ⟨ret_bool (by simp [stB, h0]), rfl⟩
  · go_enter Try.func37, Try.ntmps37
    go_wp2
    go_ret
    exact ⟨ret_bool (by simp [stB]; omega), rfl⟩
end Go.Proofs.Ytdeplooijjfekaa
