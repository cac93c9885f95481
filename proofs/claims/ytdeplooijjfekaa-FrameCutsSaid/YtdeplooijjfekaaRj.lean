import Derived.Test.YtdeplooijjfekaaRg
import Derived.Test.YtdeplooijjfekaaRi
import Derived.Lib.SlBytesConst
namespace Go.Proofs.Ytdeplooijjfekaa
open Go Go.RowKit

theorem frA_length : (frL [97]).length = 7 := by rw [frL_length]; rfl
theorem frA0 : (frL [97])[0]'(by rw [frA_length]; omega) = 1 := by decide +kernel
theorem frA1 : (frL [97])[1]'(by rw [frA_length]; omega) = 0 := by decide +kernel
theorem frA6 : (frL [97])[6]'(by rw [frA_length]; omega) = 97 := by decide +kernel
theorem putR_is (a : Option Addr) (n c : Nat) (l L : List UInt8) (E : Nat) (w : World) (hn : n = l.length) (hL : (if mayF l.length = true then (frL l, 0) else ([], 1)) = (L, E)) (hr : Rd w w.heap.size a (bV l)) :
    Calls Try.prog 8 #[.slice a n c] w (FrOut w L E) := by
  subst hn
  cases hm : mayF l.length with
  | true =>
    rw [hm, if_pos rfl] at hL
    injection hL with h1 h2
    subst h1 h2
    exact putR_yes a _ c l w rfl hm hr
  | false =>
    rw [hm, if_neg (by simp)] at hL
    injection hL with h1 h2
    subst h1 h2
    exact putR_no a _ c w hm
theorem refFr_is (t : ByteArray) (l L : List UInt8) (E : Nat) (w : World) (ht : t = bs l) (hL : (if mayF l.length = true then (frL l, 0) else ([], 1)) = (L, E)) :
    Calls Try.prog 9 #[.string t] w (RefFr w L E) := by
  cases hm : mayF l.length with
  | true =>
    rw [hm, if_pos rfl] at hL
    injection hL with h1 h2
    subst h1 h2
    exact refFr_yes t l w ht hm
  | false =>
    rw [hm, if_neg (by simp)] at hL
    injection hL with h1 h2
    subst h1 h2
    exact refFr_no t l w ht hm
set_option maxHeartbeats 1000000 in
theorem fixed_any (w : World) : Calls Try.prog 7 #[] w fun e w' => e = .returned (.bool true) ∧ Below w.heap.size w w' := by
  have kc := fun (w : World) (C : Array Value) (n c : Nat) => Lib.run_convert_bytes_const (P := Try.prog) w 22 5 C n c Try.underlying22 Try.underlying5
  go_enter Try.func7, Try.ntmps7
  go_wp2_with fail
  obtain ⟨W1, hW1⟩ : ∃ W1, W1 = w.alloc (.cells #[.int .u8 97] 5 (1, 2)) := ⟨_, rfl⟩
  have hr : Rd W1 W1.heap.size (some ⟨w.heap.size, 0, none⟩) (bV [97]) := fun _ => ⟨w.heap.size, 0, rfl, by rw [hW1]; simp, fun j u hu => by
    rw [hW1, Nat.zero_add, cell_of_row _ _ j _ _ (1, 2) (heap_alloc_last w _)]
    have e : bV [97] = (#[.int .u8 97] : Array Value).toList := by simp [bV]
    rw [e] at hu
    simpa using hu⟩
  have hb0 : Below w.heap.size w W1 := by rw [hW1]; exact box1 _ _
  rw [← hW1]
  clear hW1
  refine (putR_is _ 1 1 [97] (frL [97]) 0 W1 rfl rfl hr).mono ?_; rintro e w1 ⟨a1, c1, rfl, hc1, _, hr1, hb1⟩
  have HB1 := Lib.hid (bel2 hb0 hb1)
  obtain ⟨b2, off, rfl, _, hcell⟩ := hr1 (by rw [bV_length, frA_length]; omega)
  have q0 : w1.cell? ⟨b2, off, none⟩ = some (.int .u8 1) := by have := hcell 0 _ (bV_get (frL [97]) 0 (by rw [frA_length]; omega)); rw [frA0] at this; exact this
  have q1 : w1.cell? ⟨b2, off + 1, none⟩ = some (.int .u8 0) := by have := hcell 1 _ (bV_get (frL [97]) 1 (by rw [frA_length]; omega)); rw [frA1] at this; exact this
  have q6 : w1.cell? ⟨b2, off + 6, none⟩ = some (.int .u8 97) := by have := hcell 6 _ (bV_get (frL [97]) 6 (by rw [frA_length]; omega)); rw [frA6] at this; exact this
  rw [frA_length] at hc1 ⊢
  clear hcell hr1 hb1 hr hb0
  go_wp2_with fail
  go_ret
  exact ⟨rfl, HB1.out⟩
end Go.Proofs.Ytdeplooijjfekaa
