import Derived.Test.YtcckbpmhmlgjoaaCd
import Derived.Lib.SlBytesConst
namespace Go.Proofs.Ytcckbpmhmlgjoaa
open Go Go.RowKit

theorem nine_sum : moreL 0 [49, 50, 51, 52, 53, 54, 55, 56, 57] = 3421780262 := by decide +kernel
theorem none_sum : moreL 0 [] = 0 := by decide +kernel
set_option maxHeartbeats 1000000 in
theorem fixed_any (w : World) : Calls Try.prog 7 #[] w fun e w' => e = .returned (.bool true) ∧ Below w.heap.size w w' := by
  have HN := Lib.hid nine_sum; have HO := Lib.hid none_sum
  have kc := fun (w : World) (C : Array Value) (n c : Nat) => Lib.run_convert_bytes_const (P := Try.prog) w 22 5 C n c Try.underlying22 Try.underlying5
  go_enter Try.func7, Try.ntmps7
  go_wp2_with fail
  obtain ⟨W1, hW1⟩ : ∃ W1, W1 = w.alloc (.cells #[.int .u8 49, .int .u8 50, .int .u8 51, .int .u8 52, .int .u8 53, .int .u8 54, .int .u8 55, .int .u8 56, .int .u8 57] 5 (9, 10)) := ⟨_, rfl⟩
  have hr : Rd W1 W1.heap.size (some ⟨w.heap.size, 0, none⟩) (bV [49, 50, 51, 52, 53, 54, 55, 56, 57]) := fun _ => ⟨w.heap.size, 0, rfl, by rw [hW1]; simp, fun j u hu => by
    rw [hW1, Nat.zero_add, cell_of_row _ _ j _ _ (9, 10) (heap_alloc_last w _)]
    have e : bV [49, 50, 51, 52, 53, 54, 55, 56, 57] = (#[.int .u8 49, .int .u8 50, .int .u8 51, .int .u8 52, .int .u8 53, .int .u8 54, .int .u8 55, .int .u8 56, .int .u8 57] : Array Value).toList := by simp [bV]
    rw [e] at hu
    simpa using hu⟩
  have hb0 : Below w.heap.size w W1 := by rw [hW1]; exact box1 _ _
  rw [← hW1]
  clear hW1
  refine (sum_any _ 9 _ W1 hr (by simp)).mono ?_
  rw [HN.out]
  rintro e w1 ⟨rfl, hb1⟩
  go_wp2_with fail
  refine (sum_any none 0 [] w1 (Rd.nil _ _ _) (by simp)).mono ?_
  rw [HO.out]
  rintro e w2 ⟨rfl, hb2⟩
  go_wp2_with fail
  go_ret
  exact ⟨ret_bool rfl, bel2 (bel2 hb0 hb1) hb2⟩
end Go.Proofs.Ytcckbpmhmlgjoaa
