import Derived.Test.YthdgmmippnebjaaQ
namespace Go.Proofs.Ythdgmmippnebjaa
open Go.Shelf Go.RowKit Go.Sort

theorem info26 : (Try.prog.info? 26).map (fun i => (i.zero, i.size, i.bytes)) = some (some (.agg #[.int .u64 0, .int .u64 0, .int .u64 0, .int .u8 0, .string ⟨#[]⟩, .string ⟨#[]⟩, .int .i64 0, .int .i64 0]), 8, 80) := by kernel_rfl

set_option maxHeartbeats 1000000 in
theorem sort_any (a : Option Addr) (c : Nat) (L : List Sp) (w : World) (ha : Rd w w.heap.size a (flatL L)) (hl : L.length ≤ 1000000) :
    Calls Try.prog 16 #[.slice a L.length c] w fun e w' => ∃ v, e = .returned v ∧ w'.ownsRow w.heap.size 26 8 v L.length (flatL (sortL L)) ∧ Below w.heap.size w w' := by
  obtain ⟨i0, hi0, hz0, hz1, hz2⟩ := info_parts info26
  have HZ2 := Lib.hid hz2; clear hz2
  have HA := Lib.hid ha; clear ha
  go_enter Try.func16, Try.ntmps16
  go_wp2_with (first
    | (at_make
       refine wpList_make_full _ rfl (.tmp 5) (.tmp 5) 32 rfl w.heap.size 26 i0 _ 8 Try.underlying32 hi0 hz0 hz1 .i64 .i64 _ _ L.length rfl rfl rfl rfl (by rw [HZ2.out]; omega) (by unfold maxLen; omega) (Nat.le_refl _) ?_
       intro w1 hown1 hg1
       have hb1 : RowKit.Below w.heap.size w w1 := (RowKit.Below.refl _ _).grown hg1 (Nat.le_refl _) (by simp)
       have HO1 := Lib.hid hown1; have HB1 := Lib.hid hb1; clear hown1 hg1 hb1)
    | (refine wpList_copy_all rfl (.tmp 7) (.tmp 8) 32 rfl w.heap.size 26 i0 8 Try.underlying32 hi0 hz1 w.heap.size L.length L.length _ rfl HO1.out w.heap.size a c (flatL L) rfl (flatL_length L) (by omega) (HA.out.below HB1.out) (flatL_one L) ?_
       intro w2 hown2 hg2
       have HB2 := Lib.hid (HB1.out.grown hg2 HB1.out.size (by simp)); have HO2 := Lib.hid hown2; clear hown2 hg2)
    | (go_at_call 33
       refine (sortFunc_own w.heap.size w.heap.size L.length L _ HO2.out (by omega)).mono ?_
       rintro e w3 ⟨rfl, hown3, hg3⟩))
  go_ret
  exact ⟨_, rfl, hown3, HB2.out.grown hg3 HB2.out.size (by simp)⟩
end Go.Proofs.Ythdgmmippnebjaa
