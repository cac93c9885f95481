import Derived.Test.YtlpalhlihckidaaWb
namespace Go.Proofs.Ytlpalhlihckidaa
open Go Go.RowKit Go.Sort

theorem refPut_is (n : Nat) (s : Int) (k : Nat) (hk : cnt s = k) (P : List UInt8) (hP : P = putL n k) (w : World) (hn : n < 18446744073709551616) :
    Calls Try.prog 19 #[.int .u64 (n : Int), .int .i64 s] w fun e w' => e = .returned (.string (bs P)) ∧ Below w.heap.size w w' := by
  subst hk hP; exact refPut_any n s w hn
theorem refPutText_is (s : ByteArray) (P : List UInt8) (hP : P = fldL s.data.toList) (w : World) (hs : s.size ≤ maxLen) :
    Calls Try.prog 33 #[.string s] w fun e w' => e = .returned (.string (bs P)) ∧ Below w.heap.size w w' := by
  subst hP; exact refPutText_any s w hs
set_option maxHeartbeats 2000000 in
theorem refSpan_nat (a b c k st du : Nat) (h n : ByteArray) (w : World) (ha : a < 18446744073709551616) (hb : b < 18446744073709551616) (hc : c < 18446744073709551616) (hk : k < 256) (hst : st < 9223372036854775808) (hdu : du < 9223372036854775808)
    (hh : h.size ≤ 16) (hn : n.size ≤ 16) :
    Calls Try.prog 20 #[(⟨a, b, c, k, h, n, st, du⟩ : Sp).v] w fun e w' => e = .returned (.string (bs (spanL ⟨a, b, c, k, h, n, st, du⟩))) ∧ Below w.heap.size w w' := by
  obtain ⟨P1, h1⟩ : ∃ P, P = putL a 8 := ⟨_, rfl⟩
  obtain ⟨P2, h2⟩ : ∃ P, P = putL b 8 := ⟨_, rfl⟩
  obtain ⟨P3, h3⟩ : ∃ P, P = putL c 8 := ⟨_, rfl⟩
  obtain ⟨P4, h4⟩ : ∃ P, P = putL k 1 := ⟨_, rfl⟩
  obtain ⟨P5, h5⟩ : ∃ P, P = putL st 8 := ⟨_, rfl⟩
  obtain ⟨P6, h6⟩ : ∃ P, P = putL du 8 := ⟨_, rfl⟩
  obtain ⟨P7, h7⟩ : ∃ P, P = fldL h.data.toList := ⟨_, rfl⟩
  obtain ⟨P8, h8⟩ : ∃ P, P = fldL n.data.toList := ⟨_, rfl⟩
  have HE : Hid (bs P1 ++ bs P2 ++ bs P3 ++ bs P4 ++ bs P5 ++ bs P6 ++ bs P7 ++ bs P8 = bs (spanL ⟨a, b, c, k, h, n, st, du⟩)) := by
    show _ = _
    simp only [bs_append, spanL, Int.toNat_natCast, h1, h2, h3, h4, h5, h6, h7, h8, List.append_assoc]
  have q1 : (bs P1).size = 8 := by rw [bs_size, h1, putL_length]
  have q2 : (bs P2).size = 8 := by rw [bs_size, h2, putL_length]
  have q3 : (bs P3).size = 8 := by rw [bs_size, h3, putL_length]
  have q4 : (bs P4).size = 1 := by rw [bs_size, h4, putL_length]
  have q5 : (bs P5).size = 8 := by rw [bs_size, h5, putL_length]
  have q6 : (bs P6).size = 8 := by rw [bs_size, h6, putL_length]
  have q7 : (bs P7).size = 17 := by rw [bs_size, h7, fldL_length (by simpa using hh)]
  have q8 : (bs P8).size = 17 := by rw [bs_size, h8, fldL_length (by simpa using hn)]
  have H1 := Lib.hid h1; have H2 := Lib.hid h2; have H3 := Lib.hid h3; have H4 := Lib.hid h4; have H5 := Lib.hid h5; have H6 := Lib.hid h6; have H7 := Lib.hid h7; have H8 := Lib.hid h8
  have HH := Lib.hid hh; have HN := Lib.hid hn
  clear h1 h2 h3 h4 h5 h6 h7 h8 hh hn
  have w1 : IntKind.u64.wrap (k : Int) = (k : Int) := IntWalk.u64_in _ ⟨by omega, by omega⟩
  have w2 : IntKind.u64.wrap (st : Int) = (st : Int) := IntWalk.u64_in _ ⟨by omega, by omega⟩
  have w3 : IntKind.u64.wrap (du : Int) = (du : Int) := IntWalk.u64_in _ ⟨by omega, by omega⟩
  unfold Sp.v
  go_enter Try.func20, Try.ntmps20
  go_wp2_with fail
  obtain ⟨W, hW⟩ : ∃ W, W = w.alloc (.cells (⟨a, b, c, k, h, n, st, du⟩ : Sp).c 41) := ⟨_, rfl⟩
  have HB : Hid (Below w.heap.size w W) := by show Below _ _ _; rw [hW]; exact box1 _ _
  have hbox : Box W w.heap.size ⟨a, b, c, k, h, n, st, du⟩ := by rw [hW]; exact Box.new _ _ _
  have hk0 : ∀ d os, (grow (redrawn W d) os).cell? ⟨w.heap.size, 0, none⟩ = some (.int .u64 (a : Int)) := fun d os => ((below_regrown W d os).cell hbox.1).trans hbox.all.1
  have hk1 : ∀ d os, (grow (redrawn W d) os).cell? ⟨w.heap.size, 1, none⟩ = some (.int .u64 (b : Int)) := fun d os => ((below_regrown W d os).cell hbox.1).trans hbox.all.2.1
  have hk2 : ∀ d os, (grow (redrawn W d) os).cell? ⟨w.heap.size, 2, none⟩ = some (.int .u64 (c : Int)) := fun d os => ((below_regrown W d os).cell hbox.1).trans hbox.all.2.2.1
  have hk3 : ∀ d os, (grow (redrawn W d) os).cell? ⟨w.heap.size, 3, none⟩ = some (.int .u8 (k : Int)) := fun d os => ((below_regrown W d os).cell hbox.1).trans hbox.all.2.2.2.1
  have hk4 : ∀ d os, (grow (redrawn W d) os).cell? ⟨w.heap.size, 4, none⟩ = some (.string h) := fun d os => ((below_regrown W d os).cell hbox.1).trans hbox.all.2.2.2.2.1
  have hk5 : ∀ d os, (grow (redrawn W d) os).cell? ⟨w.heap.size, 5, none⟩ = some (.string n) := fun d os => ((below_regrown W d os).cell hbox.1).trans hbox.all.2.2.2.2.2.1
  have hk6 : ∀ d os, (grow (redrawn W d) os).cell? ⟨w.heap.size, 6, none⟩ = some (.int .i64 (st : Int)) := fun d os => ((below_regrown W d os).cell hbox.1).trans hbox.all.2.2.2.2.2.2.1
  have hk7 : ∀ d os, (grow (redrawn W d) os).cell? ⟨w.heap.size, 7, none⟩ = some (.int .i64 (du : Int)) := fun d os => ((below_regrown W d os).cell hbox.1).trans hbox.all.2.2.2.2.2.2.2
  unfold Sp.c at hW
  rw [← hW]
  clear hW hbox
  refine wp_region_quiet_below (by kernel_rfl) (by kernel_rfl) ?_
  iterate 35 (first | go_big_quiet_step (first
    | (go_at_call 19; with_reducible (show Calls Try.prog 19 #[.int .u64 (a : Int), .int .i64 8] _ _); exact Calls.regrown_of (refPut_is a 8 8 rfl P1 H1.out _ ha))
    | (go_at_call 19; with_reducible (show Calls Try.prog 19 #[.int .u64 (b : Int), .int .i64 8] _ _); exact Calls.regrown_of (refPut_is b 8 8 rfl P2 H2.out _ hb))
    | (go_at_call 19; with_reducible (show Calls Try.prog 19 #[.int .u64 (c : Int), .int .i64 8] _ _); exact Calls.regrown_of (refPut_is c 8 8 rfl P3 H3.out _ hc))
    | (go_at_call 19; with_reducible (show Calls Try.prog 19 #[.int .u64 (k : Int), .int .i64 1] _ _); exact Calls.regrown_of (refPut_is k 1 1 rfl P4 H4.out _ (by omega)))
    | (go_at_call 19; with_reducible (show Calls Try.prog 19 #[.int .u64 (st : Int), .int .i64 8] _ _); exact Calls.regrown_of (refPut_is st 8 8 rfl P5 H5.out _ (by omega)))
    | (go_at_call 19; with_reducible (show Calls Try.prog 19 #[.int .u64 (du : Int), .int .i64 8] _ _); exact Calls.regrown_of (refPut_is du 8 8 rfl P6 H6.out _ (by omega)))
    | (go_at_call 33; with_reducible (show Calls Try.prog 33 #[.string h] _ _); exact Calls.regrown_of (refPutText_is h P7 H7.out _ (by have := HH.out; unfold maxLen; omega)))
    | (go_at_call 33; with_reducible (show Calls Try.prog 33 #[.string n] _ _); exact Calls.regrown_of (refPutText_is n P8 H8.out _ (by have := HN.out; unfold maxLen; omega)))) | fail)
  refine wpQuiet_nil ?_
  intro W3 hw'
  obtain ⟨⟨d, os⟩, hw''⟩ := hw'
  have hb3 := below_regrown W d os
  rw [← hw''] at hb3
  clear hw'' hk0 hk1 hk2 hk3 hk4 hk5 hk6 hk7
  go_wp2_with fail
  go_ret
  exact ⟨ret_str HE.out, bel2 HB.out hb3⟩
end Go.Proofs.Ytlpalhlihckidaa
