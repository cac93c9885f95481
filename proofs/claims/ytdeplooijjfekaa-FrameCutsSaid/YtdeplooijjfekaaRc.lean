import Derived.Test.YtdeplooijjfekaaRb
namespace Go.Proofs.Ytdeplooijjfekaa
open Go Go.RowKit

theorem put_is (a : Option Addr) (n c : Nat) (l : List UInt8) (N : Nat) (M s : Int) (k : Nat) (L : List UInt8) (w : World) (hn : n = l.length) (hM : M = (N : Int)) (hk : cnt s = k) (hL : L = l ++ putL N k) (hr : Rd w w.heap.size a (bV l)) (hl : l.length ≤ 1000000000000) (hlc : l.length ≤ c) (hN : N < 18446744073709551616)
    (h1 : -9223372036854775808 ≤ s) (h2 : s ≤ 9223372036854775807) :
    Calls Try.prog 17 #[.slice a n c, .int .u64 M, .int .i64 s] w (BytesOut w L) := by
  subst hn hk hL hM; exact put_out a c l N s w hr hl hlc hN h1 h2
theorem concat_is (a a1 a2 : Option Addr) (n n1 n2 c c1 c2 : Nat) (l1 l2 L : List UInt8) (w : World) (hn : n = 2) (h1 : n1 = l1.length) (h2 : n2 = l2.length) (hL : L = l1 ++ l2) (hr : Rd w w.heap.size a [.slice a1 n1 c1, .slice a2 n2 c2]) (r1 : Rd w w.heap.size a1 (bV l1)) (r2 : Rd w w.heap.size a2 (bV l2)) (b0 : 0 < l1.length + l2.length) (b1 : l1.length ≤ 100000000000) (b2 : l2.length ≤ 100000000000) :
    Calls Try.prog 19 #[.slice a n c] w (BytesOut w L) := by
  subst hL h1 h2; exact concat_two a a1 a2 n c c1 c2 l1 l2 w hn hr r1 r2 b0 b1 b2
/-- A frame is answered, or the error's number. -/
def FrOut (w : World) (L : List UInt8) (n : Nat) (e : Ending) (w' : World) : Prop :=
  ∃ a c, e = .returned (.tuple #[.slice a L.length c, .int .i64 (n : Int)]) ∧ L.length ≤ c ∧ c ≤ maxLen ∧ Rd w' w'.heap.size a (bV L) ∧ Below w.heap.size w w'
set_option maxHeartbeats 1000000 in
theorem putR_no (a : Option Addr) (n c : Nat) (w : World) (hm : mayF n = false) :
    Calls Try.prog 8 #[.slice a n c] w (FrOut w [] 1) := by
  have HM := Lib.hid hm; clear hm
  go_enter Try.func8, Try.ntmps8
  go_wp2_with fail
  refine (lengthMay_is n false HM.out _).mono ?_; rintro e w1 ⟨rfl, rfl⟩
  go_wp2_with fail
  go_ret2
  exact ⟨none, 0, rfl, Nat.le_refl _, by decide, Rd.nil _ _ _, Below.refl _ _⟩
set_option maxHeartbeats 1000000 in
theorem putR_yes (a : Option Addr) (n c : Nat) (l : List UInt8) (w : World) (hn : n = l.length) (hm : mayF l.length = true) (hr : Rd w w.heap.size a (bV l)) :
    Calls Try.prog 8 #[.slice a n c] w (FrOut w (frL l) 0) := by
  subst hn
  have HM := Lib.hid hm; have HR := Lib.hid hr; clear hr
  have hb := mayF_iff.1 hm
  clear hm
  obtain ⟨N, hN⟩ : ∃ N, N = l.length := ⟨_, rfl⟩
  rw [← hN] at hb
  have HN := Lib.hid hN
  have hw : IntKind.u64.wrap (N : Int) = (N : Int) := IntWalk.u64_in _ ⟨by omega, by omega⟩
  rw [← hN]
  clear hN
  obtain ⟨L2, h2⟩ : ∃ L, L = putL l.length 2 := ⟨_, rfl⟩
  have h2l : L2.length = 2 := by rw [h2, putL_length]
  obtain ⟨S, hS⟩ : ∃ S, sumF L2 l = S := ⟨_, rfl⟩
  have hSl : S < 4294967296 := by rw [← hS]; exact sumF_lt _ _
  obtain ⟨L6, h6⟩ : ∃ L, L = L2 ++ putL S 4 := ⟨_, rfl⟩
  have h6l : L6.length = 6 := by rw [h6, List.length_append, h2l, putL_length]
  have HF : Hid (frL l = L6 ++ l) := by show _ = _; rw [h6, ← hS, h2, frL, List.append_assoc]
  obtain ⟨LF, hLF⟩ : ∃ L, L = L6 ++ l := ⟨_, rfl⟩
  rw [← hLF] at HF
  have HLF := Lib.hid hLF
  clear hLF
  have H2 := Lib.hid h2; have HS := Lib.hid hS; have H6 := Lib.hid h6; have H2L := Lib.hid h2l; have H6L := Lib.hid h6l
  clear h2 hS h6 h2l h6l
  go_enter Try.func8, Try.ntmps8
  go_wp2_with fail
  refine (lengthMay_is N true (by rw [HN.out]; exact HM.out) _).mono ?_; rintro e w1 ⟨rfl, rfl⟩
  go_wp2_with fail
  refine (put_is none 0 0 [] N _ 2 2 L2 _ rfl rfl rfl (by rw [HN.out]; exact H2.out) (Rd.nil _ _ _) (by simp) (by simp) (by omega) (by omega) (by omega)).mono ?_; rintro e w1 ⟨a1, c1, rfl, hc1, _, hr1, hb1⟩
  have HR1 := Lib.hid hr1; have HB1 := Lib.hid hb1; have HC1 := Lib.hid hc1
  have HRL := Lib.hid ((HR.out.below hb1).more hb1.size)
  clear hr1 hb1 hc1
  go_wp2_with fail
  refine (sumOf_is a1 a L2.length N c1 c L2 l w1 rfl HN.out S HS.out HR1.out HRL.out (by rw [H2L.out]; omega) (by rw [← HN.out]; omega)).mono ?_; rintro e w2 ⟨rfl, hb2⟩
  have HR2 := Lib.hid ((HR1.out.below hb2).more hb2.size)
  have HRL2 := Lib.hid ((HRL.out.below hb2).more hb2.size)
  have HB2 := Lib.hid (bel2 HB1.out hb2)
  clear hb2
  go_wp2_with fail
  refine (put_is a1 L2.length c1 L2 S _ 4 4 L6 w2 rfl rfl rfl H6.out HR2.out (by rw [H2L.out]; omega) HC1.out (by omega) (by omega) (by omega)).mono ?_; rintro e w3 ⟨a3, c3, rfl, hc3, _, hr3, hb3⟩
  have HR3 := Lib.hid hr3; have HB3 := Lib.hid (bel2 HB2.out hb3)
  have HRL3 := Lib.hid ((HRL2.out.below hb3).more hb3.size)
  clear hr3 hb3 hc3
  go_wp2_with fail
  refine (concat_is _ a3 a 2 L6.length N 2 c3 c L6 l LF _ rfl rfl HN.out HLF.out (by exact (lit_rd w3 #[.slice a3 L6.length c3, .slice a N c] _).more (by simp)) ((HR3.out.below (box1 _ _)).more (by simp)) ((HRL3.out.below (box1 _ _)).more (by simp)) (by rw [H6L.out]; omega) (by rw [H6L.out]; omega) (by rw [← HN.out]; omega)).mono ?_; rintro e w4 ⟨a4, c4, rfl, hc4, hm4, hr4, hb4⟩
  have HO : Hid (FrOut w LF 0 (.returned (.tuple #[.slice a4 LF.length c4, .int .i64 0])) w4) := ⟨a4, c4, rfl, hc4, hm4, hr4, bel2 HB3.out (bel2 (box1 _ _) hb4)⟩
  clear hc4 hm4 hr4 hb4
  go_wp2_with fail
  go_ret2
  rw [HF.out]
  exact HO.out
end Go.Proofs.Ytdeplooijjfekaa
