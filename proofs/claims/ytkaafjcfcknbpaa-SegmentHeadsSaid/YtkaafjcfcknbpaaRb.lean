import Derived.Test.YtkaafjcfcknbpaaRa
import Derived.Test.YtkaafjcfcknbpaaCc
import Derived.Test.YtkaafjcfcknbpaaGe
import Derived.Lib.AppendZeros
namespace Go.Proofs.Ytkaafjcfcknbpaa
open Go Go.RowKit

set_option maxRecDepth 20000
set_option maxHeartbeats 400000 in
theorem lengthMay_any (n : Nat) (w : World) : Calls Try.prog 32 #[.int .i64 (n : Int)] w fun e w' => e = .returned (.bool (mayF n)) ∧ w = w' := by
  by_cases h : 1 ≤ n
  · go_enter Try.func32, Try.ntmps32
    go_wp2
    go_ret
    exact ⟨ret_bool (by simp [mayF, h]; omega), rfl⟩
  · go_enter Try.func32, Try.ntmps32
    go_wp2
    go_ret
    exact ⟨ret_bool (by simp [mayF, h]), rfl⟩
theorem lengthMay_is (n : Nat) (b : Bool) (h : mayF n = b) (w : World) : Calls Try.prog 32 #[.int .i64 (n : Int)] w fun e w' => e = .returned (.bool b) ∧ w = w' := by
  subst h; exact lengthMay_any n w
set_option maxHeartbeats 400000 in
theorem sumOf_is (a1 a2 : Option Addr) (n1 n2 c1 c2 : Nat) (l1 l2 : List UInt8) (w : World) (h1 : n1 = l1.length) (h2 : n2 = l2.length) (S : Nat) (hS : sumF l1 l2 = S) (r1 : Rd w w.heap.size a1 (bV l1)) (r2 : Rd w w.heap.size a2 (bV l2)) (b1 : l1.length ≤ 1000000000000) (b2 : l2.length ≤ 1000000000000) :
    Calls Try.prog 33 #[.slice a1 n1 c1, .slice a2 n2 c2] w fun e w' => e = .returned (.int .u64 (S : Int)) ∧ Below w.heap.size w w' := by
  have R1 := Lib.hid r1; have R2 := Lib.hid r2; clear r1 r2
  have H1 := Lib.hid h1; have H2 := Lib.hid h2; clear h1 h2
  obtain ⟨T, hT⟩ : ∃ T, T = moreL 0 l1 := ⟨_, rfl⟩
  have hTl : T < 4294967296 := by rw [hT]; exact moreL_lt _ _
  have hE : moreL T l2 = S := by rw [hT, moreL_parts]; exact hS
  have hSl : S < 4294967296 := by rw [← hS]; exact sumF_lt _ _
  have HT := Lib.hid hT; have HE := Lib.hid hE; clear hT hE hS
  have hw : IntKind.u64.wrap (S : Int) = (S : Int) := IntWalk.u64_in _ ⟨by omega, by omega⟩
  go_enter Try.func33, Try.ntmps33
  go_wp2_with fail
  refine (sum_is a1 n1 c1 l1 w H1.out T HT.out R1.out b1).mono ?_; rintro e w1 ⟨rfl, hb1⟩
  have R2' := Lib.hid ((R2.out.below hb1).more hb1.size)
  go_wp2_with fail
  refine (more_is T a2 n2 c2 l2 w1 H2.out S HE.out hTl R2'.out b2).mono ?_; rintro e w2 ⟨rfl, hb2⟩
  go_wp2_with fail
  go_ret
  exact ⟨rfl, bel2 hb1 hb2⟩
set_option maxHeartbeats 1000000 in
theorem grow_nil (n : Nat) (h0 : 0 < n) (hn : n ≤ 1000000000000) (w : World) :
    Calls Try.prog 54 #[.slice none 0 0, .int .i64 (n : Int)] w fun e w' => ∃ c, e = .returned (.slice (some ⟨w.heap.size, 0, none⟩) 0 c) ∧ w'.ownsRow w.heap.size 5 1 (.slice (some ⟨w.heap.size, 0, none⟩) 0 c) 0 [] ∧ Below w.heap.size w w' := by
  obtain ⟨i0, hi0, hz0, hz1, hz2⟩ := info_parts info_u8
  have hrz : ∀ ty, (Builtin.append_ #[23, 3] ty #[.slice none 0 0, .int .i64 (n : Int)]).run Try.prog w = .ok (.slice (some ⟨w.heap.size, 0, none⟩) n (grownCap w n 0 5)) (w.drew.alloc (.cells (Builtin.zeroCells (Value.int .u8 0).cells n ++ Builtin.zeroCells (Value.int .u8 0).cells (grownCap w n 0 5 - n)) 5)) := fun ty =>
    Lib.run_append_nil_zeros w 23 3 ty 5 i0 (.int .u8 0) .i64 .i64 Try.underlying23 Try.underlying3 hi0 hz0 n h0 (by rw [hz1]; omega) (by omega) (by rw [hz2]; omega)
  have hge : n ≤ grownCap w n 0 5 := grownCap_ge w _ _ _
  have hle : grownCap w n 0 5 ≤ maxLen := grownCap_le_maxLen w _ _ _ (by unfold maxLen; omega)
  obtain ⟨G, hG⟩ : ∃ G, G = grownCap w n 0 5 := ⟨_, rfl⟩
  rw [← hG] at hge hle hrz
  obtain ⟨Z, hZ⟩ : ∃ Z, Z = Builtin.zeroCells (Value.int .u8 0).cells n ++ Builtin.zeroCells (Value.int .u8 0).cells (G - n) := ⟨_, rfl⟩
  rw [← hZ] at hrz
  have hZs : Z.size = G := by rw [hZ]; simp [size_zeroCells, Value.cells]; omega
  clear hZ hG hz2
  have hG63 : G ≤ 9223372036854775807 := by unfold maxLen at hle; omega
  go_enter Try.func54, Try.ntmps54
  go_wp2_with (at_builtin; refine Lib.wpList_append_run _ rfl _ _ _ _ rfl _ _ rfl rfl _ _ (hrz _) ?_)
  go_ret
  refine ⟨G, rfl, ⟨rfl, .inr ⟨w.heap.size, G, Z, rfl, Nat.le_refl _, heap_alloc_new w.drew _, Nat.zero_le _, hle, by rw [hZs, Nat.mul_one], rfl⟩⟩, (Below_drew (Below.refl w.heap.size w)).alloc (Nat.le_refl _) _⟩
theorem grow_is (n : Nat) (N : Int) (hN : N = (n : Int)) (h0 : 0 < n) (hn : n ≤ 1000000000000) (w : World) :
    Calls Try.prog 54 #[.slice none 0 0, .int .i64 N] w fun e w' => ∃ c, e = .returned (.slice (some ⟨w.heap.size, 0, none⟩) 0 c) ∧ w'.ownsRow w.heap.size 5 1 (.slice (some ⟨w.heap.size, 0, none⟩) 0 c) 0 [] ∧ Below w.heap.size w w' := by
  subst hN; exact grow_nil n h0 hn w
set_option maxHeartbeats 1000000 in
theorem concat_two (a a1 a2 : Option Addr) (n c c1 c2 : Nat) (l1 l2 : List UInt8) (w : World) (hn : n = 2) (hr : Rd w w.heap.size a [.slice a1 l1.length c1, .slice a2 l2.length c2]) (r1 : Rd w w.heap.size a1 (bV l1)) (r2 : Rd w w.heap.size a2 (bV l2)) (b0 : 0 < l1.length + l2.length) (b1 : l1.length ≤ 100000000000) (b2 : l2.length ≤ 100000000000) :
    Calls Try.prog 34 #[.slice a n c] w (BytesOut w (l1 ++ l2)) := by
  subst hn
  obtain ⟨b, off, rfl, hb, hc⟩ := hr (by simp)
  have h0 : w.cell? ⟨b, off, none⟩ = some (.slice a1 l1.length c1) := hc 0 _ rfl
  have h1 : w.cell? ⟨b, off + 1, none⟩ = some (.slice a2 l2.length c2) := hc 1 _ rfl
  clear hc hr
  have R1 := Lib.hid r1; have R2 := Lib.hid r2; clear r1 r2
  obtain ⟨i0, hi0, hz0, hz1, hz2⟩ := info_parts info_u8
  have HZ2 := Lib.hid hz2; clear hz2
  go_enter Try.func34, Try.ntmps34
  have hszf : ∃ sz : Nat → Nat, sz 0 = 0 ∧ sz 1 = l1.length ∧ sz 2 = l1.length + l2.length := ⟨fun k => if k = 0 then 0 else if k = 1 then l1.length else l1.length + l2.length, rfl, rfl, rfl⟩
  obtain ⟨sz, hs0, hs1, hs2⟩ := hszf
  have HS0 := Lib.hid hs0; have HS1 := Lib.hid hs1; have HS2 := Lib.hid hs2; clear hs0 hs1 hs2
  go_wp2_with fail
  go_loop [3, 5, 11] (fun s _ i => ∃ k : Nat, k ≤ 2 ∧ i = .int .i64 k ∧ s = .int .i64 (sz k : Nat)) (fun _ _ i => 2 - (intOf i).toNat)
  case atStart => exact ⟨0, by omega, rfl, by rw [HS0.out]; rfl⟩
  case round =>
    obtain ⟨k, hk, rfl, rfl⟩ := hrel
    obtain rfl | rfl | rfl : k = 0 ∨ k = 1 ∨ k = 2 := by omega
    · rw [HS0.out]
      go_wp2_with fail
      go_round
      case rel => exact ⟨1, by omega, by go_num, by rw [HS1.out]⟩
      case measure => simp [intOf]
    · rw [HS1.out]
      go_wp2_with fail
      go_round
      case rel => exact ⟨2, by omega, by go_num, by rw [HS2.out]; simp⟩
      case measure => simp [intOf]
    · rw [HS2.out]
      go_wp2_with fail
      refine (grow_is (l1.length + l2.length) _ (by simp) b0 (by omega) w).mono ?_; rintro e w1 ⟨c3, rfl, ho1, hb1⟩
      have HO1 := Lib.hid ho1; have HB1 := Lib.hid hb1
      have R1' := Lib.hid ((R1.out.below hb1).more hb1.size); have R2' := Lib.hid ((R2.out.below hb1).more hb1.size)
      have g0 : w1.cell? ⟨b, off, none⟩ = some (.slice a1 l1.length c1) := by rw [hb1.cell (p := ⟨b, off, none⟩) hb]; exact h0
      have g1 : w1.cell? ⟨b, off + 1, none⟩ = some (.slice a2 l2.length c2) := by rw [hb1.cell (p := ⟨b, off + 1, none⟩) hb]; exact h1
      clear ho1
      obtain ⟨acc, ha0, ha1, ha2⟩ : ∃ acc : Nat → List UInt8, acc 0 = [] ∧ acc 1 = l1 ∧ acc 2 = l1 ++ l2 := ⟨fun k => if k = 0 then [] else if k = 1 then l1 else l1 ++ l2, rfl, rfl, rfl⟩
      have HA0 := Lib.hid ha0; have HA1 := Lib.hid ha1; have HA2 := Lib.hid ha2; clear ha0 ha1 ha2
      have HS0' : Hid (w.heap.size ≤ w1.heap.size) := hb1.size
      go_wp2_with fail
      go_loopw [6, 8, 27] (fun v _ i wr => ∃ k : Nat, k ≤ 2 ∧ i = .int .i64 k ∧ wr.ownsRow w.heap.size 5 1 v (sz k) (bV (acc k)) ∧ Below w.heap.size w wr) (fun _ _ i _ => 2 - (intOf i).toNat)
      case atStart => exact ⟨0, by omega, rfl, by rw [HS0.out, HA0.out]; exact HO1.out, HB1.out⟩
      case round =>
        obtain ⟨k, hk, rfl, hown, hbw⟩ := hrel
        have HO := Lib.hid hown; have HB := Lib.hid hbw
        have hBs : w.heap.size ≤ wr.heap.size := hbw.size
        obtain rfl | rfl | rfl : k = 0 ∨ k = 1 ∨ k = 2 := by omega
        · have q0 : wr.cell? ⟨b, off, none⟩ = some (.slice a1 l1.length c1) := by rw [hbw.cell (p := ⟨b, off, none⟩) hb]; exact h0
          rw [HS0.out, HA0.out] at HO
          have R1' := Lib.hid ((R1.out.below hbw).more hbw.size)
          clear hown hbw h0 h1
          go_wp2_with (refine wpList_append_rd _ rfl (.tmp 31) (.tmp 32) 23 rfl w.heap.size 5 i0 _ 1 1 Try.underlying23 hi0 hz0 hz1 HZ2.out rfl (by omega) _ 0 [] rfl HO.out _ _ l1.length _ (bV l1) rfl (by rw [bV_length, Nat.mul_one]) R1'.out (bV_one _) (by unfold maxLen; omega) (by omega) hBs ?_
                       intro v7 w3 hown3 hg3 hk3
                       have HO3 := Lib.hid hown3; have HB3 := Lib.hid (Below.of_grown HB.out hg3 hBs (by intro g hg; exact (own_shape HO.out hg).1)); clear hown3 hg3 hk3)
          go_roundw
          case rel => exact ⟨1, by omega, by go_num, by rw [HS1.out, HA1.out]; have h := HO3.out; rwa [Nat.zero_add, List.nil_append] at h, HB3.out⟩
          case measure => simp [intOf]
        · have q1 : wr.cell? ⟨b, off + 1, none⟩ = some (.slice a2 l2.length c2) := by rw [hbw.cell (p := ⟨b, off + 1, none⟩) hb]; exact h1
          rw [HS1.out, HA1.out] at HO
          have R2' := Lib.hid ((R2.out.below hbw).more hbw.size)
          clear hown hbw h0 h1
          go_wp2_with (refine wpList_append_rd _ rfl (.tmp 31) (.tmp 32) 23 rfl w.heap.size 5 i0 _ 1 1 Try.underlying23 hi0 hz0 hz1 HZ2.out rfl (by omega) _ l1.length (bV l1) rfl HO.out _ _ l2.length _ (bV l2) rfl (by rw [bV_length, Nat.mul_one]) R2'.out (bV_one _) (by unfold maxLen; omega) (by omega) hBs ?_
                       intro v7 w3 hown3 hg3 hk3
                       have HO3 := Lib.hid hown3; have HB3 := Lib.hid (Below.of_grown HB.out hg3 hBs (by intro g hg; exact (own_shape HO.out hg).1)); clear hown3 hg3 hk3)
          go_roundw
          case rel => exact ⟨2, by omega, by go_num, by rw [HS2.out, HA2.out, bV_append]; exact HO3.out, HB3.out⟩
          case measure => simp [intOf]
        · rw [HS2.out, HA2.out] at HO
          clear hown hbw
          go_wp2_with fail
          go_ret
          exact own_out rfl HO.out HB.out
end Go.Proofs.Ytkaafjcfcknbpaa

namespace Go.Proofs.Ytkaafjcfcknbpaa
open Go Go.RowKit

set_option maxRecDepth 20000
theorem put6_is (a : Option Addr) (n c : Nat) (l : List UInt8) (N : Nat) (M s : Int) (k : Nat) (L : List UInt8) (w : World) (hn : n = l.length) (hM : M = (N : Int)) (hk : cnt s = k) (hL : L = l ++ putL N k) (hr : Rd w w.heap.size a (bV l)) (hl : l.length ≤ 1000000000000) (hlc : l.length ≤ c) (hN : N < 18446744073709551616)
    (h1 : -9223372036854775808 ≤ s) (h2 : s ≤ 9223372036854775807) :
    Calls Try.prog 18 #[.slice a n c, .int .u64 M, .int .i64 s] w (BytesOut w L) := by
  subst hn hk hL hM; exact put_out a c l N s w hr hl hlc hN h1 h2
theorem concat_is (a a1 a2 : Option Addr) (n n1 n2 c c1 c2 : Nat) (l1 l2 L : List UInt8) (w : World) (hn : n = 2) (h1 : n1 = l1.length) (h2 : n2 = l2.length) (hL : L = l1 ++ l2) (hr : Rd w w.heap.size a [.slice a1 n1 c1, .slice a2 n2 c2]) (r1 : Rd w w.heap.size a1 (bV l1)) (r2 : Rd w w.heap.size a2 (bV l2)) (b0 : 0 < l1.length + l2.length) (b1 : l1.length ≤ 100000000000) (b2 : l2.length ≤ 100000000000) :
    Calls Try.prog 34 #[.slice a n c] w (BytesOut w L) := by
  subst hL h1 h2; exact concat_two a a1 a2 n c c1 c2 l1 l2 w hn hr r1 r2 b0 b1 b2
/-- A frame is answered, or the error's number. -/
def FrOut (w : World) (L : List UInt8) (n : Nat) (e : Ending) (w' : World) : Prop :=
  ∃ a c, e = .returned (.tuple #[.slice a L.length c, .int .i64 (n : Int)]) ∧ L.length ≤ c ∧ c ≤ maxLen ∧ Rd w' w'.heap.size a (bV L) ∧ Below w.heap.size w w'
set_option maxHeartbeats 1000000 in
theorem putR_no (a : Option Addr) (n c : Nat) (w : World) (hm : mayF n = false) :
    Calls Try.prog 15 #[.slice a n c] w (FrOut w [] 1) := by
  have HM := Lib.hid hm; clear hm
  go_enter Try.func15, Try.ntmps15
  go_wp2_with fail
  refine (lengthMay_is n false HM.out _).mono ?_; rintro e w1 ⟨rfl, rfl⟩
  go_wp2_with fail
  go_ret2
  exact ⟨none, 0, rfl, Nat.le_refl _, by decide, Rd.nil _ _ _, Below.refl _ _⟩
set_option maxHeartbeats 1000000 in
theorem putR_yes (a : Option Addr) (n c : Nat) (l : List UInt8) (w : World) (hn : n = l.length) (hm : mayF l.length = true) (hr : Rd w w.heap.size a (bV l)) :
    Calls Try.prog 15 #[.slice a n c] w (FrOut w (frL l) 0) := by
  subst hn
  have HM := Lib.hid hm; have HR := Lib.hid hr; clear hr
  have hb := mayF_iff.1 hm
  clear hm
  obtain ⟨N, hN⟩ : ∃ N, N = l.length := ⟨_, rfl⟩
  rw [← hN] at hb
  have HN := Lib.hid hN
  have hw : IntKind.u64.wrap (N : Int) = (N : Int) := IntWalk.u64_in _ ⟨by omega, by omega⟩
  rw [← hN]
  clear hN
  obtain ⟨L2, h2⟩ : ∃ L, L = putL l.length 2 := ⟨_, rfl⟩
  have h2l : L2.length = 2 := by rw [h2, putL_length]
  obtain ⟨S, hS⟩ : ∃ S, sumF L2 l = S := ⟨_, rfl⟩
  have hSl : S < 4294967296 := by rw [← hS]; exact sumF_lt _ _
  obtain ⟨L6, h6⟩ : ∃ L, L = L2 ++ putL S 4 := ⟨_, rfl⟩
  have h6l : L6.length = 6 := by rw [h6, List.length_append, h2l, putL_length]
  have HF : Hid (frL l = L6 ++ l) := by show _ = _; rw [h6, ← hS, h2, frL, List.append_assoc]
  obtain ⟨LF, hLF⟩ : ∃ L, L = L6 ++ l := ⟨_, rfl⟩
  rw [← hLF] at HF
  have HLF := Lib.hid hLF
  clear hLF
  have H2 := Lib.hid h2; have HS := Lib.hid hS; have H6 := Lib.hid h6; have H2L := Lib.hid h2l; have H6L := Lib.hid h6l
  clear h2 hS h6 h2l h6l
  go_enter Try.func15, Try.ntmps15
  go_wp2_with fail
  refine (lengthMay_is N true (by rw [HN.out]; exact HM.out) _).mono ?_; rintro e w1 ⟨rfl, rfl⟩
  go_wp2_with fail
  refine (put6_is none 0 0 [] N _ 2 2 L2 _ rfl rfl rfl (by rw [HN.out]; exact H2.out) (Rd.nil _ _ _) (by simp) (by simp) (by omega) (by omega) (by omega)).mono ?_; rintro e w1 ⟨a1, c1, rfl, hc1, _, hr1, hb1⟩
  have HR1 := Lib.hid hr1; have HB1 := Lib.hid hb1; have HC1 := Lib.hid hc1
  have HRL := Lib.hid ((HR.out.below hb1).more hb1.size)
  clear hr1 hb1 hc1
  go_wp2_with fail
  refine (sumOf_is a1 a L2.length N c1 c L2 l w1 rfl HN.out S HS.out HR1.out HRL.out (by rw [H2L.out]; omega) (by rw [← HN.out]; omega)).mono ?_; rintro e w2 ⟨rfl, hb2⟩
  have HR2 := Lib.hid ((HR1.out.below hb2).more hb2.size)
  have HRL2 := Lib.hid ((HRL.out.below hb2).more hb2.size)
  have HB2 := Lib.hid (bel2 HB1.out hb2)
  clear hb2
  go_wp2_with fail
  refine (put6_is a1 L2.length c1 L2 S _ 4 4 L6 w2 rfl rfl rfl H6.out HR2.out (by rw [H2L.out]; omega) HC1.out (by omega) (by omega) (by omega)).mono ?_; rintro e w3 ⟨a3, c3, rfl, hc3, _, hr3, hb3⟩
  have HR3 := Lib.hid hr3; have HB3 := Lib.hid (bel2 HB2.out hb3)
  have HRL3 := Lib.hid ((HRL2.out.below hb3).more hb3.size)
  clear hr3 hb3 hc3
  go_wp2_with fail
  refine (concat_is _ a3 a 2 L6.length N 2 c3 c L6 l LF _ rfl rfl HN.out HLF.out (by exact (lit_rd w3 #[.slice a3 L6.length c3, .slice a N c] _).more (by simp)) ((HR3.out.below (box1 _ _)).more (by simp)) ((HRL3.out.below (box1 _ _)).more (by simp)) (by rw [H6L.out]; omega) (by rw [H6L.out]; omega) (by rw [← HN.out]; omega)).mono ?_; rintro e w4 ⟨a4, c4, rfl, hc4, hm4, hr4, hb4⟩
  have HO : Hid (FrOut w LF 0 (.returned (.tuple #[.slice a4 LF.length c4, .int .i64 0])) w4) := ⟨a4, c4, rfl, hc4, hm4, hr4, bel2 HB3.out (bel2 (box1 _ _) hb4)⟩
  clear hc4 hm4 hr4 hb4
  go_wp2_with fail
  go_ret2
  rw [HF.out]
  exact HO.out
end Go.Proofs.Ytkaafjcfcknbpaa

