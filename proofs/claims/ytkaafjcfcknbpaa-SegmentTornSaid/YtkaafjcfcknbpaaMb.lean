import Derived.Test.YtkaafjcfcknbpaaMa
import Derived.Test.YtkaafjcfcknbpaaRd
import Derived.Test.YtkaafjcfcknbpaaWj
import Derived.Lib.SlBytesConst
namespace Go.Proofs.Ytkaafjcfcknbpaa
open Go Go.RowKit

/-! The landed Head. -/
set_option maxHeartbeats 400000 in
theorem keepMay_is (k : Int) (b : Bool) (h : (decide (1 ≤ k) && decide (k ≤ 16)) = b) (w : World) : Calls Try.prog 17 #[.int .i64 k] w fun e w' => e = .returned (.bool b) ∧ w = w' := by
  subst h
  by_cases h : 1 ≤ k
  · go_enter Try.func17, Try.ntmps17
    go_wp2
    go_ret
    exact ⟨ret_bool (by simp [h]), rfl⟩
  · go_enter Try.func17, Try.ntmps17
    go_wp2
    go_ret
    exact ⟨ret_bool (by simp; omega), rfl⟩
set_option maxHeartbeats 400000 in
theorem sumOf7_is (a : Option Addr) (n c : Nat) (l : List UInt8) (w : World) (hn : n = l.length) (S : Nat) (hS : S = moreL 0 l) (hr : Rd w w.heap.size a (bV l)) (hl : l.length ≤ 1000000000000) :
    Calls Try.prog 19 #[.slice a n c] w fun e w' => e = .returned (.int .u64 (S : Int)) ∧ Below w.heap.size w w' := by
  have HR := Lib.hid hr; have HN := Lib.hid hn; have HS := Lib.hid hS
  have hSl : S < 4294967296 := by rw [hS]; exact moreL_lt _ _
  clear hr hn hS
  have hw : IntKind.u64.wrap (S : Int) = (S : Int) := IntWalk.u64_in _ ⟨by omega, by omega⟩
  go_enter Try.func19, Try.ntmps19
  go_wp2_with fail
  refine (sum_is a n c l w HN.out S HS.out HR.out hl).mono ?_; rintro e w1 ⟨rfl, hb1⟩
  go_wp2_with fail
  go_ret
  exact ⟨rfl, hb1⟩
theorem lit_tag (w : World) (cs : Array Value) (t : TypeId) (x : Nat × TypeId) : Rd (w.alloc (.cells cs t x)) (w.alloc (.cells cs t x)).heap.size (some ⟨w.heap.size, 0, none⟩) cs.toList := fun _ =>
  ⟨w.heap.size, 0, rfl, by simp, fun j u hu => by
    simp only [World.cell?, World.alloc, Nat.zero_add]
    simpa using hu⟩
set_option maxHeartbeats 1000000 in
theorem head_no (n k : Int) (w : World) (h : (decide (1 ≤ k) && decide (k ≤ 16)) = false) : Calls Try.prog 7 #[.int .u32 n, .int .i64 k] w (FrOut w [] 1) := by
  have HK := Lib.hid h; clear h
  go_enter Try.func7, Try.ntmps7
  go_wp2_with fail
  refine (keepMay_is k false HK.out _).mono ?_; rintro e w1 ⟨rfl, rfl⟩
  go_wp2_with fail
  go_ret2
  exact ⟨none, 0, rfl, Nat.le_refl _, by decide, Rd.nil _ _ _, Below.refl _ _⟩
set_option maxHeartbeats 1000000 in
theorem head_own (n k : Nat) (w : World) (hn : n < 4294967296) (h1 : 1 ≤ k) (h2 : k ≤ 16) : Calls Try.prog 7 #[.int .u32 (n : Int), .int .i64 (k : Int)] w fun e w' => ∃ v, e = .returned (.tuple #[v, .int .i64 0]) ∧ w'.ownsRow w.heap.size 5 1 v 14 (bV (headL n k)) ∧ Below w.heap.size w w' := by
  have HK : Hid ((decide ((1 : Int) ≤ (k : Int)) && decide ((k : Int) ≤ 16)) = true) := by show _ = _; simp; omega
  have kc := fun (w : World) (C : Array Value) (n c : Nat) => Lib.run_convert_bytes_const (P := Try.prog) w 23 5 C n c Try.underlying23 Try.underlying5
  obtain ⟨L8, h8⟩ : ∃ L, L = let7 ++ putL n 4 := ⟨_, rfl⟩
  obtain ⟨L10, h10⟩ : ∃ L, L = L8 ++ putL k 2 := ⟨_, rfl⟩
  have h8l : L8.length = 8 := by rw [h8]; simp [let7, putL_length]
  have h10l : L10.length = 10 := by rw [h10]; simp [h8l, putL_length]
  have h10e : L10 = hd10 n k := by rw [h10, h8, hd10, List.append_assoc]
  obtain ⟨S, hS⟩ : ∃ S, S = moreL 0 L10 := ⟨_, rfl⟩
  have hSl : S < 4294967296 := by rw [hS]; exact moreL_lt _ _
  have HH : Hid (headL n k = L10 ++ putL S 4) := by show _ = _; rw [headL, hS, h10e]
  have hw1 : IntKind.u64.wrap (n : Int) = (n : Int) := IntWalk.u64_in _ ⟨by omega, by omega⟩
  have hw2 : IntKind.u64.wrap (k : Int) = (k : Int) := IntWalk.u64_in _ ⟨by omega, by omega⟩
  have H8 := Lib.hid h8; have H10 := Lib.hid h10; have H8L := Lib.hid h8l; have H10L := Lib.hid h10l; have HS := Lib.hid hS
  clear h8 h10 h8l h10l h10e hS
  obtain ⟨LH, hLH⟩ : ∃ L, L = headL n k := ⟨_, rfl⟩
  rw [← hLH] at HH ⊢
  clear hLH
  go_enter Try.func7, Try.ntmps7
  go_wp2_with fail
  refine (keepMay_is k true HK.out _).mono ?_; rintro e w1 ⟨rfl, rfl⟩
  go_wp2_with fail
  refine (put6_is (some ⟨w.heap.size, 0, none⟩) 4 4 let7 n _ 4 4 L8 _ rfl rfl rfl H8.out (lit_tag w _ _ _) (by simp [let7]) (by simp [let7]) (by omega) (by omega) (by omega)).mono ?_; rintro e w1 ⟨a1, c1, rfl, hc1, _, hr1, hb1⟩
  have HR1 := Lib.hid hr1; have HB1 := Lib.hid (bel2 (box1 w _) hb1); have HC1 := Lib.hid hc1
  clear hr1 hb1 hc1
  go_wp2_with fail
  refine (put6_is a1 _ c1 L8 k _ 2 2 L10 w1 rfl rfl rfl H10.out HR1.out (by rw [H8L.out]; omega) HC1.out (by omega) (by omega) (by omega)).mono ?_; rintro e w2 ⟨a2, c2, rfl, hc2, _, hr2, hb2⟩
  have HR2 := Lib.hid hr2; have HB2 := Lib.hid (bel2 HB1.out hb2); have HC2 := Lib.hid hc2
  clear hr2 hb2 hc2
  go_wp2_with fail
  refine (sumOf7_is a2 _ c2 L10 w2 rfl S HS.out HR2.out (by rw [H10L.out]; omega)).mono ?_; rintro e w3 ⟨rfl, hb3⟩
  have HR3 := Lib.hid ((HR2.out.below hb3).more hb3.size); have HB3 := Lib.hid (bel2 HB2.out hb3)
  clear hb3
  go_wp2_with fail
  have hput := put_any a2 c2 L10 S 4 w3 HR3.out (by rw [H10L.out]; omega) HC2.out (by omega) (by omega) (by omega)
  rw [show cnt 4 = 4 from rfl, ← HH.out, H10L.out] at hput
  have HPUT := Lib.hid hput
  clear hput
  rw [H10L.out]
  refine HPUT.out.mono ?_; rintro e w4 ⟨v4, rfl, ho4, hb4⟩
  have HO4 := Lib.hid (own_base ho4 HB3.out.size); have HB4 := Lib.hid (bel2 HB3.out hb4)
  obtain ⟨a4, c4, rfl, _, _, _⟩ := own_slice ho4
  clear ho4 hb4
  go_wp2_with fail
  go_ret2
  exact ⟨_, rfl, HO4.out, HB4.out⟩
theorem head_yes (n k : Nat) (w : World) (hn : n < 4294967296) (h1 : 1 ≤ k) (h2 : k ≤ 16) : Calls Try.prog 7 #[.int .u32 (n : Int), .int .i64 (k : Int)] w (FrOut w (headL n k) 0) := by
  refine (head_own n k w hn h1 h2).mono ?_
  rintro e w1 ⟨v, rfl, ho, hb⟩
  obtain ⟨a, c, rfl, h3, h4, _⟩ := own_slice ho
  exact ⟨a, c, by rw [headL_length]; rfl, by rw [headL_length]; exact h3, h4, Rd.own ho, hb⟩
/-- What Head answers, at any keep. -/
def headB (n : Nat) (k : Int) : List UInt8 := if 1 ≤ k ∧ k ≤ 16 then headL n k.toNat else []
def headE (k : Int) : Nat := if 1 ≤ k ∧ k ≤ 16 then 0 else 1
theorem head_any (n : Nat) (k : Int) (w : World) (hn : n < 4294967296) : Calls Try.prog 7 #[.int .u32 (n : Int), .int .i64 k] w (FrOut w (headB n k) (headE k)) := by
  unfold headB headE
  by_cases h : 1 ≤ k ∧ k ≤ 16
  · obtain ⟨q, rfl⟩ : ∃ q : Nat, k = q := ⟨k.toNat, by omega⟩
    rw [if_pos h, if_pos h, Int.toNat_natCast]
    exact head_yes n q w hn (by omega) (by omega)
  · rw [if_neg h, if_neg h]
    exact head_no n k w (by simp; omega)
end Go.Proofs.Ytkaafjcfcknbpaa
