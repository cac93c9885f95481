import Derived.Test.YtdeplooijjfekaaNc
import Derived.Deep.RegionLaw
namespace Go.Proofs.Ytdeplooijjfekaa
open Go Go.RowKit Go.Sort

theorem run_string_of {w : World} {a : Option Addr} {B : Nat} (n c : Nat) {l : List UInt8} (h : Rd w B a (bV l)) (hn : n = l.length) : (convert 22 9 (.slice a n c)).run Try.prog w = .ok (.string (bs l)) w :=
  run_string_rd w _ _ 5 Try.underlying22 Try.underlying5 Try.underlying9 n c h hn
set_option maxHeartbeats 1000000 in
theorem refPut_any (n : Nat) (s : Int) (w : World) (hn : n < 18446744073709551616) :
    Calls Try.prog 20 #[.int .u64 n, .int .i64 s] w
      fun e w' => e = .returned (.string (bs (putL n (cnt s)))) ∧ Below w.heap.size w w' := by
  have hk := cnt_le s
  go_enter Try.func20, Try.ntmps20
  go_wp2
  go_loopw [0, 5, 6] (fun m t i wr => ∃ k M : Nat, k ≤ cnt s ∧ i = .int .i64 k ∧ M = n / 2 ^ (8 * k) ∧ m = .int .u64 (M : Int) ∧ t = .string (bs (putL n k)) ∧ Below w.heap.size w wr) (fun _ _ i _ => cnt s - (intOf i).toNat)
  case atStart => exact ⟨0, n, Nat.zero_le _, rfl, by simp, rfl, rfl, Below.refl _ _⟩
  case round =>
    obtain ⟨k, M, hk', rfl, hM, rfl, rfl, hb⟩ := hrel
    have HM := Lib.hid hM; clear hM
    by_cases hlt : k < cnt s
    · have hM0 : (0 : Int) ≤ (M : Int) := by omega
      have hb8 : ((M : Int) % 256) = ((byt n k).toNat : Int) := by rw [byt_nat, HM.out]; simp
      have hcv : (convert 22 9 (.slice (some ⟨wr.heap.size, 0, none⟩) 1 1)).run Try.prog (wr.alloc (.cells #[.int .u8 ((M : Int) % 256)] 5)) = .ok (.string (bs [byt n k])) (wr.alloc (.cells #[.int .u8 ((M : Int) % 256)] 5)) := by
        refine run_string_of (B := wr.heap.size + 1) 1 1 ?_ rfl
        rw [hb8]
        exact (Rd.own (World.ownsRow_lit (base := 0) (e := 5) (size := 1) wr #[.int .u8 ((byt n k).toNat : Int)] 1 (Nat.zero_le _) (by decide) rfl)).more (by simp)
      have hsz : ¬ 9223372036854775807 < (bs (putL n k)).size + (bs [byt n k]).size := by rw [bs_size, bs_size, putL_length]; simp; omega
      have HA : Hid (bs (putL n k) ++ bs [byt n k] = bs (putL n (k + 1))) := by show _ = _; rw [bs_append]; simp [putL, List.range_succ]
      have HW : Hid (IntKind.u64.wrap ((M : Int) / 256) = ((M / 256 : Nat) : Int)) := by
        have : M ≤ n := by rw [HM.out]; exact Nat.div_le_self _ _
        show _ = _; rw [IntWalk.u64_in _ ⟨by omega, by omega⟩]; omega
      have HN : Hid (M / 256 = n / 2 ^ (8 * (k + 1))) := by
        show _ = _; rw [HM.out, Nat.div_div_eq_div_mul, show 8 * (k + 1) = 8 * k + 8 by omega, Nat.pow_add]
      clear hb8
      go_wp2_with (go_at_call 32; refine (refCount_any _ _).mono ?_; rintro e w' ⟨rfl, rfl⟩)
      rw [HA.out, HW.out]
      go_roundw
      case rel => exact ⟨k + 1, M / 256, by omega, by go_num, HN.out, rfl, rfl, hb.alloc hb.size _⟩
      case measure => simp [intOf]; omega
    · have : k = cnt s := by omega
      subst this
      go_wp2_with (go_at_call 32; refine (refCount_any _ _).mono ?_; rintro e w' ⟨rfl, rfl⟩)
      go_ret
      exact ⟨rfl, hb⟩
/-- A slice of bytes is answered that reads as L. -/
def BytesOut (w : World) (L : List UInt8) (e : Ending) (w' : World) : Prop :=
  ∃ a c, e = .returned (.slice a L.length c) ∧ L.length ≤ c ∧ c ≤ maxLen ∧ Rd w' w'.heap.size a (bV L) ∧ Below w.heap.size w w'
theorem own_out {w w' : World} {v : Value} {n : Nat} {L : List UInt8} {e : Ending} {base : Nat} {t : TypeId} (he : e = .returned v) (ho : w'.ownsRow base t 1 v n (bV L)) (hb : Below w.heap.size w w') : BytesOut w L e w' := by
  have hn : n = L.length := by have := ho.1; rw [bV_length] at this; omega
  subst hn
  obtain ⟨a, c, rfl, h1, h2, _⟩ := own_slice ho
  exact ⟨a, c, he, h1, h2, Rd.own ho, hb⟩
theorem put_out (a : Option Addr) (c : Nat) (l : List UInt8) (n : Nat) (s : Int) (w : World) (hr : Rd w w.heap.size a (bV l)) (hl : l.length ≤ 1000000000000) (hlc : l.length ≤ c) (hn : n < 18446744073709551616)
    (h1 : -9223372036854775808 ≤ s) (h2 : s ≤ 9223372036854775807) :
    Calls Try.prog 17 #[.slice a l.length c, .int .u64 n, .int .i64 s] w (BytesOut w (l ++ putL n (cnt s))) :=
  (put_any a c l n s w hr hl hlc hn h1 h2).mono fun _ _ ⟨_, he, ho, hb⟩ => own_out he ho hb
theorem run_string_grown {W : World} {a : Option Addr} {l : List UInt8} (n c : Nat) (h : Rd W W.heap.size a (bV l)) (hn : n = l.length) :
    ∀ d os, (convert 22 9 (.slice a n c)).run Try.prog (grow (redrawn W d) os) = .ok (.string (bs l)) (grow (redrawn W d) os) :=
  fun d os => run_string_of n c (h.below (below_regrown W d os)) hn

theorem gN_append (l m : List UInt8) (i : Nat) : ∀ k, gN (l ++ m) (l.length + i) k = gN m i k
  | 0 => rfl
  | k + 1 => by
    have h := gN_append l m i k
    have e : (l ++ m).getD (l.length + i + k) 0 = m.getD (i + k) 0 := by
      simp only [List.getD]
      rw [List.getElem?_append_right (by omega), show l.length + i + k - l.length = i + k by omega]
    rw [gN, gN, h, e]
theorem getR_put (l : List UInt8) (n : Nat) (s : Int) : getR (l ++ putL n (cnt s)) l.length s = getR (putL n (cnt s)) 0 s ∧ (getR (putL n (cnt s)) 0 s).2 = true := by
  rw [getR_yes (l := l ++ putL n (cnt s)) (by rw [List.length_append, putL_length]; omega), getR_yes (by rw [putL_length]; omega)]
  exact ⟨by rw [Int.toNat_natCast]; exact Prod.ext (gN_append l _ 0 _) rfl, rfl⟩
end Go.Proofs.Ytdeplooijjfekaa
