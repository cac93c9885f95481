import Derived.Test.YtlpalhlihckidaaPc
namespace Go.Proofs.Ytlpalhlihckidaa
open Go Go.RowKit

theorem run_string_of {w : World} {a : Option Addr} {B : Nat} (n c : Nat) {l : List UInt8} (h : Rd w B a (bV l)) (hn : n = l.length) : (convert 25 9 (.slice a n c)).run Try.prog w = .ok (.string (bs l)) w :=
  run_string_rd w _ _ 5 Try.underlying25 Try.underlying5 Try.underlying9 n c h hn
set_option maxHeartbeats 1000000 in
theorem refPut_any (n : Nat) (s : Int) (w : World) (hn : n < 18446744073709551616) :
    Calls Try.prog 19 #[.int .u64 n, .int .i64 s] w
      fun e w' => e = .returned (.string (bs (putL n (cnt s)))) ∧ Below w.heap.size w w' := by
  have hk := cnt_le s
  go_enter Try.func19, Try.ntmps19
  go_wp2
  go_loopw [0, 5, 6] (fun m t i wr => ∃ k M : Nat, k ≤ cnt s ∧ i = .int .i64 k ∧ M = n / 2 ^ (8 * k) ∧ m = .int .u64 (M : Int) ∧ t = .string (bs (putL n k)) ∧ Below w.heap.size w wr) (fun _ _ i _ => cnt s - (intOf i).toNat)
  case atStart => exact ⟨0, n, Nat.zero_le _, rfl, by simp, rfl, rfl, Below.refl _ _⟩
  case round =>
    obtain ⟨k, M, hk', rfl, hM, rfl, rfl, hb⟩ := hrel
    have HM := Lib.hid hM; clear hM
    by_cases hlt : k < cnt s
    · have hM0 : (0 : Int) ≤ (M : Int) := by omega
      have hb8 : ((M : Int) % 256) = ((byt n k).toNat : Int) := by rw [byt_nat, HM.out]; simp
      have hcv : (convert 25 9 (.slice (some ⟨wr.heap.size, 0, none⟩) 1 1)).run Try.prog (wr.alloc (.cells #[.int .u8 ((M : Int) % 256)] 5)) = .ok (.string (bs [byt n k])) (wr.alloc (.cells #[.int .u8 ((M : Int) % 256)] 5)) := by
        refine run_string_of (B := wr.heap.size + 1) 1 1 ?_ rfl
        rw [hb8]
        exact (Rd.own (World.ownsRow_lit (base := 0) (e := 5) (size := 1) wr #[.int .u8 ((byt n k).toNat : Int)] 1 (Nat.zero_le _) (by decide) rfl)).more (by simp)
      have hsz : ¬ 9223372036854775807 < (bs (putL n k)).size + (bs [byt n k]).size := by rw [bs_size, bs_size, putL_length]; simp; omega
      have HA : Hid (bs (putL n k) ++ bs [byt n k] = bs (putL n (k + 1))) := by show _ = _; rw [bs_append]; simp [putL, List.range_succ]
      have HW : Hid (IntKind.u64.wrap ((M : Int) / 256) = ((M / 256 : Nat) : Int)) := by
        have : M ≤ n := by rw [HM.out]; exact Nat.div_le_self _ _
        show _ = _; rw [IntWalk.u64_in _ ⟨by omega, by omega⟩]; omega
      have HN : Hid (M / 256 = n / 2 ^ (8 * (k + 1))) := by
        show _ = _; rw [HM.out, Nat.div_div_eq_div_mul, show 8 * (k + 1) = 8 * k + 8 by omega, Nat.pow_add]
      clear hb8
      go_wp2_with (go_at_call 32; refine (refCount_any _ _).mono ?_; rintro e w' ⟨rfl, rfl⟩)
      rw [HA.out, HW.out]
      go_roundw
      case rel => exact ⟨k + 1, M / 256, by omega, by go_num, HN.out, rfl, rfl, hb.alloc hb.size _⟩
      case measure => simp [intOf]; omega
    · have : k = cnt s := by omega
      subst this
      go_wp2_with (go_at_call 32; refine (refCount_any _ _).mono ?_; rintro e w' ⟨rfl, rfl⟩)
      go_ret
      exact ⟨rfl, hb⟩

def zerosB (l : List UInt8) : Bool := l.all fun c => c == 0
theorem zerosB_no {l : List UInt8} {i : Nat} (h : i < l.length) (hi : l[i] ≠ 0) : zerosB l = false := by
  simp only [zerosB, List.all_eq_false]; exact ⟨l[i], List.getElem_mem _, by simpa using hi⟩
set_option maxHeartbeats 400000 in
theorem zeros_any (a : Option Addr) (c : Nat) (l : List UInt8) (w : World) (hr : Rd w w.heap.size a (bV l)) (hl : l.length ≤ 1000000000000) :
    Calls Try.prog 47 #[.slice a l.length c] w fun e w' => e = .returned (.bool (zerosB l)) ∧ w = w' := by
  have HR := Lib.hid hr; clear hr
  go_enter Try.func47, Try.ntmps47
  go_wp2
  go_loop [7] (fun i => ∃ k : Nat, k ≤ l.length ∧ i = .int .i64 k ∧ (∀ j < k, l.getD j 0 = 0)) (fun i => l.length - (intOf i).toNat)
  case atStart => exact ⟨0, Nat.zero_le _, rfl, fun _ h => by omega⟩
  case round =>
    obtain ⟨k, hk, rfl, hz⟩ := hrel
    have HZ := Lib.hid hz; clear hz
    by_cases hlt : k < l.length
    · obtain ⟨b, off, ha, _, hcell⟩ := HR.out.byte hlt
      subst ha
      by_cases hx : l[k] = 0
      · have HX := Lib.hid hx
        rw [hx] at hcell
        clear hx
        have hcell2 : w.cell? ⟨b, off + k, none⟩ = some (.int .u8 0) := hcell
        clear hcell
        go_wp2
        go_round
        case rel => exact ⟨k + 1, by omega, by go_num, fun j hj => by
          by_cases e : j = k
          · subst e; rw [getD_lt hlt]; exact HX.out
          · exact HZ.out j (by omega)⟩
        case measure => simp [intOf]; omega
      · have HE := Lib.hid (zerosB_no hlt hx)
        have hx1 : ((l[k].toNat : Int) != 0) = true := by
          simp; intro e; apply hx; exact UInt8.toNat_inj.1 e
        clear hx
        go_wp2
        go_ret
        exact ⟨ret_bool HE.out.symm, rfl⟩
    · have HE : Hid (zerosB l = true) := by
        show _ = _
        simp only [zerosB, List.all_eq_true]
        intro x hx
        obtain ⟨j, hj, rfl⟩ := List.mem_iff_getElem.1 hx
        have := HZ.out j (by omega)
        rw [getD_lt hj] at this
        simpa using this
      go_wp2
      go_ret
      exact ⟨ret_bool HE.out.symm, rfl⟩
end Go.Proofs.Ytlpalhlihckidaa
