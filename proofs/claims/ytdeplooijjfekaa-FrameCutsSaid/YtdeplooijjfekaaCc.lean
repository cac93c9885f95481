import Derived.Test.YtdeplooijjfekaaCb
namespace Go.Proofs.Ytdeplooijjfekaa
open Go Go.RowKit

/-- A byte's eight steps, by the table. -/
theorem byte_lt (s c : Nat) (hc : c < 256) : (s % 256) ^^^ c < 256 := Nat.xor_lt_two_pow (n := 8) (Nat.mod_lt _ (by omega)) hc
theorem upd_tab (s : Nat) (c : UInt8) : s / 256 ^^^ stN 8 ((s % 256) ^^^ c.toNat) = upd s c := by
  have e : s ^^^ c.toNat = 256 * (s / 256) ^^^ ((s % 256) ^^^ c.toNat) := by
    have h := add_xor (s / 256) (Nat.mod_lt s (by omega : 0 < 256))
    rw [Nat.mod_add_div] at h
    rw [← Nat.xor_assoc, Nat.xor_comm (256 * (s / 256)), ← h]
  have h2 : stN 8 (256 * (s / 256)) = s / 256 := stN_mul 8 (s / 256)
  rw [upd, e, stN_xor 8 (256 * (s / 256)), h2]
theorem inv_bits (s : Nat) (h : s < 4294967296) : bits BinOp.xor IntKind.u32 IntKind.u32.max (s : Int) = ((inv s : Nat) : Int) := by
  rw [inv_xor h]
  exact u32_xor_nat 4294967295 s (by omega) h
set_option maxRecDepth 100000 in
set_option maxHeartbeats 1000000 in
theorem more_any (s : Nat) (a : Option Addr) (c : Nat) (l : List UInt8) (w : World) (hs : s < 4294967296) (hr : Rd w w.heap.size a (bV l)) (_hl : l.length ≤ 1000000000000) :
    Calls Try.prog 29 #[.int .u32 (s : Int), .slice a l.length c] w fun e w' => e = .returned (.int .u32 (moreL s l : Nat)) ∧ Below w.heap.size w w' := by
  have HR := Lib.hid hr; clear hr
  have hz := zero_tab
  go_enter Try.func29, Try.ntmps29
  go_wp2_with fail
  refine (eightSteps_any _).mono ?_; rintro e w1 ⟨rfl, hb1⟩
  have HB1 := Lib.hid hb1; clear hb1
  have hsz := tabA_size 256
  have hsc := run_storeCells_new (P := Try.prog) w1 72 (tabA 0) (tabA 256) (by rw [hsz]; exact size_tab) (by rw [tabA_size, tabA_size]) (all_oneCell_toArray (tabL_one 256))
  have hsg : IntKind.u32.signed = false := rfl
  have hi0 := inv_bits s hs
  go_wp2_with fail
  clear hsc
  go_loop [6, 14] (fun sv i => ∃ k : Nat, k ≤ l.length ∧ i = .int .i64 k ∧ sv = .int .u32 (crc (inv s) (l.take k) : Nat)) (fun _ i => l.length - (intOf i).toNat)
  case atStart => exact ⟨0, by omega, rfl, by rw [List.take_zero, crc_nil]⟩
  case round =>
    obtain ⟨k, hk, rfl, rfl⟩ := hrel
    have hS := crc_lt (l.take k) (inv_lt s)
    by_cases hlt : k < l.length
    · have HN := Lib.hid (crc_take l k hlt (inv s))
      obtain ⟨b, off, ha, _, hcell⟩ := (HR.out.below (HB1.out.alloc HB1.out.size (.cells (tabA 256) 72))).byte hlt
      subst ha
      have hx := byte_lt (crc (inv s) (l.take k)) l[k].toNat l[k].toNat_lt
      have HU := Lib.hid (upd_tab (crc (inv s) (l.take k)) l[k])
      have HX1 := u8_xor_nat (crc (inv s) (l.take k) % 256) l[k].toNat (Nat.mod_lt _ (by omega)) l[k].toNat_lt
      have HX2 := u32_xor_nat (crc (inv s) (l.take k) / 256) (stN 8 (crc (inv s) (l.take k) % 256 ^^^ l[k].toNat)) (by omega) (stN_lt 8 (by omega))
      rw [HU.out, ← HN.out] at HX2
      clear HU HN
      generalize crc (inv s) (l.take k) = S at hS hx HX1 HX2
      generalize S % 256 ^^^ l[k].toNat = x at hx HX1 HX2
      have hget : (tabA 256)[x]? = some (.int .u32 (stN 8 x : Int)) := by rw [tabA_get 256 x hx, if_pos hx]
      have hxs : x < (tabA 256).size := by rw [tabA_size]; exact hx
      have hget2 : (tabA 256)[x] = .int .u32 (stN 8 x : Int) := by
        have h := hget
        rw [Array.getElem?_eq_getElem hxs] at h
        exact Option.some.inj h
      clear hget
      have e1 : ((S % 256 : Nat) : Int) = (S : Int) % 256 := by omega
      have e2 : ((S / 256 : Nat) : Int) = (S : Int) / 256 := by omega
      rw [e1] at HX1; rw [e2] at HX2
      clear e1 e2
      have i1 : (0 : Int) ≤ (k : Int) := by omega
      have i2 : (k : Int) < (l.length : Int) := by omega
      go_wp2_with fail
      go_round
      case rel => exact ⟨k + 1, by omega, by go_num, rfl⟩
      case measure => simp [intOf]; omega
    · have : k = l.length := by omega
      subst this
      rw [List.take_length] at hS ⊢
      have hi1 := inv_bits _ hS
      go_wp2_with fail
      go_ret
      exact ⟨rfl, HB1.out.alloc HB1.out.size _⟩
set_option maxHeartbeats 400000 in
theorem sum_any (a : Option Addr) (c : Nat) (l : List UInt8) (w : World) (hr : Rd w w.heap.size a (bV l)) (hl : l.length ≤ 1000000000000) :
    Calls Try.prog 30 #[.slice a l.length c] w fun e w' => e = .returned (.int .u32 (moreL 0 l : Nat)) ∧ Below w.heap.size w w' := by
  have HR := Lib.hid hr; clear hr
  go_enter Try.func30, Try.ntmps30
  go_wp2_with fail
  refine (more_any 0 a c l _ (by omega) HR.out hl).mono ?_; rintro e w1 ⟨rfl, hb1⟩
  go_wp2_with fail
  go_ret
  exact ⟨rfl, hb1⟩
theorem sum_is (a : Option Addr) (n c : Nat) (l : List UInt8) (w : World) (hn : n = l.length) (S : Nat) (hS : S = moreL 0 l) (hr : Rd w w.heap.size a (bV l)) (hl : l.length ≤ 1000000000000) :
    Calls Try.prog 30 #[.slice a n c] w fun e w' => e = .returned (.int .u32 (S : Nat)) ∧ Below w.heap.size w w' := by
  subst hn hS; exact sum_any a c l w hr hl
theorem more_is (s : Nat) (a : Option Addr) (n c : Nat) (l : List UInt8) (w : World) (hn : n = l.length) (S : Nat) (hS : moreL s l = S) (hs : s < 4294967296) (hr : Rd w w.heap.size a (bV l)) (hl : l.length ≤ 1000000000000) :
    Calls Try.prog 29 #[.int .u32 (s : Int), .slice a n c] w fun e w' => e = .returned (.int .u32 (S : Nat)) ∧ Below w.heap.size w w' := by
  subst hn hS; exact more_any s a c l w hs hr hl
end Go.Proofs.Ytdeplooijjfekaa
