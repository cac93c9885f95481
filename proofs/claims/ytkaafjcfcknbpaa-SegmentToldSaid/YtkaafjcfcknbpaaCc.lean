import Derived.Test.YtkaafjcfcknbpaaRows
import Derived.Test.YtkaafjcfcknbpaaGc
import Derived.Test.YtkaafjcfcknbpaaCa
import Derived.Laws.BitsAllLaws
import Derived.Laws.Bits64
import Derived.IntWalk
import Derived.Deep.WholeRow
import Derived.Deep.MidRow
namespace Go.Proofs.Ytkaafjcfcknbpaa
open Go Go.RowKit

theorem ret_u32 {a b : Int} (h : a = b) : Ending.returned (.int .u32 a) = .returned (.int .u32 b) := by rw [h]
set_option maxHeartbeats 400000 in
theorem step_any (s : Nat) (w : World) (hs : s < 4294967296) :
    Calls Try.prog 72 #[.int .u32 (s : Int)] w fun e w' => e = .returned (.int .u32 (st s : Int)) ∧ w = w' := by
  have e1 : bits BinOp.and IntKind.u32 (s : Int) 1 = ((s % 2 : Nat) : Int) := by rw [← nat_mask1]; exact u32_and_nat s 1 hs (by omega)
  have e2 := u32_xor_nat (s / 2) 3988292384 (by omega) (by omega)
  have HE2 := Lib.hid e2; clear e2
  by_cases h : s % 2 = 1
  · have HS := Lib.hid (st_odd h)
    rw [h, Int.natCast_one] at e1
    go_enter Try.func72, Try.ntmps72
    go_wp2
    go_ret
    exact ⟨ret_u32 (by rw [HS.out]; exact HE2.out), rfl⟩
  · have HS := Lib.hid (st_even h)
    rw [show s % 2 = 0 by omega, Int.natCast_zero] at e1
    go_enter Try.func72, Try.ntmps72
    go_wp2
    go_ret
    exact ⟨ret_u32 (by rw [HS.out]; simp), rfl⟩

/-- The table. -/
def tabL (k : Nat) : List Value := (List.range 256).map fun j => .int .u32 (if j < k then (stN 8 j : Int) else 0)
theorem tabL_length (k : Nat) : (tabL k).length = 256 := by simp [tabL]
theorem tabL_get (k j : Nat) (h : j < 256) : (tabL k)[j]? = some (.int .u32 (if j < k then (stN 8 j : Int) else 0)) := by simp [tabL, h]
theorem tabL_zero : tabL 0 = List.replicate 256 (.int .u32 0) := by
  apply List.ext_getElem?
  intro j
  by_cases h : j < 256
  · rw [tabL_get 0 j h, List.getElem?_replicate_of_lt h, if_neg (by omega)]
  · rw [List.getElem?_eq_none (by rw [tabL_length]; omega), List.getElem?_eq_none (by rw [List.length_replicate]; omega)]
theorem tabL_one (k : Nat) : ∀ u ∈ tabL k, u.oneCell' = true := by
  intro u hu; obtain ⟨c, _, rfl⟩ := List.mem_map.1 hu; rfl
def tabA (k : Nat) : Array Value := (tabL k).toArray
theorem tabA_size (k : Nat) : (tabA k).size = 256 := by simp [tabA, tabL_length]
theorem tabA_zero : (Array.replicate 256 (Value.int .u32 0)) = tabA 0 := by
  unfold tabA; rw [tabL_zero]; rfl
theorem tabA_set (k : Nat) (h : k < 256) : (tabA k).setIfInBounds k (.int .u32 (stN 8 k : Int)) = tabA (k + 1) := by
  apply Array.ext_getElem?
  intro j
  rw [Array.getElem?_setIfInBounds]
  by_cases hj : k = j
  · subst hj
    rw [if_pos rfl, if_pos (by rw [tabA_size]; exact h), tabA, List.getElem?_toArray, tabL_get _ _ h, if_pos (by omega)]
  · rw [if_neg hj, tabA, tabA, List.getElem?_toArray, List.getElem?_toArray]
    by_cases hj2 : j < 256
    · rw [tabL_get _ _ hj2, tabL_get _ _ hj2]
      by_cases h3 : j < k
      · rw [if_pos h3, if_pos (by omega)]
      · rw [if_neg h3, if_neg (by omega)]
    · rw [List.getElem?_eq_none (by rw [tabL_length]; omega), List.getElem?_eq_none (by rw [tabL_length]; omega)]
theorem tabA_get (k j : Nat) (h : j < 256) : (tabA k)[j]? = some (.int .u32 (if j < k then (stN 8 j : Int) else 0)) := by rw [tabA, List.getElem?_toArray, tabL_get _ _ h]
theorem info_tab : (Try.prog.info? 113).map (fun i => (i.zero, i.size)) = some (some (.agg (Array.replicate 256 (.int .u32 0))), 256) := by kernel_rfl
theorem zero_tab : ∀ w, (zeroValue 113).run Try.prog w = .ok (.agg (tabA 0)) w := by
  have h := (zero_of_info (P := Try.prog) info_tab).1
  rwa [tabA_zero] at h
theorem size_tab : (Try.prog.info? 113).map (·.size) = some 256 := (zero_of_info (P := Try.prog) info_tab).2
theorem Below.setCells {B : Nat} {a : World} {b : Nat} (hB : B ≤ b) : ∀ (vs : List Value) (o : Nat) (w : World), Below B a w → Below B a (w.setCells b o vs)
  | [], _, _, h => h
  | _ :: r, o, _, h => Below.setCells hB r (o + 1) _ (h.setCell hB _)
theorem there_new (w : World) (c : Array Value) (t : TypeId) (n : Nat) (hn : n = c.size) : (w.alloc (.cells c t)).there w.heap.size 0 n := fun j hj => by
  subst hn
  refine ⟨?_, ?_⟩
  · rw [World.cell?_alloc_at _ _ _ _ rfl]; simp; omega
  · exact World.frozen?_alloc_at _ _ _ _ rfl
theorem rangeAt_new (w : World) (c : Array Value) (t : TypeId) (n : Nat) (hn : n = w.heap.size) : (w.alloc (.cells c t)).rangeAt n 0 c.toList := fun j v hv => by
  subst hn
  rw [World.cell?_alloc_at _ _ _ _ rfl, Nat.zero_add]
  simpa using hv
set_option maxRecDepth 100000 in
set_option maxHeartbeats 1000000 in
theorem eightSteps_any (w : World) :
    Calls Try.prog 67 #[] w fun e w' => e = .returned (.agg (tabA 256)) ∧ Below w.heap.size w w' := by
  have hz := zero_tab
  go_enter Try.func67, Try.ntmps67
  go_wp2_with fail
  go_loopw [4] (fun i wr => ∃ k : Nat, k ≤ 256 ∧ i = .int .i64 k ∧ wr = (w.alloc (.cells (tabA 0) 113)).alloc (.cells (tabA k) 113)) (fun i _ => 256 - (intOf i).toNat)
  case atStart => exact ⟨0, by omega, rfl, rfl⟩
  case round =>
    obtain ⟨k, hk, rfl, rfl⟩ := hrel
    by_cases hlt : k < 256
    · have hw : IntKind.u32.wrap (k : Int) = (k : Int) := IntWalk.u32_in _ ⟨by omega, by omega⟩
      have hk0 : stN 0 k = k := rfl
      have HK0 := Lib.hid hk0; clear hk0
      have i1 : (0 : Int) ≤ (k : Int) := by omega
      have i2 : (k : Int) < 256 := by omega
      have HT := Lib.hid (tabA_set k hlt)
      have hget : (tabA k)[k]? = some (.int .u32 0) := by rw [tabA_get k k hlt, if_neg (by omega)]
      go_wp2_with fail
      go_loop [3, 9] (fun s i => ∃ j : Nat, j ≤ 8 ∧ i = .int .i64 j ∧ s = .int .u32 (stN j k : Nat)) (fun _ i => 8 - (intOf i).toNat)
      case atStart => exact ⟨0, by omega, rfl, by rw [HK0.out]⟩
      case round =>
        obtain ⟨j, hj, rfl, rfl⟩ := hrel
        by_cases hjl : j < 8
        · go_wp2_with fail
          refine (step_any _ _ (stN_lt j (by omega))).mono ?_; rintro e w' ⟨rfl, rfl⟩
          rw [← stN_succ]
          go_wp2_with fail
          go_round
          case rel => exact ⟨j + 1, by omega, by go_num, rfl⟩
          case measure => simp [intOf]; omega
        · obtain rfl : j = 8 := by omega
          go_wp2_with fail
          go_roundw
          case rel => exact ⟨k + 1, by omega, by go_num, by rw [HT.out]⟩
          case measure => simp [intOf]; omega
    · obtain rfl : k = 256 := by omega
      go_wp2_with fail
      refine wp_load_mid 113 _ rfl _ 0 rfl (tabA 256).toList _ (rangeAt_new _ _ _ _ (by simp)) Try.underlying113 rfl (by rw [Array.length_toList, tabA_size]; exact size_tab) ?_
      have H0 := World.there_alloc (there_new w (tabA 0) 113 256 (tabA_size 0).symm) (.cells (tabA 256) 113)
      have hsz := tabA_size 256
      have hsc := run_storeCells_cells (P := Try.prog) w.heap.size 0 (tabA 256).toList 0 ((w.alloc (.cells (tabA 0) 113)).alloc (.cells (tabA 256) 113))
        (fun j hj => by simpa using (H0 j (by simpa [tabA_size] using hj)).1) (fun j hj => by have := (H0 j (by simpa [tabA_size] using hj)).2; simp) (fun v hv => tabL_one 256 v (by simpa [tabA] using hv))
      simp only [Nat.add_zero] at hsc
      have hrg := World.rangeAt_setCells_same _ w.heap.size 0 (tabA 256).toList (by rw [Array.length_toList, tabA_size]; exact H0)
      have hb := Below.setCells (Nat.le_refl _) (tabA 256).toList 0 _ ((box1 w (.cells (tabA 0) 113)).alloc (by simp) (.cells (tabA 256) 113))
      have HRG := Lib.hid hrg; have HB := Lib.hid hb; clear hrg hb
      go_wp2_with fail
      have hld := run_loadVar_mid (P := Try.prog) _ _ _ 113 _ _ HRG.out Try.underlying113 rfl (by rw [Array.length_toList, tabA_size]; exact size_tab)
      refine bodyPost_ret (v := .agg (tabA 256)) ?_ rfl ⟨rfl, HB.out⟩
      rw [Array.toArray_toList] at hld
      simp [results, asAddr, hld]
end Go.Proofs.Ytkaafjcfcknbpaa

namespace Go.Proofs.Ytkaafjcfcknbpaa
open Go Go.RowKit

/-- A byte's eight steps, by the table. -/
theorem byte_lt (s c : Nat) (hc : c < 256) : (s % 256) ^^^ c < 256 := Nat.xor_lt_two_pow (n := 8) (Nat.mod_lt _ (by omega)) hc
theorem upd_tab (s : Nat) (c : UInt8) : s / 256 ^^^ stN 8 ((s % 256) ^^^ c.toNat) = upd s c := by
  have e : s ^^^ c.toNat = 256 * (s / 256) ^^^ ((s % 256) ^^^ c.toNat) := by
    have h := add_xor (s / 256) (Nat.mod_lt s (by omega : 0 < 256))
    rw [Nat.mod_add_div] at h
    rw [← Nat.xor_assoc, Nat.xor_comm (256 * (s / 256)), ← h]
  have h2 : stN 8 (256 * (s / 256)) = s / 256 := stN_mul 8 (s / 256)
  rw [upd, e, stN_xor 8 (256 * (s / 256)), h2]
theorem inv_bits (s : Nat) (h : s < 4294967296) : bits BinOp.xor IntKind.u32 IntKind.u32.max (s : Int) = ((inv s : Nat) : Int) := by
  rw [inv_xor h]
  exact u32_xor_nat 4294967295 s (by omega) h
set_option maxRecDepth 100000 in
set_option maxHeartbeats 1000000 in
theorem more_any (s : Nat) (a : Option Addr) (c : Nat) (l : List UInt8) (w : World) (hs : s < 4294967296) (hr : Rd w w.heap.size a (bV l)) (_hl : l.length ≤ 1000000000000) :
    Calls Try.prog 53 #[.int .u32 (s : Int), .slice a l.length c] w fun e w' => e = .returned (.int .u32 (moreL s l : Nat)) ∧ Below w.heap.size w w' := by
  have HR := Lib.hid hr; clear hr
  have hz := zero_tab
  go_enter Try.func53, Try.ntmps53
  go_wp2_with fail
  refine (eightSteps_any _).mono ?_; rintro e w1 ⟨rfl, hb1⟩
  have HB1 := Lib.hid hb1; clear hb1
  have hsz := tabA_size 256
  have hsc := run_storeCells_new (P := Try.prog) w1 113 (tabA 0) (tabA 256) (by rw [hsz]; exact size_tab) (by rw [tabA_size, tabA_size]) (all_oneCell_toArray (tabL_one 256))
  have hsg : IntKind.u32.signed = false := rfl
  have hi0 := inv_bits s hs
  go_wp2_with fail
  clear hsc
  go_loop [6, 14] (fun sv i => ∃ k : Nat, k ≤ l.length ∧ i = .int .i64 k ∧ sv = .int .u32 (crc (inv s) (l.take k) : Nat)) (fun _ i => l.length - (intOf i).toNat)
  case atStart => exact ⟨0, by omega, rfl, by rw [List.take_zero, crc_nil]⟩
  case round =>
    obtain ⟨k, hk, rfl, rfl⟩ := hrel
    have hS := crc_lt (l.take k) (inv_lt s)
    by_cases hlt : k < l.length
    · have HN := Lib.hid (crc_take l k hlt (inv s))
      obtain ⟨b, off, ha, _, hcell⟩ := (HR.out.below (HB1.out.alloc HB1.out.size (.cells (tabA 256) 113))).byte hlt
      subst ha
      have hx := byte_lt (crc (inv s) (l.take k)) l[k].toNat l[k].toNat_lt
      have HU := Lib.hid (upd_tab (crc (inv s) (l.take k)) l[k])
      have HX1 := u8_xor_nat (crc (inv s) (l.take k) % 256) l[k].toNat (Nat.mod_lt _ (by omega)) l[k].toNat_lt
      have HX2 := u32_xor_nat (crc (inv s) (l.take k) / 256) (stN 8 (crc (inv s) (l.take k) % 256 ^^^ l[k].toNat)) (by omega) (stN_lt 8 (by omega))
      rw [HU.out, ← HN.out] at HX2
      clear HU HN
      generalize crc (inv s) (l.take k) = S at hS hx HX1 HX2
      generalize S % 256 ^^^ l[k].toNat = x at hx HX1 HX2
      have hget : (tabA 256)[x]? = some (.int .u32 (stN 8 x : Int)) := by rw [tabA_get 256 x hx, if_pos hx]
      have hxs : x < (tabA 256).size := by rw [tabA_size]; exact hx
      have hget2 : (tabA 256)[x] = .int .u32 (stN 8 x : Int) := by
        have h := hget
        rw [Array.getElem?_eq_getElem hxs] at h
        exact Option.some.inj h
      clear hget
      have e1 : ((S % 256 : Nat) : Int) = (S : Int) % 256 := by omega
      have e2 : ((S / 256 : Nat) : Int) = (S : Int) / 256 := by omega
      rw [e1] at HX1; rw [e2] at HX2
      clear e1 e2
      have i1 : (0 : Int) ≤ (k : Int) := by omega
      have i2 : (k : Int) < (l.length : Int) := by omega
      go_wp2_with fail
      go_round
      case rel => exact ⟨k + 1, by omega, by go_num, rfl⟩
      case measure => simp [intOf]; omega
    · have : k = l.length := by omega
      subst this
      rw [List.take_length] at hS ⊢
      have hi1 := inv_bits _ hS
      go_wp2_with fail
      go_ret
      exact ⟨rfl, HB1.out.alloc HB1.out.size _⟩
set_option maxHeartbeats 400000 in
theorem sum_any (a : Option Addr) (c : Nat) (l : List UInt8) (w : World) (hr : Rd w w.heap.size a (bV l)) (hl : l.length ≤ 1000000000000) :
    Calls Try.prog 40 #[.slice a l.length c] w fun e w' => e = .returned (.int .u32 (moreL 0 l : Nat)) ∧ Below w.heap.size w w' := by
  have HR := Lib.hid hr; clear hr
  go_enter Try.func40, Try.ntmps40
  go_wp2_with fail
  refine (more_any 0 a c l _ (by omega) HR.out hl).mono ?_; rintro e w1 ⟨rfl, hb1⟩
  go_wp2_with fail
  go_ret
  exact ⟨rfl, hb1⟩
theorem sum_is (a : Option Addr) (n c : Nat) (l : List UInt8) (w : World) (hn : n = l.length) (S : Nat) (hS : S = moreL 0 l) (hr : Rd w w.heap.size a (bV l)) (hl : l.length ≤ 1000000000000) :
    Calls Try.prog 40 #[.slice a n c] w fun e w' => e = .returned (.int .u32 (S : Nat)) ∧ Below w.heap.size w w' := by
  subst hn hS; exact sum_any a c l w hr hl
theorem more_is (s : Nat) (a : Option Addr) (n c : Nat) (l : List UInt8) (w : World) (hn : n = l.length) (S : Nat) (hS : moreL s l = S) (hs : s < 4294967296) (hr : Rd w w.heap.size a (bV l)) (hl : l.length ≤ 1000000000000) :
    Calls Try.prog 53 #[.int .u32 (s : Int), .slice a n c] w fun e w' => e = .returned (.int .u32 (S : Nat)) ∧ Below w.heap.size w w' := by
  subst hn hS; exact more_any s a c l w hs hr hl
end Go.Proofs.Ytkaafjcfcknbpaa

