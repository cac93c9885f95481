import Derived.Test.YtgeoggilnkcacaaIa
import Derived.Test.YtgeoggilnkcacaaGn
import Derived.Lib.AppendZeros
namespace Go.Proofs.Ytgeoggilnkcacaa
open Go Go.RowKit Go.Sort
set_option linter.unusedVariables false

/-! The landed code: slices.Concat of two rows of edges (stage 16). -/
set_option maxHeartbeats 1000000 in
theorem growE_nil (n : Nat) (h0 : 0 < n) (hn : n ≤ 1000000000000) (w : World) :
    Calls Try.prog 30 #[.slice none 0 0, .int .i64 (n : Int)] w fun e w' => ∃ c, e = .returned (.slice (some ⟨w.heap.size, 0, none⟩) 0 c) ∧ w'.ownsRow w.heap.size 34 6 (.slice (some ⟨w.heap.size, 0, none⟩) 0 c) 0 [] ∧ Below w.heap.size w w' := by
  obtain ⟨i0, hi0, hz0, hz1, hz2⟩ := info_parts info_edge
  have hrz : ∀ ty, (Builtin.append_ #[22, 3] ty #[.slice none 0 0, .int .i64 (n : Int)]).run Try.prog w = .ok (.slice (some ⟨w.heap.size, 0, none⟩) n (grownCap w n 0 34)) (w.drew.alloc (.cells (Builtin.zeroCells (Value.agg #[.int .i64 0, .int .i64 0, .int .i64 0, .int .i64 0, .int .i64 0, .bool false]).cells n ++ Builtin.zeroCells (Value.agg #[.int .i64 0, .int .i64 0, .int .i64 0, .int .i64 0, .int .i64 0, .bool false]).cells (grownCap w n 0 34 - n)) 34)) := fun ty =>
    Lib.run_append_nil_zeros w 22 3 ty 34 i0 (.agg #[.int .i64 0, .int .i64 0, .int .i64 0, .int .i64 0, .int .i64 0, .bool false]) .i64 .i64 Try.underlying22 Try.underlying3 hi0 hz0 n h0 (by rw [hz1]; omega) (by omega) (by rw [hz2]; omega)
  have hge : n ≤ grownCap w n 0 34 := grownCap_ge w _ _ _
  have hle : grownCap w n 0 34 ≤ maxLen := grownCap_le_maxLen w _ _ _ (by unfold maxLen; omega)
  obtain ⟨G, hG⟩ : ∃ G, G = grownCap w n 0 34 := ⟨_, rfl⟩
  rw [← hG] at hge hle hrz
  obtain ⟨Z, hZ⟩ : ∃ Z, Z = Builtin.zeroCells (Value.agg #[.int .i64 0, .int .i64 0, .int .i64 0, .int .i64 0, .int .i64 0, .bool false]).cells n ++ Builtin.zeroCells (Value.agg #[.int .i64 0, .int .i64 0, .int .i64 0, .int .i64 0, .int .i64 0, .bool false]).cells (G - n) := ⟨_, rfl⟩
  rw [← hZ] at hrz
  have hZs : Z.size = G * 6 := by rw [hZ]; simp [size_zeroCells, Value.cells]; omega
  clear hZ hG hz2
  have hG63 : G ≤ 9223372036854775807 := by unfold maxLen at hle; omega
  go_enter Try.func30, Try.ntmps30
  go_wp2_with (at_builtin; refine Lib.wpList_append_run _ rfl _ _ _ _ rfl _ _ rfl rfl _ _ (hrz _) ?_)
  go_ret
  refine ⟨G, rfl, ⟨rfl, .inr ⟨w.heap.size, G, Z, rfl, Nat.le_refl _, heap_alloc_new w.drew _, Nat.zero_le _, hle, hZs, rfl⟩⟩, (Below_drew (Below.refl w.heap.size w)).alloc (Nat.le_refl _) _⟩
theorem growE_is (n : Nat) (N : Int) (hN : N = (n : Int)) (h0 : 0 < n) (hn : n ≤ 1000000000000) (w : World) :
    Calls Try.prog 30 #[.slice none 0 0, .int .i64 N] w fun e w' => ∃ c, e = .returned (.slice (some ⟨w.heap.size, 0, none⟩) 0 c) ∧ w'.ownsRow w.heap.size 34 6 (.slice (some ⟨w.heap.size, 0, none⟩) 0 c) 0 [] ∧ Below w.heap.size w w' := by
  subst hN; exact growE_nil n h0 hn w
set_option maxHeartbeats 4000000 in
theorem concatE_two (a a1 a2 : Option Addr) (n c c1 c2 n1 n2 : Nat) (l1 l2 : List Ed) (w : World) (hn : n = 2) (hn1 : n1 = l1.length) (hn2 : n2 = l2.length) (hr : Rd w w.heap.size a [.slice a1 n1 c1, .slice a2 n2 c2]) (r1 : Rd w w.heap.size a1 (edsV l1)) (r2 : Rd w w.heap.size a2 (edsV l2)) (b0 : 0 < l1.length + l2.length) (b1 : l1.length ≤ 1000000) (b2 : l2.length ≤ 1000000) :
    Calls Try.prog 25 #[.slice a n c] w fun e w' => ∃ v, e = .returned v ∧ w'.ownsRow w.heap.size 34 6 v (l1 ++ l2).length (edsV (l1 ++ l2)) ∧ Below w.heap.size w w' := by
  subst hn hn1 hn2
  obtain ⟨b, off, rfl, hb, hc⟩ := hr (by simp)
  have h0 : w.cell? ⟨b, off, none⟩ = some (.slice a1 l1.length c1) := hc 0 _ rfl
  have h1 : w.cell? ⟨b, off + 1, none⟩ = some (.slice a2 l2.length c2) := hc 1 _ rfl
  clear hc hr
  have R1 := Lib.hid r1; have R2 := Lib.hid r2; clear r1 r2
  obtain ⟨i0, hi0, hz0, hz1, hz2⟩ := info_parts info_edge
  have HZ2 := Lib.hid hz2; clear hz2
  go_enter Try.func25, Try.ntmps25
  have hszf : ∃ sz : Nat → Nat, sz 0 = 0 ∧ sz 1 = l1.length ∧ sz 2 = l1.length + l2.length := ⟨fun k => if k = 0 then 0 else if k = 1 then l1.length else l1.length + l2.length, rfl, rfl, rfl⟩
  obtain ⟨sz, hs0, hs1, hs2⟩ := hszf
  have HS0 := Lib.hid hs0; have HS1 := Lib.hid hs1; have HS2 := Lib.hid hs2; clear hs0 hs1 hs2
  go_wp2_with fail
  go_loop [3, 5, 11] (fun s _ i => ∃ k : Nat, k ≤ 2 ∧ i = .int .i64 k ∧ s = .int .i64 (sz k : Nat)) (fun _ _ i => 2 - (intOf i).toNat)
  case atStart => exact ⟨0, by omega, rfl, by rw [HS0.out]; rfl⟩
  case round =>
    obtain ⟨k, hk, rfl, rfl⟩ := hrel
    obtain rfl | rfl | rfl : k = 0 ∨ k = 1 ∨ k = 2 := by omega
    · rw [HS0.out]
      go_wp2_with fail
      go_round
      case rel => exact ⟨1, by omega, by go_num, by rw [HS1.out]⟩
      case measure => simp [intOf]
    · rw [HS1.out]
      go_wp2_with fail
      go_round
      case rel => exact ⟨2, by omega, by go_num, by rw [HS2.out]; simp⟩
      case measure => simp [intOf]
    · rw [HS2.out]
      go_wp2_with fail
      refine (growE_is (l1.length + l2.length) _ (by simp) b0 (by omega) w).mono ?_; rintro e w1 ⟨c3, rfl, ho1, hb1⟩
      have HO1 := Lib.hid ho1; have HB1 := Lib.hid hb1
      have g0 : w1.cell? ⟨b, off, none⟩ = some (.slice a1 l1.length c1) := by rw [hb1.cell (p := ⟨b, off, none⟩) hb]; exact h0
      have g1 : w1.cell? ⟨b, off + 1, none⟩ = some (.slice a2 l2.length c2) := by rw [hb1.cell (p := ⟨b, off + 1, none⟩) hb]; exact h1
      clear ho1
      obtain ⟨acc, ha0, ha1, ha2⟩ : ∃ acc : Nat → List Ed, acc 0 = [] ∧ acc 1 = l1 ∧ acc 2 = l1 ++ l2 := ⟨fun k => if k = 0 then [] else if k = 1 then l1 else l1 ++ l2, rfl, rfl, rfl⟩
      have HA0 := Lib.hid ha0; have HA1 := Lib.hid ha1; have HA2 := Lib.hid ha2; clear ha0 ha1 ha2
      have HS0' : Hid (w.heap.size ≤ w1.heap.size) := hb1.size
      go_wp2_with fail
      go_loopw [6, 8, 27] (fun v _ i wr => ∃ k : Nat, k ≤ 2 ∧ i = .int .i64 k ∧ wr.ownsRow w.heap.size 34 6 v (sz k) (edsV (acc k)) ∧ Below w.heap.size w wr) (fun _ _ i _ => 2 - (intOf i).toNat)
      case atStart => exact ⟨0, by omega, rfl, by rw [HS0.out, HA0.out]; exact HO1.out, HB1.out⟩
      case round =>
        obtain ⟨k, hk, rfl, hown, hbw⟩ := hrel
        have HO := Lib.hid hown; have HB := Lib.hid hbw
        have hBs : w.heap.size ≤ wr.heap.size := hbw.size
        obtain rfl | rfl | rfl : k = 0 ∨ k = 1 ∨ k = 2 := by omega
        · have q0 : wr.cell? ⟨b, off, none⟩ = some (.slice a1 l1.length c1) := by rw [hbw.cell (p := ⟨b, off, none⟩) hb]; exact h0
          rw [HS0.out, HA0.out] at HO
          have R1' := Lib.hid ((R1.out.below hbw).more hbw.size)
          clear hown hbw h0 h1
          go_wp2_with (refine wpList_append_rd _ rfl (.tmp 31) (.tmp 32) 22 rfl w.heap.size 34 i0 _ 6 48 Try.underlying22 hi0 hz0 hz1 HZ2.out rfl (by omega) _ 0 [] rfl HO.out _ _ l1.length _ (edsV l1) rfl (by rw [edsV_length]) R1'.out (edsV_one _) (by unfold maxLen; omega) (by omega) hBs ?_
                       intro v7 w3 hown3 hg3 hk3
                       have HO3 := Lib.hid hown3; have HB3 := Lib.hid (Below.of_grown HB.out hg3 hBs (by intro g hg; exact (own_shape HO.out hg).1)); clear hown3 hg3 hk3)
          go_roundw
          case rel => exact ⟨1, by omega, by go_num, by rw [HS1.out, HA1.out]; have h := HO3.out; rwa [Nat.zero_add, List.nil_append] at h, HB3.out⟩
          case measure => simp [intOf]
        · have q1 : wr.cell? ⟨b, off + 1, none⟩ = some (.slice a2 l2.length c2) := by rw [hbw.cell (p := ⟨b, off + 1, none⟩) hb]; exact h1
          rw [HS1.out, HA1.out] at HO
          have R2' := Lib.hid ((R2.out.below hbw).more hbw.size)
          clear hown hbw h0 h1
          go_wp2_with (refine wpList_append_rd _ rfl (.tmp 31) (.tmp 32) 22 rfl w.heap.size 34 i0 _ 6 48 Try.underlying22 hi0 hz0 hz1 HZ2.out rfl (by omega) _ l1.length (edsV l1) rfl HO.out _ _ l2.length _ (edsV l2) rfl (by rw [edsV_length]) R2'.out (edsV_one _) (by unfold maxLen; omega) (by omega) hBs ?_
                       intro v7 w3 hown3 hg3 hk3
                       have HO3 := Lib.hid hown3; have HB3 := Lib.hid (Below.of_grown HB.out hg3 hBs (by intro g hg; exact (own_shape HO.out hg).1)); clear hown3 hg3 hk3)
          go_roundw
          case rel => exact ⟨2, by omega, by go_num, by rw [HS2.out, HA2.out, edsV_append]; exact HO3.out, HB3.out⟩
          case measure => simp [intOf]
        · rw [HS2.out, HA2.out] at HO
          clear hown hbw
          go_wp2_with fail
          go_ret
          exact ⟨_, rfl, by rw [List.length_append]; exact HO.out, HB.out⟩
end Go.Proofs.Ytgeoggilnkcacaa
