import Derived.Test.YtdeplooijjfekaaRows
import Derived.Test.YtdeplooijjfekaaGc
import Derived.ScopeJumps
import Derived.WalkMore
namespace Go.Proofs.Ytdeplooijjfekaa
open Go Go.RowKit

def cnt (size : Int) : Nat := (min (max size 0) 8).toNat
theorem cnt_le (s : Int) : cnt s ≤ 8 := by unfold cnt; omega
set_option maxHeartbeats 400000 in
theorem counted_any (s : Int) (w : World) (h1 : -9223372036854775808 ≤ s) (h2 : s ≤ 9223372036854775807) :
    Calls Try.prog 27 #[.int .i64 s] w fun e w' => e = .returned (.int .i64 (cnt s)) ∧ w = w' := by
  by_cases h : s < 0
  · go_enter Try.func27, Try.ntmps27
    go_wp2
    go_ret
    exact ⟨ret_i64 (by unfold cnt; omega), rfl⟩
  by_cases h3 : 8 < s
  all_goals
    go_enter Try.func27, Try.ntmps27
    go_wp2
    go_ret
    exact ⟨ret_i64 (by unfold cnt; omega), rfl⟩
set_option maxHeartbeats 400000 in
theorem refCount_any (s : Int) (w : World) :
    Calls Try.prog 32 #[.int .i64 s] w fun e w' => e = .returned (.int .i64 (cnt s)) ∧ w = w' := by
  by_cases h1 : s < 0
  · go_enter Try.func32, Try.ntmps32
    go_wp2
    go_ret
    exact ⟨ret_i64 (by unfold cnt; omega), rfl⟩
  by_cases h2 : 8 < s
  · go_enter Try.func32, Try.ntmps32
    go_wp2
    go_ret
    exact ⟨ret_i64 (by unfold cnt; omega), rfl⟩
  go_enter Try.func32, Try.ntmps32
  go_wp2
  go_ret
  exact ⟨ret_i64 (by unfold cnt; omega), rfl⟩
def byt (n i : Nat) : UInt8 := UInt8.ofNat (n / 2 ^ (8 * i))
theorem byt_nat (n i : Nat) : (byt n i).toNat = n / 2 ^ (8 * i) % 256 := by simp [byt]
theorem byt_int (n i : Nat) : ((n : Int) / 2 ^ (8 * i) % 256) = ((byt n i).toNat : Int) := by
  rw [byt_nat]; simp
set_option maxHeartbeats 400000 in
theorem put1_any (n : Nat) (i : Nat) (b : Nat) (w : World) (hi : i < 8) (_hn : n < 18446744073709551616) (hc : w.cell? ⟨b, 0, none⟩ = some (.int .u64 (n : Int))) :
    Calls Try.prog 28 #[.int .i64 i, .pointer (some ⟨b, 0, none⟩)] w fun e w' => e = .returned (.int .u8 ((byt n i).toNat : Int)) ∧ w = w' := by
  rw [← byt_int]
  go_enter Try.func28, Try.ntmps28
  go_wp2
  go_ret
  exact ⟨rfl, rfl⟩

theorem info_u8 : (Try.prog.info? 5).map (fun i => (i.zero, i.size, i.bytes)) = some (some (.int .u8 0), 1, 1) := by kernel_rfl
set_option maxHeartbeats 1000000 in
theorem lay_any (fv : Value) (K : FuncId) (caps : Array Value) (f : Nat → UInt8) (k : Nat) (a : Option Addr) (c : Nat) (l : List UInt8) (w : World) (hr : Rd w w.heap.size a (bV l)) (hl : l.length ≤ 1000000000000) (_hlc : l.length ≤ c) (hk : k ≤ 100) (hfv : 0 < k → fv = .func (.func K) #[] caps)
    (hen : 0 < k → ∀ args w, (callFunc K args).run Try.prog w = .ok (.enter K args) w)
    (hf : ∀ i < k, ∀ W, Below w.heap.size w W → Calls Try.prog K (#[.int .i64 (i : Int)] ++ caps) W fun e W' => e = .returned (.int .u8 ((f i).toNat : Int)) ∧ W = W') :
    Calls Try.prog 26 #[.slice a l.length c, .int .i64 k, fv] w
      fun e w' => ∃ v, e = .returned v ∧ w'.ownsRow w.heap.size 5 1 v (l.length + k) (bV (l ++ (List.range k).map f)) ∧ Below w.heap.size w w' := by
  obtain ⟨i0, hi0, hz0, hz1, hz2⟩ := info_parts info_u8
  have HR := Lib.hid hr; have HF := Lib.hid hf; clear hr hf
  have HZ2 := Lib.hid hz2; clear hz2
  have HFV := Lib.hid hfv; have HEN := Lib.hid hen; clear hfv hen
  go_enter Try.func26, Try.ntmps26
  go_wp2
  refine wp_scope_back 0 (fun a' w' => ∃ (i g : Nat) (u9 u10 u11 u12 u13 u14 u15 u16 u17 u18 u19 u20 u21 u22 u23 u24 u25 u26 u27 u28 u29 u30 : Value), i ≤ k ∧ a' = { tmps := #[.slice a l.length c, .int .i64 k, fv, undef, undef, undef, .slice none 0 0, .slice (some ⟨g, 0, none⟩) (l.length + i) (l.length + k), .int .i64 i, u9, u10, u11, u12, u13, u14, u15, u16, u17, u18, u19, u20, u21, u22, u23, u24, u25, u26, u27, u28, u29, u30], defers := [] } ∧ w'.ownsRow w.heap.size 5 1 (.slice (some ⟨g, 0, none⟩) (l.length + i) (l.length + k)) (l.length + i) (bV (l ++ (List.range i).map f)) ∧ RowKit.Below w.heap.size w w') (fun a' _ => k - (intOf (a'.tmps.getD 8 undef)).toNat) rfl ?_ ?_
  · rintro a' W ⟨i, g, u9, u10, u11, u12, u13, u14, u15, u16, u17, u18, u19, u20, u21, u22, u23, u24, u25, u26, u27, u28, u29, u30, hik, rfl, hown, hb⟩
    have HO := Lib.hid hown; have HB := Lib.hid hb; clear hown hb
    by_cases hlt : i < k
    · have hen := HEN.out (by omega)
      have hfv := HFV.out (by omega)
      subst hfv
      go_wp2_with fail
      refine (HF.out i hlt W HB.out).mono ?_
      rintro e w3 ⟨rfl, rfl⟩
      go_wp2_with (at_builtin
                   refine wpList_append_fits _ rfl (.tmp 22) (.tmp 26) 22 rfl w.heap.size 5 i0 1 Try.underlying22 hi0 hz1 g (l.length + i) (l.length + k) _ rfl (HO.out.alloc _) ⟨W.heap.size, 0, none⟩ 1 1 (bV [f i]) rfl rfl (lit_cells W #[.int .u8 ((f i).toNat : Int)] _) (bV_one _) (by omega) ?_
                   intro w4 hown4 hg4
                   have HO4 := Lib.hid hown4; have HG4 := Lib.hid hg4; clear hown4 hg4)
      go_step3
      have hg : w.heap.size ≤ g := (own_shape HO.out rfl).1
      refine ⟨rfl, ⟨i + 1, g, _, _, _, _, _, _, _, _, _, _, _, _, _, _, _, _, _, _, _, _, _, _, by omega, rfl, ?_, ?_⟩, ?_⟩
      · rw [List.range_succ, List.map_append, ← List.append_assoc, bV_append]
        exact HO4.out
      · exact Below.of_grown (HB.out.alloc HB.out.size _) HG4.out (by simp; exact Nat.le_succ_of_le HB.out.size) (by intro g' h; simp at h; omega)
      · simp [intOf]; omega
    · have hik' : i = k := by omega
      subst hik'
      go_wp2_with fail
      simp only [Exit.jump]
      go_ret
      exact ⟨_, rfl, HO.out, HB.out⟩
  · intro hpass
    go_wp2_with (first
      | (at_make
         refine wpList_make_room _ rfl (.tmp 10) (.tmp 14) 22 rfl w.heap.size 5 i0 _ 1 Try.underlying22 hi0 hz0 hz1 .i64 .i64 _ _ l.length (l.length + k) rfl rfl rfl rfl (by omega) (by rw [HZ2.out]; omega) (by unfold maxLen; omega) (Nat.le_refl _) ?_
         intro w1 hown1 hb1
         have HO1 := Lib.hid hown1; have HB1 := Lib.hid hb1; clear hown1 hb1)
      | (refine wpList_copy_all rfl (.tmp 16) (.tmp 17) 22 rfl w.heap.size 5 i0 1 Try.underlying22 hi0 hz1 w.heap.size l.length (l.length + k) _ rfl HO1.out w.heap.size a c (bV l) rfl (by rw [bV_length]; omega) (by omega) (HR.out.below HB1.out) (bV_one l) ?_
         intro w2 hown2 hg2
         have HO2 := Lib.hid hown2; have HB2 := Lib.hid (HB1.out.grown hg2 HB1.out.size (by simp)); clear hown2 hg2))
    go_step3
    refine ‹∀ (a : Act) (w : World), Code.wp _ _ _ a w → _› _ _ ?_
    exact hpass _ _ ⟨0, w.heap.size, _, _, _, _, _, _, _, _, _, _, _, _, _, _, _, _, _, _, _, _, _, _, Nat.zero_le _, rfl, by simpa using HO2.out, HB2.out⟩
end Go.Proofs.Ytdeplooijjfekaa
