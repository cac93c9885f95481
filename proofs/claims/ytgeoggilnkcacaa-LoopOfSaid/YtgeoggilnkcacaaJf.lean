import Derived.Test.YtgeoggilnkcacaaJe
namespace Go.Proofs.Ytgeoggilnkcacaa
open Go Go.RowKit Go.Sort
set_option linter.unusedVariables false

/-! The laws of stage 16: the example, LoopOf. -/
def e16a : Ed := ⟨0, 1, -7, 0, 0, false⟩
def e16b : Ed := ⟨1, 0, 6, 0, 0, false⟩
theorem ok16 : ∀ e ∈ [e16a, e16b], e.Ok := by
  intro e he
  simp only [List.mem_cons, List.not_mem_nil, or_false] at he
  rcases he with rfl | rfl
  · refine ⟨?_, ?_, ?_, ?_, ?_⟩ <;> (unfold I64; simp [e16a])
  · refine ⟨?_, ?_, ?_, ?_, ?_⟩ <;> (unfold I64; simp [e16b])
theorem chain16 : ChainIs 2 [e16a, e16b] [e16a, e16b] := by
  refine .inl ⟨by decide, by decide, 0, 0, 2, ⟨by decide, by decide, fun j hj => absurd hj (Nat.not_lt_zero _)⟩, ⟨by decide, by decide, by decide, ?_⟩, by kernel_rfl⟩
  intro r s hrs hs
  have h1 : r = 0 := by omega
  have h2 : s = 1 := by omega
  subst h1 h2
  decide
theorem chain_len {n : Int} {E K : List Ed} (h : ChainIs n E K) : K.length ≤ 32 ∧ (mayE n E = true → (K.length : Int) ≤ n) := by
  rcases h with ⟨h1, h2, h3⟩ | ⟨_, rfl⟩
  · obtain ⟨k1, k2, k3⟩ := mayE_iff.1 h1
    have h4 := (chain_is (.inl ⟨h1, h2, h3⟩) h1 h2).1.le
    exact ⟨by omega, fun _ => by omega⟩
  · refine ⟨Nat.zero_le _, fun h => ?_⟩
    obtain ⟨k1, _, _⟩ := mayE_iff.1 h
    simpa using k1
theorem fixed16_any (hl : LoopPay 8) (w : World) : Calls Try.prog 6 #[] w fun e w' => e = .returned (.bool true) ∧ Below w.heap.size w w' := by
  have hlit : edsV [e16a, e16b] = (e16a.c ++ e16b.c).toList := by simp [edsV, flatG, edV, Ed.c]
  have HR := Lib.hid (show Rd (w.alloc (.cells (e16a.c ++ e16b.c) 34)) (w.alloc (.cells (e16a.c ++ e16b.c) 34)).heap.size (some ⟨w.heap.size, 0, none⟩) (edsV [e16a, e16b]) from by
    rw [hlit]; exact (lit_rd w (e16a.c ++ e16b.c) 34).more (by simp))
  have HC := Lib.hid (hl 2 (some ⟨w.heap.size, 0, none⟩) 2 [e16a, e16b] _ HR.out (by simp) ok16 (by unfold I64; omega))
  have HBW := Lib.hid (box1 w (.cells (e16a.c ++ e16b.c) 34))
  clear hl
  go_enter Try.func6, Try.ntmps6
  go_wp2_with (first
    | (go_at_call 8
       refine HC.out.mono ?_
       rintro x w1 ⟨v, K, rfl, hch, hown, hb1⟩
       obtain rfl := chain_unique hch chain16
       obtain ⟨va, vc, rfl, -, -, -⟩ := own_slice hown
       have HO := Lib.hid (Rd.own hown)
       have HR1 := Lib.hid ((HR.out.below hb1).more hb1.size)
       have HB1 := Lib.hid (bel2 HBW.out hb1); clear hb1 hown hch)
    | (go_at_call 7
       refine (same14_is va (some ⟨w.heap.size, 0, none⟩) vc 2 2 [e16a, e16b] w1 rfl HO.out HR1.out (by decide)).mono ?_
       rintro x w2 ⟨rfl, hb2⟩
       have HB2 := Lib.hid (bel2 HB1.out hb2); clear hb2))
  go_ret
  exact ⟨rfl, HB2.out⟩
set_option maxHeartbeats 8000000 in
theorem law_of16 (hl : LoopPay 8) (n : Int) (a : Option Addr) (c : Nat) (E : List Ed) (w : World) (ha : Rd w w.heap.size a (edsV E)) (hc1 : E.length ≤ maxLen) (hok : ∀ e ∈ E, e.Ok) (hn : I64 n) :
    Calls Try.prog 3 #[.int .i64 n, .slice a E.length c] w fun e w' => e = .returned (.bool true) ∧ Below w.heap.size w w' := by
  have HF := Lib.hid (fun w => fixed16_any hl w)
  have HLP := Lib.hid hl; have HA := Lib.hid ha; have HOK := Lib.hid hok; have HN := Lib.hid hn
  clear hl ha hok hn
  unfold maxLen at hc1
  by_cases hg : 100 < E.length
  · have i1 : (100 : Int) < (E.length : Int) := by omega
    go_enter Try.func3, Try.ntmps3
    go_wp2_with (go_at_call 6; refine (HF.out _).mono ?_; rintro x w1 ⟨rfl, hb1⟩; have HB1 := Lib.hid hb1; clear hb1)
    go_ret
    exact ⟨rfl, HB1.out⟩
  have i1 : ¬ (100 : Int) < (E.length : Int) := by omega
  have hle : E.length ≤ 100000 := by omega
  go_enter Try.func3, Try.ntmps3
  go_wp2_with (first
    | (go_at_call 6; refine (HF.out _).mono ?_; rintro x w1 ⟨rfl, hb1⟩
       have HB1 := Lib.hid hb1; have HA1 := Lib.hid ((HA.out.below hb1).more hb1.size); clear hb1)
    | (go_at_call 8
       refine (HLP.out n a c E w1 HA1.out hle HOK.out HN.out).mono ?_
       rintro x w2 ⟨v, K, rfl, hch, hown, hb2⟩
       obtain ⟨va, vc, rfl, -, -, -⟩ := own_slice hown
       have HCH := Lib.hid hch
       have HO2 := Lib.hid (Rd.own hown)
       have HA2 := Lib.hid ((HA1.out.below hb2).more hb2.size)
       have HB2 := Lib.hid (bel2 HB1.out hb2); clear hb2 hown hch)
    | (go_at_call 9
       refine (refLoop_any n a c E w2 HA2.out hle HOK.out HN.out).mono ?_
       rintro x w3 ⟨v3, K3, rfl, hch, hown, hb3⟩
       obtain rfl := chain_unique HCH.out hch
       obtain ⟨va3, vc3, rfl, -, -, -⟩ := own_slice hown
       have HO3 := Lib.hid (Rd.own hown)
       have HO23 := Lib.hid ((HO2.out.below hb3).more hb3.size)
       have HB3 := Lib.hid (bel2 HB2.out hb3); clear hb3 hown hch)
    | (go_at_call 7
       refine (same14_is va va3 vc vc3 K.length K w3 rfl HO23.out HO3.out (by have := (chain_len HCH.out).1; unfold maxLen; omega)).mono ?_
       rintro x w4 ⟨rfl, hb4⟩
       have HB4 := Lib.hid (bel2 HB3.out hb4); clear hb4))
  go_ret
  exact ⟨rfl, HB4.out⟩
end Go.Proofs.Ytgeoggilnkcacaa

