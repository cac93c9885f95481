import Derived.Test.YtommpppbdkapbaaBj
import Derived.Deep.CutRange
namespace Go.Proofs.Ytommpppbdkapbaa
open Go Go.Shelf Go.RowKit Go.Sort
set_option linter.unusedVariables false

/-! isPair, Gaps, Within of the landed code (stage 12). -/
def pairB (L : List Sp) (p : Pr) : Bool := (findL L p.client).isSome && (findL L p.server).isSome && decide ((orZ (findL L p.client)).kind = 1) && decide ((orZ (findL L p.server)).kind = 2)
/-- Both spans in boxes of the call's own. -/
def InBoxes (W0 wx : World) (u v : Value) (s t : Sp) : Prop :=
  ∃ b d, u = .pointer (some ⟨b, 0, none⟩) ∧ v = .pointer (some ⟨d, 0, none⟩) ∧ Box wx b s ∧ Box wx d t ∧ Below W0.heap.size W0 wx
set_option maxHeartbeats 8000000 in
theorem isPair_any (pb : Nat) (a : Option Addr) (c : Nat) (L : List Sp) (p : Pr) (w : World) (hpb : pb < w.heap.size) (hc : w.cell? ⟨pb, 0, none⟩ = some (.slice a L.length c)) (ha : Rd w w.heap.size a (flatL L)) (hl : L.length ≤ 100000) (hok : ∀ s ∈ L, s.Ok) :
    Calls Try.prog 19 #[p.v, .func (.func 24) #[] #[.pointer (some ⟨pb, 0, none⟩)]] w fun e w' => e = .returned (.bool (pairB L p)) ∧ Below w.heap.size w w' := by
  have HA := Lib.hid ha; have HOK := Lib.hid hok; have HC := Lib.hid hc; clear ha hok hc
  obtain ⟨x, y⟩ := p
  obtain ⟨s, hs⟩ : ∃ s, s = orZ (findL L x) := ⟨_, rfl⟩
  obtain ⟨t, ht⟩ : ∃ t, t = orZ (findL L y) := ⟨_, rfl⟩
  obtain ⟨bo, hbo⟩ : ∃ b, b = ((findL L x).isSome && (findL L y).isSome) := ⟨_, rfl⟩
  have HE : Hid (pairB L ⟨x, y⟩ = (bo && decide (s.kind = 1) && decide (t.kind = 2))) := by show _ = _; rw [hs, ht, hbo]; rfl
  have HBO : Hid (bothV L ⟨x, y⟩ = .tuple #[s.v, t.v, .bool bo]) := by show _ = _; rw [hs, ht, hbo]; rfl
  clear hs ht hbo
  simp only [Pr.v]
  obtain ⟨V, hV⟩ : ∃ V, V = w.alloc (.cells #[.int .i64 x, .int .i64 y] 32) := ⟨_, rfl⟩
  have HB0 : Hid (Below w.heap.size w V) := by show Below _ _ _; rw [hV]; exact box1 _ _
  have HS0 : Hid (V.heap.size = w.heap.size + 1) := by show _ = _; rw [hV]; simp
  have HK : Hid (∀ w', Below V.heap.size V w' → Calls Try.prog 21 #[.agg #[.int .i64 x, .int .i64 y], .func (.func 24) #[] #[.pointer (some ⟨pb, 0, none⟩)]] w' fun e w2 => e = .returned (.tuple #[s.v, t.v, .bool bo]) ∧ Below w'.heap.size w' w2) := by
    intro w' h
    have hw := bel2 HB0.out h
    rw [← HBO.out]
    exact both_any pb a c L ⟨x, y⟩ w' (Nat.lt_of_lt_of_le hpb hw.size) ((hw.cell (p := ⟨pb, 0, none⟩) hpb).trans HC.out) ((HA.out.below hw).more hw.size) hl HOK.out
  have hq : V.cell? ⟨w.heap.size, 0, none⟩ = some (.int .i64 x) ∧ V.cell? ⟨w.heap.size, 1, none⟩ = some (.int .i64 y) := by rw [hV]; exact ⟨by simp, by simp⟩
  have k0 : ∀ w', Below V.heap.size V w' → w'.cell? ⟨w.heap.size, 0, none⟩ = some (.int .i64 x) := fun w' h => (h.cell (p := ⟨w.heap.size, 0, none⟩) (by rw [HS0.out]; simp)).trans hq.1
  have k1 : ∀ w', Below V.heap.size V w' → w'.cell? ⟨w.heap.size, 1, none⟩ = some (.int .i64 y) := fun w' h => (h.cell (p := ⟨w.heap.size, 1, none⟩) (by rw [HS0.out]; simp)).trans hq.2
  clear hq
  simp only [Sp.v] at HK
  have hk0 := k0 V (Below.refl _ _); have hk1 := k1 V (Below.refl _ _)
  clear k0 k1
  go_enter Try.func19, Try.ntmps19
  go_upto_region 1 with fail
  rw [← hV]
  clear hV
  go_wp2_with fail
  refine (HK.out V (Below.refl _ _)).mono ?_
  rintro e w5 ⟨rfl, hb5⟩
  go_upto_region 2 with fail
  have HB5 : Hid (∀ o o', Below w.heap.size w ((w5.alloc o).alloc o')) := fun o o' =>
    ((bel2 HB0.out hb5).alloc (bel2 HB0.out hb5).size _).alloc (by have := (bel2 HB0.out hb5).size; simp; omega) _
  clear hb5 hk0 hk1 HK
  cases bo with
  | false =>
    go_wp2_with fail
    go_ret
    exact ⟨by rw [HE.out]; rfl, HB5.out _ _⟩
  | true =>
    by_cases h1 : s.kind = 1
    case neg =>
      go_wp2_with fail
      go_ret
      exact ⟨by rw [HE.out]; simp [h1], HB5.out _ _⟩
    by_cases h2 : t.kind = 2
    case neg =>
      go_wp2_with fail
      go_ret
      exact ⟨by rw [HE.out]; simp [h1, h2], HB5.out _ _⟩
    go_wp2_with fail
    go_ret
    exact ⟨by rw [HE.out]; simp [h1, h2], HB5.out _ _⟩
end Go.Proofs.Ytommpppbdkapbaa
