/- The law SimPrefix returns true at any parts, every fate and every fuse, and leaves them as they were: no condition. -/
import Derived.Test.YthfhmohbfoolnaaFy
import Derived.Test.YthfhmohbfoolnaaFx
import Derived.Test.YthfhmohbfoolnaaKz
namespace Go.Proofs.Ythfhmohbfoolnaa.simPrefix
open Go.ChangeShapes Go.WideShapes Go.ChangeAt Go.RowKit
open Go.ChangeMaps (open_string shut_string)
set_option linter.unusedVariables false
theorem own : ownKnob Try.prog.godebug = none := by kernel_rfl
theorem laidOut : laidOutB Try.prog = true := by kernel_rfl
theorem cells_u8 : Try.prog.cellsOf 5 = 1 := by kernel_rfl
section
variable {H : Type} {enc : TypeId × Value → H} {w : World} {base : Nat} {spare : Nat → Bool} {held : Bool}
open Go.Deep Go.Joins
set_option maxRecDepth 100000 in
theorem pt_cells {fuel : Nat} {cs : List Value} {x : DataW H × List MemPlace} (h : DataW.trod enc Try.prog w base spare held fuel 36 cs = some x) : ∃ s : Pt, PtArg w s ∧ cs = s.l := by
  obtain ⟨d, p⟩ := x
  rcases open_ints Try.underlying36 Try.underlying5 cells_u8 h with ⟨hcs, _⟩ | ⟨a', len', cap', zs, hcs, hb, hl, hm, hzl, _, hcell, hwf⟩
  · exact ⟨⟨none, 0, []⟩, ⟨Rd.nil _ _ _, Nat.le_refl _, Nat.zero_le _⟩, hcs⟩
  · have e : cs = [.slice (some a') len' cap'] := hcs
    subst e
    obtain ⟨l, a, k, hv, k1, k2, k3⟩ := bytes_cell Try.underlying36 Try.underlying5 cells_u8 h
    exact ⟨⟨a, k, l⟩, ⟨k3, k1, k2⟩, by rw [hv]; rfl⟩
set_option maxRecDepth 100000 in
/-- Parts that came in. -/
theorem open_parts {b0 : Nat} {r : Reach} {v : Value} {d : DataW H} {p : List MemPlace} (hv : Value.okWide Try.prog w r b0 50 v) (h : DataW.Trod enc Try.prog w base spare held 50 v d p) :
    ∃ (L : List Pt) (a : Option Addr) (c : Nat), (∀ s ∈ L, PtArg w s) ∧ v = .slice a L.length c ∧ L.length ≤ c ∧ c ≤ maxLen ∧ Rd w w.heap.size a (flatG Pt.l L) := by
  obtain ⟨a, len, cap, rfl⟩ := okWide_slice Try.underlying50 hv
  obtain ⟨fuel, hf⟩ := h
  exact rows_cell Pt.l (m := 1) (fun _ => rfl) (by omega) (PtArg w) Try.underlying50 (by kernel_rfl) (fun _ _ _ h => pt_cells h) hf
set_option maxRecDepth 100000 in
/-- A fate that came in. -/
theorem open_fate {b0 : Nat} {r : Reach} {v : Value} {d : DataW H} {p : List MemPlace} (hv : Value.okWide Try.prog w r b0 52 v) (h : DataW.Trod enc Try.prog w base spare held 52 v d p) : ∃ t : Ft, FtArg w t ∧ v = t.v := by
  obtain ⟨cs, rfl⟩ : ∃ cs : Array Value, v = .agg cs := by
    simp only [Value.okWide, Try.underlying52] at hv
    obtain ⟨cs, h1, _⟩ := hv
    exact ⟨cs, h1⟩
  obtain ⟨fuel, hf⟩ := h
  obtain ⟨s, hs, e⟩ := fate_cells hf
  refine ⟨s, hs, ?_⟩
  have e2 : cs.toList = s.l := e
  have e3 : cs = s.l.toArray := by rw [← e2]
  rw [e3]; rfl
end

set_option maxRecDepth 100000 in
theorem lifted (os : Os) (started : os.Started) (H : Type) (enc : TypeId × Value → H) :
    ReturnsInHanded {} Try.checked os 5 .any (Rows.simPrefixSpec.pre6 enc Try.prog Try.f5 Rows.simPrefixRow.domain false) (Rows.simPrefixSpec.post enc Try.prog Try.f5 false true false false) := by
  refine returnsInHanded_of_change (C := Try.checked) own started (by kernel_rfl) Try.func5
    (ChangeSpec.witness6 (enc := enc) (C := Try.checked) false ⟨#[], #[.slice none 0 0, .agg #[.bool false, .int .i64 0, .slice none 0 0], .int .u8 0], []⟩ 8 (by kernel_rfl) (by kernel_rfl) (by kernel_rfl) (by kernel_rfl)) ?_
  intro W base args ds gs before hval0 hW hcnd _
  have hval : ∀ (j : Nat) t v, Try.f5.params[j]? = some t → args[j]? = some v → Value.okWide Try.prog W .any base t v := hval0
  have hW' := hW
  obtain ⟨p, q, hA0, hV, rfl, hfz, hnd⟩ := hW
  have hA : DataW.TrodAll enc Try.prog W 0 (fun _ => true) true Try.f5.params.toList args.toList ds p := hA0
  rw [Try.params5] at hA hval
  obtain ⟨v0, vs0, d0, ds0, p0, q0, hargs, rfl, rfl, h0, r0⟩ := trodAll_cons hA
  obtain ⟨v1, vs1, d1, ds1, p1, q1, rfl, rfl, rfl, h1, r1⟩ := trodAll_cons r0
  obtain ⟨v2, vs2, d2, ds2, p2, q2, rfl, rfl, rfl, h2, r2⟩ := trodAll_cons r1
  obtain ⟨rfl, rfl, rfl⟩ := trodAll_nil r2
  obtain rfl : args = #[v0, v1, v2] := by cases args; simp_all
  obtain ⟨rfl, rfl⟩ := trodVars_none hV
  have k0 := h0
  have lt0 : ∀ x ∈ p0, x.block < W.heap.size := by obtain ⟨m, hm⟩ := k0; exact DataW.trod_lt m _ _ _ hm
  have k1 := h1
  have lt1 : ∀ x ∈ p1, x.block < W.heap.size := by obtain ⟨m, hm⟩ := k1; exact DataW.trod_lt m _ _ _ hm
  have k2 := h2
  have lt2 : ∀ x ∈ p2, x.block < W.heap.size := by obtain ⟨m, hm⟩ := k2; exact DataW.trod_lt m _ _ _ hm
  obtain ⟨L0, a0, c0, w0, e0, x0, y0, u0⟩ := open_parts (hval 0 50 v0 rfl rfl) h0
  obtain ⟨t1, w1, e1⟩ := open_fate (hval 1 52 v1 rfl rfl) h1
  obtain ⟨n2, e2, w2⟩ : ∃ s, v2 = .int .u8 s ∧ (Lit.int .u8 s).wf = true := by
    obtain ⟨s, h, _, _, hs⟩ := open_int Try.underlying5 (hval 2 5 v2 rfl rfl) h2
    exact ⟨s, h, hs⟩
  have b2 := u8_of w2
  clear hA0 hval0
  have hwalk : Calls Try.prog 5 #[v0, v1, v2] W fun e w' => e = .returned (.bool true) ∧ Below W.heap.size W w' := by
    subst e0 e1 e2
    obtain ⟨f, rfl⟩ : ∃ n : Nat, n2 = n := ⟨n2.toNat, by omega⟩
    exact simprefix_any kit a0 c0 L0 t1 f W u0 x0 y0 w0 w1 (by omega)
  refine hwalk.mono fun e W' ⟨he, bel⟩ => ?_
  subst he
  exact ⟨_, rfl, _, _, _, [], _, [], hW', trodAll_mk1 (shut_bool Try.underlying4 _), (trodAll_cons_mk (Below.trod laidOut (by kernel_rfl) (of_decide_eq_true (by kernel_rfl)) k0 bel lt0) (trodAll_cons_mk (Below.trod laidOut (by kernel_rfl) (of_decide_eq_true (by kernel_rfl)) k1 bel lt1) (trodAll_cons_mk (Below.trod laidOut (by kernel_rfl) (of_decide_eq_true (by kernel_rfl)) k2 bel lt2) trodAll_mk0))), rfl, bel.frame _, fun h => by cases h⟩

theorem over : Rows.simPrefixRow.holds Try.pinned (OpenSpec.ofChange Rows.simPrefixSpec) :=
  OpenClaim.holds_of_wide 5 Try.f5 rfl rfl rfl rfl rfl rfl rfl ⟨rfl, rfl, rfl, rfl, rfl⟩ rfl rfl rfl rfl rfl (by kernel_rfl) Try.func5 (by kernel_rfl)
    (of_decide_eq_true (by kernel_rfl)) (by unfold Func.isWrapper; first | (rw [if_pos (by decide +kernel)]; kernel_rfl) | (rw [if_neg (by decide +kernel)]; exact ⟨rfl, rfl⟩))
    (fun os started H enc _ => lifted os started H enc)

theorem proved : Rows.SimPrefixSaid := over
#print axioms proved
end Go.Proofs.Ythfhmohbfoolnaa.simPrefix
