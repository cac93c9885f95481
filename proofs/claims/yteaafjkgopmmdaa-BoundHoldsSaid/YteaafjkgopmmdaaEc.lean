import Derived.Test.YteaafjkgopmmdaaEb
namespace Go.Proofs.Yteaafjkgopmmdaa
open Go Go.RowKit Go.Sort Go.Shelf
set_option linter.unusedVariables false

/-! The laws of stage 13, over what the landed code has to pay: the example, HostsOf. -/
theorem Rd.cell1 {w : World} {B : Nat} {a : Option Addr} {xs : List Value} (h : Rd w B a xs) {i : Nat} {u : Value} (hu : xs[i]? = some u) : ∃ b off, a = some ⟨b, off, none⟩ ∧ b < B ∧ w.cell? ⟨b, off + i, none⟩ = some u := by
  have hi : i < xs.length := (List.getElem?_eq_some_iff.1 hu).1
  obtain ⟨b, off, ha, hb, hc⟩ := h (by omega)
  exact ⟨b, off, ha, hb, hc i u hu⟩
def hS (b : UInt8) : Sp := ⟨0, 0, 0, 0, ⟨#[b]⟩, ⟨#[]⟩, 0, 0⟩
theorem ok13 : ∀ s ∈ [hS 98, hS 97, hS 98], s.Ok := by
  intro s hs
  simp only [List.mem_cons, List.not_mem_nil, or_false] at hs
  rcases hs with rfl | rfl | rfl <;>
    (refine ⟨?_, ?_, ?_, ?_, by simp [hS]; decide, by decide, ?_, ?_⟩ <;> (first | (unfold U64; simp [hS]) | (unfold U8; simp [hS]) | (unfold I64; simp [hS])))
theorem hosts13 : hostsL [hS 98, hS 97, hS 98] = [[97], [98]] := by
  symm
  refine Once.is ⟨?_, fun x => ?_⟩
  · refine List.pairwise_cons.2 ⟨fun y hy => ?_, List.pairwise_singleton ..⟩
    rw [List.mem_singleton.1 hy]
    show lexI [97] [98] = -1
    decide +kernel
  · simp only [hS, hostT, txt, List.map_cons, List.map_nil, List.mem_cons, List.not_mem_nil, or_false]
    constructor
    · rintro (rfl | rfl)
      · exact .inr (.inl rfl)
      · exact .inl rfl
    · rintro (rfl | rfl | rfl)
      · exact .inr rfl
      · exact .inl rfl
      · exact .inr rfl
theorem num13 : numL [hS 98, hS 97, hS 98] = [1, 0, 1] := by
  unfold numL
  rw [hosts13]
  decide +kernel
theorem great13_len {L : List Sp} (h : greatB L = false) : L.length ≤ 60 := by
  rcases Nat.lt_or_ge 60 L.length with h1 | h1
  · rw [great_many h1] at h; cases h
  · exact h1
end Go.Proofs.Yteaafjkgopmmdaa

