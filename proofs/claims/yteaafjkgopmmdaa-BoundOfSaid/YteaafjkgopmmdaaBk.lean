import Derived.Test.YteaafjkgopmmdaaBj
import Derived.Deep.CutRange
namespace Go.Proofs.Yteaafjkgopmmdaa
open Go Go.Shelf Go.RowKit Go.Sort
set_option linter.unusedVariables false

/-! isPair, Gaps, Within of the landed code (stage 12). -/
def pairB (L : List Sp) (p : Pr) : Bool := (findL L p.client).isSome && (findL L p.server).isSome && decide ((orZ (findL L p.client)).kind = 1) && decide ((orZ (findL L p.server)).kind = 2)
/-- Both spans in boxes of the call's own. -/
def InBoxes (W0 wx : World) (u v : Value) (s t : Sp) : Prop :=
  ∃ b d, u = .pointer (some ⟨b, 0, none⟩) ∧ v = .pointer (some ⟨d, 0, none⟩) ∧ Box wx b s ∧ Box wx d t ∧ Below W0.heap.size W0 wx
end Go.Proofs.Yteaafjkgopmmdaa

