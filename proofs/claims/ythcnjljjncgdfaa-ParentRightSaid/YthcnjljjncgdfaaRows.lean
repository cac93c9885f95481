/-
  No cell of these rows narrows 'for every input' (looked for: loops, veiled, ifaces, maps, wideKeys, modest, calm, conditions, laid).
  DERIVED. THE GIVEN ROWS OF THIS SEAT. 4 by the template 'for every input the law returns true; each argument reads behind the call as it read before'; 0 by the template 'total and deterministic' (their statements: YthcnjljjncgdfaaTotals.lean).
  GIVEN WITH THE SEED: the statements are not yours to turn. If you find one false, say at which input.
  Laid BY PROGRAM, IN A SANDBOX (cutbox-rows.mjs): the forced cells as the released guide's own fill.sh prints them over the translation 778b3fae1eee414a… (all of the seat's roots in one cut). By AI agents, Wed Nov 11 2026. No macro, syntax, notation, axiom, sorry.
-/
import Derived.Test.YthcnjljjncgdfaaChecked
import GoSem.Claim
import GoSem.ClaimJoined
import GoSem.ClaimMapViews
import Derived.JoinedTies
import Derived.KernelRfl
namespace Go.Proofs.Ythcnjljjncgdfaa
/- THE CELL 'sum', in the pinned program and in every row, IS THE sha256 OF THE DUMP (.gsa) THAT YthcnjljjncgdfaaProg.lean LOADS. Nothing in Lean hashes anything: it is a label: what it is worth is what the hold of that sum in a sandbox is worth. -/
noncomputable def Try.pinned : Pinned := { name := "ythcnjljjncgdfaa", sum := "778b3fae1eee414a002809e8f62bd53214f2fa26c972328b45dc64312a9ab37a", checked := Try.checked }
namespace Rows
def none {H : Type} : Left H := { results := [], args := [] }

/-- 'merkhetlaw10.ParentOf': WHATEVER THE INPUT: true; the input reads as it did. -/
def parentOfSpec : ChangeSpec := { name := "parentOf", fn := fun _ => fun
  | [d] => { results := [.lit (.bool true)], args := [d] }
  | _ => none }
def parentOfRow : OpenClaim := { program := "ythcnjljjncgdfaa", sum := "778b3fae1eee414a002809e8f62bd53214f2fa26c972328b45dc64312a9ab37a", func := "merkhet/merkhetlaw10.ParentOf", spec := "parentOf", apart := false }
def ParentOfSaid : Prop := parentOfRow.holds Try.pinned (OpenSpec.ofChange parentOfSpec)

/-- ITS FALSE NEIGHBOUR: 'it returns false'. Refute it at one input. -/
def parentOfWrong : ChangeSpec := { name := "parentOf", fn := fun _ => fun
  | [d] => { results := [.lit (.bool false)], args := [d] }
  | _ => none }
def ParentOfWrongFalsely : Prop := parentOfRow.holds Try.pinned (OpenSpec.ofChange parentOfWrong)

/-- 'merkhetlaw10.ParentRight': WHATEVER THE INPUT: true; the input reads as it did. -/
def parentRightSpec : ChangeSpec := { name := "parentRight", fn := fun _ => fun
  | [d] => { results := [.lit (.bool true)], args := [d] }
  | _ => none }
def parentRightRow : OpenClaim := { program := "ythcnjljjncgdfaa", sum := "778b3fae1eee414a002809e8f62bd53214f2fa26c972328b45dc64312a9ab37a", func := "merkhet/merkhetlaw10.ParentRight", spec := "parentRight", apart := false }
def ParentRightSaid : Prop := parentRightRow.holds Try.pinned (OpenSpec.ofChange parentRightSpec)

/-- ITS FALSE NEIGHBOUR: 'it returns false'. Refute it at one input. -/
def parentRightWrong : ChangeSpec := { name := "parentRight", fn := fun _ => fun
  | [d] => { results := [.lit (.bool false)], args := [d] }
  | _ => none }
def ParentRightWrongFalsely : Prop := parentRightRow.holds Try.pinned (OpenSpec.ofChange parentRightWrong)

/-- 'merkhetlaw10.ParentForest': WHATEVER THE INPUT: true; the input reads as it did. -/
def parentForestSpec : ChangeSpec := { name := "parentForest", fn := fun _ => fun
  | [d] => { results := [.lit (.bool true)], args := [d] }
  | _ => none }
def parentForestRow : OpenClaim := { program := "ythcnjljjncgdfaa", sum := "778b3fae1eee414a002809e8f62bd53214f2fa26c972328b45dc64312a9ab37a", func := "merkhet/merkhetlaw10.ParentForest", spec := "parentForest", apart := false }
def ParentForestSaid : Prop := parentForestRow.holds Try.pinned (OpenSpec.ofChange parentForestSpec)

/-- ITS FALSE NEIGHBOUR: 'it returns false'. Refute it at one input. -/
def parentForestWrong : ChangeSpec := { name := "parentForest", fn := fun _ => fun
  | [d] => { results := [.lit (.bool false)], args := [d] }
  | _ => none }
def ParentForestWrongFalsely : Prop := parentForestRow.holds Try.pinned (OpenSpec.ofChange parentForestWrong)

/-- 'merkhetlaw10.ParentDepth': WHATEVER THE INPUT: true; the input reads as it did. -/
def parentDepthSpec : ChangeSpec := { name := "parentDepth", fn := fun _ => fun
  | [d] => { results := [.lit (.bool true)], args := [d] }
  | _ => none }
def parentDepthRow : OpenClaim := { program := "ythcnjljjncgdfaa", sum := "778b3fae1eee414a002809e8f62bd53214f2fa26c972328b45dc64312a9ab37a", func := "merkhet/merkhetlaw10.ParentDepth", spec := "parentDepth", apart := false }
def ParentDepthSaid : Prop := parentDepthRow.holds Try.pinned (OpenSpec.ofChange parentDepthSpec)

/-- ITS FALSE NEIGHBOUR: 'it returns false'. Refute it at one input. -/
def parentDepthWrong : ChangeSpec := { name := "parentDepth", fn := fun _ => fun
  | [d] => { results := [.lit (.bool false)], args := [d] }
  | _ => none }
def ParentDepthWrongFalsely : Prop := parentDepthRow.holds Try.pinned (OpenSpec.ofChange parentDepthWrong)

/- THE SECOND FORM. 'bulk': how many values and letters a reading holds, each counted each time it is reached (what is shared counts as often as it is met; a slice's spare places count too). A statement '..UptoSaid' is the law's where the arguments, and the package variables that the reading takes, are together of bulk at most 1048576: NARROWER than '..Said'. Prove '..Said' where nothing that the law and all that it calls make is longer than what came in: it says more and counts as full. Else prove '..UptoSaid'. A law counts once. -/
mutual
def uptoBulk {H : Type} : DataW H → Nat
  | .lit (.string bytes) => bytes.length + 1
  | .lit _ => 1
  | .nil => 1
  | .ptr d => uptoBulk d + 1
  | .slice elems spare => uptoBulkAll elems + uptoBulkAll spare + 1
  | .agg parts => uptoBulkAll parts + 1
  | .iface _ d => uptoBulk d + 1
  | .map entries => uptoBulkEntries entries + 1
  | .held _ => 1
def uptoBulkAll {H : Type} : List (DataW H) → Nat
  | [] => 0
  | d :: r => uptoBulk d + uptoBulkAll r
def uptoBulkEntries {H : Type} : List (Lit × DataW H) → Nat
  | [] => 0
  | x :: r => uptoBulkEntry x + uptoBulkEntries r
def uptoBulkEntry {H : Type} : Lit × DataW H → Nat
  | (.string bytes, d) => bytes.length + uptoBulk d + 1
  | (_, d) => uptoBulk d + 1
 end
def uptoSmall : (H : Type) → List (DataW H) → Bool := fun _ ds => decide (uptoBulkAll ds ≤ 1048576)
def OpenSpec.upto (s : _root_.Go.ChangeSpec) : _root_.Go.OpenSpec := { _root_.Go.OpenSpec.ofChange s with cond := some uptoSmall }

/-- 'merkhetlaw10.ParentOf', WHERE WHAT IT READS IS OF BULK AT MOST 1048576: true; the input reads as it did. -/
def parentOfUptoRow : OpenClaim := { program := "ythcnjljjncgdfaa", sum := "778b3fae1eee414a002809e8f62bd53214f2fa26c972328b45dc64312a9ab37a", func := "merkhet/merkhetlaw10.ParentOf", spec := "parentOf", apart := false, narrowed := true }
def ParentOfUptoSaid : Prop := parentOfUptoRow.holds Try.pinned (OpenSpec.upto parentOfSpec)

/-- 'merkhetlaw10.ParentRight', WHERE WHAT IT READS IS OF BULK AT MOST 1048576: true; the input reads as it did. -/
def parentRightUptoRow : OpenClaim := { program := "ythcnjljjncgdfaa", sum := "778b3fae1eee414a002809e8f62bd53214f2fa26c972328b45dc64312a9ab37a", func := "merkhet/merkhetlaw10.ParentRight", spec := "parentRight", apart := false, narrowed := true }
def ParentRightUptoSaid : Prop := parentRightUptoRow.holds Try.pinned (OpenSpec.upto parentRightSpec)

/-- 'merkhetlaw10.ParentForest', WHERE WHAT IT READS IS OF BULK AT MOST 1048576: true; the input reads as it did. -/
def parentForestUptoRow : OpenClaim := { program := "ythcnjljjncgdfaa", sum := "778b3fae1eee414a002809e8f62bd53214f2fa26c972328b45dc64312a9ab37a", func := "merkhet/merkhetlaw10.ParentForest", spec := "parentForest", apart := false, narrowed := true }
def ParentForestUptoSaid : Prop := parentForestUptoRow.holds Try.pinned (OpenSpec.upto parentForestSpec)

/-- 'merkhetlaw10.ParentDepth', WHERE WHAT IT READS IS OF BULK AT MOST 1048576: true; the input reads as it did. -/
def parentDepthUptoRow : OpenClaim := { program := "ythcnjljjncgdfaa", sum := "778b3fae1eee414a002809e8f62bd53214f2fa26c972328b45dc64312a9ab37a", func := "merkhet/merkhetlaw10.ParentDepth", spec := "parentDepth", apart := false, narrowed := true }
def ParentDepthUptoSaid : Prop := parentDepthUptoRow.holds Try.pinned (OpenSpec.upto parentDepthSpec)

end Rows
end Go.Proofs.Ythcnjljjncgdfaa
