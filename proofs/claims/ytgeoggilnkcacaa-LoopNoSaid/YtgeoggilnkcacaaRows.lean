/-
  No cell of these rows narrows 'for every input' (looked for: loops, veiled, ifaces, maps, wideKeys, modest, calm, conditions, laid).
  DERIVED. THE GIVEN ROWS OF THIS SEAT. 3 by the template 'for every input the law returns true; each argument reads behind the call as it read before'; 0 by the template 'total and deterministic' (their statements: YtgeoggilnkcacaaTotals.lean).
  GIVEN WITH THE SEED: the statements are not yours to turn. If you find one false, say at which input.
  Laid BY PROGRAM, IN A SANDBOX (cutbox-rows.mjs): the forced cells as the released guide's own fill.sh prints them over the translation f71e3232e1a9ae0c… (all of the seat's roots in one cut). By AI agents, Wed Nov 11 2026. No macro, syntax, notation, axiom, sorry.
-/
import Derived.Test.YtgeoggilnkcacaaChecked
import GoSem.Claim
import GoSem.ClaimJoined
import GoSem.ClaimMapViews
import Derived.JoinedTies
import Derived.KernelRfl
namespace Go.Proofs.Ytgeoggilnkcacaa
/- THE CELL 'sum', in the pinned program and in every row, IS THE sha256 OF THE DUMP (.gsa) THAT YtgeoggilnkcacaaProg.lean LOADS. Nothing in Lean hashes anything: it is a label: what it is worth is what the hold of that sum in a sandbox is worth. -/
noncomputable def Try.pinned : Pinned := { name := "ytgeoggilnkcacaa", sum := "f71e3232e1a9ae0cba1bd9b5e22e0452faf67a6802a8f196db39e3ff3fa5426b", checked := Try.checked }
namespace Rows
def none {H : Type} : Left H := { results := [], args := [] }

/-- 'merkhetlaw16.LoopOf': WHATEVER THE INPUT: true; the input reads as it did. -/
def loopOfSpec : ChangeSpec := { name := "loopOf", fn := fun _ => fun
  | [d1, d2] => { results := [.lit (.bool true)], args := [d1, d2] }
  | _ => none }
def loopOfRow : OpenClaim := { program := "ytgeoggilnkcacaa", sum := "f71e3232e1a9ae0cba1bd9b5e22e0452faf67a6802a8f196db39e3ff3fa5426b", func := "merkhet/merkhetlaw16.LoopOf", spec := "loopOf", apart := false }
def LoopOfSaid : Prop := loopOfRow.holds Try.pinned (OpenSpec.ofChange loopOfSpec)

/-- ITS FALSE NEIGHBOUR: 'it returns false'. Refute it at one input. -/
def loopOfWrong : ChangeSpec := { name := "loopOf", fn := fun _ => fun
  | [d1, d2] => { results := [.lit (.bool false)], args := [d1, d2] }
  | _ => none }
def LoopOfWrongFalsely : Prop := loopOfRow.holds Try.pinned (OpenSpec.ofChange loopOfWrong)

/-- 'merkhetlaw16.LoopWitness': WHATEVER THE INPUT: true; the input reads as it did. -/
def loopWitnessSpec : ChangeSpec := { name := "loopWitness", fn := fun _ => fun
  | [d1, d2] => { results := [.lit (.bool true)], args := [d1, d2] }
  | _ => none }
def loopWitnessRow : OpenClaim := { program := "ytgeoggilnkcacaa", sum := "f71e3232e1a9ae0cba1bd9b5e22e0452faf67a6802a8f196db39e3ff3fa5426b", func := "merkhet/merkhetlaw16.LoopWitness", spec := "loopWitness", apart := false }
def LoopWitnessSaid : Prop := loopWitnessRow.holds Try.pinned (OpenSpec.ofChange loopWitnessSpec)

/-- ITS FALSE NEIGHBOUR: 'it returns false'. Refute it at one input. -/
def loopWitnessWrong : ChangeSpec := { name := "loopWitness", fn := fun _ => fun
  | [d1, d2] => { results := [.lit (.bool false)], args := [d1, d2] }
  | _ => none }
def LoopWitnessWrongFalsely : Prop := loopWitnessRow.holds Try.pinned (OpenSpec.ofChange loopWitnessWrong)

/-- 'merkhetlaw16.LoopNo': WHATEVER THE INPUT: true; the input reads as it did. -/
def loopNoSpec : ChangeSpec := { name := "loopNo", fn := fun _ => fun
  | [d1, d2, d3] => { results := [.lit (.bool true)], args := [d1, d2, d3] }
  | _ => none }
def loopNoRow : OpenClaim := { program := "ytgeoggilnkcacaa", sum := "f71e3232e1a9ae0cba1bd9b5e22e0452faf67a6802a8f196db39e3ff3fa5426b", func := "merkhet/merkhetlaw16.LoopNo", spec := "loopNo", apart := false }
def LoopNoSaid : Prop := loopNoRow.holds Try.pinned (OpenSpec.ofChange loopNoSpec)

/-- ITS FALSE NEIGHBOUR: 'it returns false'. Refute it at one input. -/
def loopNoWrong : ChangeSpec := { name := "loopNo", fn := fun _ => fun
  | [d1, d2, d3] => { results := [.lit (.bool false)], args := [d1, d2, d3] }
  | _ => none }
def LoopNoWrongFalsely : Prop := loopNoRow.holds Try.pinned (OpenSpec.ofChange loopNoWrong)

/- THE SECOND FORM. 'bulk': how many values and letters a reading holds, each counted each time it is reached (what is shared counts as often as it is met; a slice's spare places count too). A statement '..UptoSaid' is the law's where the arguments, and the package variables that the reading takes, are together of bulk at most 1048576: NARROWER than '..Said'. Prove '..Said' where nothing that the law and all that it calls make is longer than what came in: it says more and counts as full. Else prove '..UptoSaid'. A law counts once. -/
mutual
def uptoBulk {H : Type} : DataW H → Nat
  | .lit (.string bytes) => bytes.length + 1
  | .lit _ => 1
  | .nil => 1
  | .ptr d => uptoBulk d + 1
  | .slice elems spare => uptoBulkAll elems + uptoBulkAll spare + 1
  | .agg parts => uptoBulkAll parts + 1
  | .iface _ d => uptoBulk d + 1
  | .map entries => uptoBulkEntries entries + 1
  | .held _ => 1
def uptoBulkAll {H : Type} : List (DataW H) → Nat
  | [] => 0
  | d :: r => uptoBulk d + uptoBulkAll r
def uptoBulkEntries {H : Type} : List (Lit × DataW H) → Nat
  | [] => 0
  | x :: r => uptoBulkEntry x + uptoBulkEntries r
def uptoBulkEntry {H : Type} : Lit × DataW H → Nat
  | (.string bytes, d) => bytes.length + uptoBulk d + 1
  | (_, d) => uptoBulk d + 1
 end
def uptoSmall : (H : Type) → List (DataW H) → Bool := fun _ ds => decide (uptoBulkAll ds ≤ 1048576)
def OpenSpec.upto (s : _root_.Go.ChangeSpec) : _root_.Go.OpenSpec := { _root_.Go.OpenSpec.ofChange s with cond := some uptoSmall }

/-- 'merkhetlaw16.LoopOf', WHERE WHAT IT READS IS OF BULK AT MOST 1048576: true; the input reads as it did. -/
def loopOfUptoRow : OpenClaim := { program := "ytgeoggilnkcacaa", sum := "f71e3232e1a9ae0cba1bd9b5e22e0452faf67a6802a8f196db39e3ff3fa5426b", func := "merkhet/merkhetlaw16.LoopOf", spec := "loopOf", apart := false, narrowed := true }
def LoopOfUptoSaid : Prop := loopOfUptoRow.holds Try.pinned (OpenSpec.upto loopOfSpec)

/-- 'merkhetlaw16.LoopWitness', WHERE WHAT IT READS IS OF BULK AT MOST 1048576: true; the input reads as it did. -/
def loopWitnessUptoRow : OpenClaim := { program := "ytgeoggilnkcacaa", sum := "f71e3232e1a9ae0cba1bd9b5e22e0452faf67a6802a8f196db39e3ff3fa5426b", func := "merkhet/merkhetlaw16.LoopWitness", spec := "loopWitness", apart := false, narrowed := true }
def LoopWitnessUptoSaid : Prop := loopWitnessUptoRow.holds Try.pinned (OpenSpec.upto loopWitnessSpec)

/-- 'merkhetlaw16.LoopNo', WHERE WHAT IT READS IS OF BULK AT MOST 1048576: true; the input reads as it did. -/
def loopNoUptoRow : OpenClaim := { program := "ytgeoggilnkcacaa", sum := "f71e3232e1a9ae0cba1bd9b5e22e0452faf67a6802a8f196db39e3ff3fa5426b", func := "merkhet/merkhetlaw16.LoopNo", spec := "loopNo", apart := false, narrowed := true }
def LoopNoUptoSaid : Prop := loopNoUptoRow.holds Try.pinned (OpenSpec.upto loopNoSpec)

end Rows
end Go.Proofs.Ytgeoggilnkcacaa
