/-
  No cell of these rows narrows 'for every input' (looked for: loops, veiled, ifaces, maps, wideKeys, modest, calm, conditions, laid).
  DERIVED. THE GIVEN ROWS OF THIS SEAT. 4 by the template 'for every input the law returns true; each argument reads behind the call as it read before'; 0 by the template 'total and deterministic' (their statements: YtommpppbdkapbaaTotals.lean).
  GIVEN WITH THE SEED: the statements are not yours to turn. If you find one false, say at which input.
  Laid BY PROGRAM, IN A SANDBOX (cutbox-rows.mjs): the forced cells as the released guide's own fill.sh prints them over the translation 9d87e07a36a86264… (all of the seat's roots in one cut). By AI agents, Wed Nov 11 2026. No macro, syntax, notation, axiom, sorry.
-/
import Derived.Test.YtommpppbdkapbaaChecked
import GoSem.Claim
import GoSem.ClaimJoined
import GoSem.ClaimMapViews
import Derived.JoinedTies
import Derived.KernelRfl
namespace Go.Proofs.Ytommpppbdkapbaa
/- THE CELL 'sum', in the pinned program and in every row, IS THE sha256 OF THE DUMP (.gsa) THAT YtommpppbdkapbaaProg.lean LOADS. Nothing in Lean hashes anything: it is a label: what it is worth is what the hold of that sum in a sandbox is worth. -/
noncomputable def Try.pinned : Pinned := { name := "ytommpppbdkapbaa", sum := "9d87e07a36a86264a741fb7009e7ccfe7aff045208a2a299f9df2fad98911c2e", checked := Try.checked }
namespace Rows
def none {H : Type} : Left H := { results := [], args := [] }

/-- 'merkhetlaw12.RpcPairs': WHATEVER THE INPUT: true; the input reads as it did. -/
def rpcPairsSpec : ChangeSpec := { name := "rpcPairs", fn := fun _ => fun
  | [d1, d2] => { results := [.lit (.bool true)], args := [d1, d2] }
  | _ => none }
def rpcPairsRow : OpenClaim := { program := "ytommpppbdkapbaa", sum := "9d87e07a36a86264a741fb7009e7ccfe7aff045208a2a299f9df2fad98911c2e", func := "merkhet/merkhetlaw12.RpcPairs", spec := "rpcPairs", unfollowed := true, recurses := true, apart := false }
def RpcPairsSaid : Prop := rpcPairsRow.holds Try.pinned (OpenSpec.ofChange rpcPairsSpec)

/-- ITS FALSE NEIGHBOUR: 'it returns false'. Refute it at one input. -/
def rpcPairsWrong : ChangeSpec := { name := "rpcPairs", fn := fun _ => fun
  | [d1, d2] => { results := [.lit (.bool false)], args := [d1, d2] }
  | _ => none }
def RpcPairsWrongFalsely : Prop := rpcPairsRow.holds Try.pinned (OpenSpec.ofChange rpcPairsWrong)

/-- 'merkhetlaw12.RpcGaps': WHATEVER THE INPUT: true; the input reads as it did. -/
def rpcGapsSpec : ChangeSpec := { name := "rpcGaps", fn := fun _ => fun
  | [d1, d2] => { results := [.lit (.bool true)], args := [d1, d2] }
  | _ => none }
def rpcGapsRow : OpenClaim := { program := "ytommpppbdkapbaa", sum := "9d87e07a36a86264a741fb7009e7ccfe7aff045208a2a299f9df2fad98911c2e", func := "merkhet/merkhetlaw12.RpcGaps", spec := "rpcGaps", unfollowed := true, recurses := true, apart := false }
def RpcGapsSaid : Prop := rpcGapsRow.holds Try.pinned (OpenSpec.ofChange rpcGapsSpec)

/-- ITS FALSE NEIGHBOUR: 'it returns false'. Refute it at one input. -/
def rpcGapsWrong : ChangeSpec := { name := "rpcGaps", fn := fun _ => fun
  | [d1, d2] => { results := [.lit (.bool false)], args := [d1, d2] }
  | _ => none }
def RpcGapsWrongFalsely : Prop := rpcGapsRow.holds Try.pinned (OpenSpec.ofChange rpcGapsWrong)

/-- 'merkhetlaw12.RpcFits': WHATEVER THE INPUT: true; the input reads as it did. -/
def rpcFitsSpec : ChangeSpec := { name := "rpcFits", fn := fun _ => fun
  | [d1, d2] => { results := [.lit (.bool true)], args := [d1, d2] }
  | _ => none }
def rpcFitsRow : OpenClaim := { program := "ytommpppbdkapbaa", sum := "9d87e07a36a86264a741fb7009e7ccfe7aff045208a2a299f9df2fad98911c2e", func := "merkhet/merkhetlaw12.RpcFits", spec := "rpcFits", unfollowed := true, recurses := true, apart := false }
def RpcFitsSaid : Prop := rpcFitsRow.holds Try.pinned (OpenSpec.ofChange rpcFitsSpec)

/-- ITS FALSE NEIGHBOUR: 'it returns false'. Refute it at one input. -/
def rpcFitsWrong : ChangeSpec := { name := "rpcFits", fn := fun _ => fun
  | [d1, d2] => { results := [.lit (.bool false)], args := [d1, d2] }
  | _ => none }
def RpcFitsWrongFalsely : Prop := rpcFitsRow.holds Try.pinned (OpenSpec.ofChange rpcFitsWrong)

/-- 'merkhetlaw12.RpcMoved': WHATEVER THE INPUT: true; the input reads as it did. -/
def rpcMovedSpec : ChangeSpec := { name := "rpcMoved", fn := fun _ => fun
  | [d1, d2, d3] => { results := [.lit (.bool true)], args := [d1, d2, d3] }
  | _ => none }
def rpcMovedRow : OpenClaim := { program := "ytommpppbdkapbaa", sum := "9d87e07a36a86264a741fb7009e7ccfe7aff045208a2a299f9df2fad98911c2e", func := "merkhet/merkhetlaw12.RpcMoved", spec := "rpcMoved", unfollowed := true, recurses := true, apart := false }
def RpcMovedSaid : Prop := rpcMovedRow.holds Try.pinned (OpenSpec.ofChange rpcMovedSpec)

/-- ITS FALSE NEIGHBOUR: 'it returns false'. Refute it at one input. -/
def rpcMovedWrong : ChangeSpec := { name := "rpcMoved", fn := fun _ => fun
  | [d1, d2, d3] => { results := [.lit (.bool false)], args := [d1, d2, d3] }
  | _ => none }
def RpcMovedWrongFalsely : Prop := rpcMovedRow.holds Try.pinned (OpenSpec.ofChange rpcMovedWrong)

/- THE SECOND FORM. 'bulk': how many values and letters a reading holds, each counted each time it is reached (what is shared counts as often as it is met; a slice's spare places count too). A statement '..UptoSaid' is the law's where the arguments, and the package variables that the reading takes, are together of bulk at most 1048576: NARROWER than '..Said'. Prove '..Said' where nothing that the law and all that it calls make is longer than what came in: it says more and counts as full. Else prove '..UptoSaid'. A law counts once. -/
mutual
def uptoBulk {H : Type} : DataW H → Nat
  | .lit (.string bytes) => bytes.length + 1
  | .lit _ => 1
  | .nil => 1
  | .ptr d => uptoBulk d + 1
  | .slice elems spare => uptoBulkAll elems + uptoBulkAll spare + 1
  | .agg parts => uptoBulkAll parts + 1
  | .iface _ d => uptoBulk d + 1
  | .map entries => uptoBulkEntries entries + 1
  | .held _ => 1
def uptoBulkAll {H : Type} : List (DataW H) → Nat
  | [] => 0
  | d :: r => uptoBulk d + uptoBulkAll r
def uptoBulkEntries {H : Type} : List (Lit × DataW H) → Nat
  | [] => 0
  | x :: r => uptoBulkEntry x + uptoBulkEntries r
def uptoBulkEntry {H : Type} : Lit × DataW H → Nat
  | (.string bytes, d) => bytes.length + uptoBulk d + 1
  | (_, d) => uptoBulk d + 1
 end
def uptoSmall : (H : Type) → List (DataW H) → Bool := fun _ ds => decide (uptoBulkAll ds ≤ 1048576)
def OpenSpec.upto (s : _root_.Go.ChangeSpec) : _root_.Go.OpenSpec := { _root_.Go.OpenSpec.ofChange s with cond := some uptoSmall }

/-- 'merkhetlaw12.RpcPairs', WHERE WHAT IT READS IS OF BULK AT MOST 1048576: true; the input reads as it did. -/
def rpcPairsUptoRow : OpenClaim := { program := "ytommpppbdkapbaa", sum := "9d87e07a36a86264a741fb7009e7ccfe7aff045208a2a299f9df2fad98911c2e", func := "merkhet/merkhetlaw12.RpcPairs", spec := "rpcPairs", unfollowed := true, recurses := true, apart := false, narrowed := true }
def RpcPairsUptoSaid : Prop := rpcPairsUptoRow.holds Try.pinned (OpenSpec.upto rpcPairsSpec)

/-- 'merkhetlaw12.RpcGaps', WHERE WHAT IT READS IS OF BULK AT MOST 1048576: true; the input reads as it did. -/
def rpcGapsUptoRow : OpenClaim := { program := "ytommpppbdkapbaa", sum := "9d87e07a36a86264a741fb7009e7ccfe7aff045208a2a299f9df2fad98911c2e", func := "merkhet/merkhetlaw12.RpcGaps", spec := "rpcGaps", unfollowed := true, recurses := true, apart := false, narrowed := true }
def RpcGapsUptoSaid : Prop := rpcGapsUptoRow.holds Try.pinned (OpenSpec.upto rpcGapsSpec)

/-- 'merkhetlaw12.RpcFits', WHERE WHAT IT READS IS OF BULK AT MOST 1048576: true; the input reads as it did. -/
def rpcFitsUptoRow : OpenClaim := { program := "ytommpppbdkapbaa", sum := "9d87e07a36a86264a741fb7009e7ccfe7aff045208a2a299f9df2fad98911c2e", func := "merkhet/merkhetlaw12.RpcFits", spec := "rpcFits", unfollowed := true, recurses := true, apart := false, narrowed := true }
def RpcFitsUptoSaid : Prop := rpcFitsUptoRow.holds Try.pinned (OpenSpec.upto rpcFitsSpec)

/-- 'merkhetlaw12.RpcMoved', WHERE WHAT IT READS IS OF BULK AT MOST 1048576: true; the input reads as it did. -/
def rpcMovedUptoRow : OpenClaim := { program := "ytommpppbdkapbaa", sum := "9d87e07a36a86264a741fb7009e7ccfe7aff045208a2a299f9df2fad98911c2e", func := "merkhet/merkhetlaw12.RpcMoved", spec := "rpcMoved", unfollowed := true, recurses := true, apart := false, narrowed := true }
def RpcMovedUptoSaid : Prop := rpcMovedUptoRow.holds Try.pinned (OpenSpec.upto rpcMovedSpec)

end Rows
end Go.Proofs.Ytommpppbdkapbaa
