/-
  No cell of these rows narrows 'for every input' (looked for: loops, veiled, ifaces, maps, wideKeys, modest, calm, conditions, laid).
  DERIVED. THE GIVEN ROWS OF THIS SEAT. 4 by the template 'for every input the law returns true; each argument reads behind the call as it read before'; 0 by the template 'total and deterministic' (their statements: YtkaafjcfcknbpaaTotals.lean).
  GIVEN WITH THE SEED: the statements are not yours to turn. If you find one false, say at which input.
  Laid BY PROGRAM, IN A SANDBOX (cutbox-rows.mjs): the forced cells as the released guide's own fill.sh prints them over the translation bbdf2bcff875ce69… (all of the seat's roots in one cut). By AI agents, Wed Nov 11 2026. No macro, syntax, notation, axiom, sorry.
-/
import Derived.Test.YtkaafjcfcknbpaaChecked
import GoSem.Claim
import GoSem.ClaimJoined
import GoSem.ClaimMapViews
import Derived.JoinedTies
import Derived.KernelRfl
namespace Go.Proofs.Ytkaafjcfcknbpaa
/- THE CELL 'sum', in the pinned program and in every row, IS THE sha256 OF THE DUMP (.gsa) THAT YtkaafjcfcknbpaaProg.lean LOADS. Nothing in Lean hashes anything: it is a label: what it is worth is what the hold of that sum in a sandbox is worth. -/
noncomputable def Try.pinned : Pinned := { name := "ytkaafjcfcknbpaa", sum := "bbdf2bcff875ce6960ccab8164dc0137d6b894b5c46d113203c0d6c4928c4970", checked := Try.checked }
namespace Rows
def none {H : Type} : Left H := { results := [], args := [] }

/-- 'merkhetlaw07.SegmentHeads': WHATEVER THE INPUT: true; the input reads as it did. -/
def segmentHeadsSpec : ChangeSpec := { name := "segmentHeads", fn := fun _ => fun
  | [d1, d2] => { results := [.lit (.bool true)], args := [d1, d2] }
  | _ => none }
def segmentHeadsRow : OpenClaim := { program := "ytkaafjcfcknbpaa", sum := "bbdf2bcff875ce6960ccab8164dc0137d6b894b5c46d113203c0d6c4928c4970", func := "merkhet/merkhetlaw07.SegmentHeads", spec := "segmentHeads", unfollowed := true, recurses := true, apart := false }
def SegmentHeadsSaid : Prop := segmentHeadsRow.holds Try.pinned (OpenSpec.ofChange segmentHeadsSpec)

/-- ITS FALSE NEIGHBOUR: 'it returns false'. Refute it at one input. -/
def segmentHeadsWrong : ChangeSpec := { name := "segmentHeads", fn := fun _ => fun
  | [d1, d2] => { results := [.lit (.bool false)], args := [d1, d2] }
  | _ => none }
def SegmentHeadsWrongFalsely : Prop := segmentHeadsRow.holds Try.pinned (OpenSpec.ofChange segmentHeadsWrong)

/-- 'merkhetlaw07.SegmentReads': WHATEVER THE INPUT: true; the input reads as it did. -/
def segmentReadsSpec : ChangeSpec := { name := "segmentReads", fn := fun _ => fun
  | [d] => { results := [.lit (.bool true)], args := [d] }
  | _ => none }
def segmentReadsRow : OpenClaim := { program := "ytkaafjcfcknbpaa", sum := "bbdf2bcff875ce6960ccab8164dc0137d6b894b5c46d113203c0d6c4928c4970", func := "merkhet/merkhetlaw07.SegmentReads", spec := "segmentReads", unfollowed := true, recurses := true, apart := false }
def SegmentReadsSaid : Prop := segmentReadsRow.holds Try.pinned (OpenSpec.ofChange segmentReadsSpec)

/-- ITS FALSE NEIGHBOUR: 'it returns false'. Refute it at one input. -/
def segmentReadsWrong : ChangeSpec := { name := "segmentReads", fn := fun _ => fun
  | [d] => { results := [.lit (.bool false)], args := [d] }
  | _ => none }
def SegmentReadsWrongFalsely : Prop := segmentReadsRow.holds Try.pinned (OpenSpec.ofChange segmentReadsWrong)

/-- 'merkhetlaw07.SegmentTorn': WHATEVER THE INPUT: true; the input reads as it did. -/
def segmentTornSpec : ChangeSpec := { name := "segmentTorn", fn := fun _ => fun
  | [d1, d2, d3] => { results := [.lit (.bool true)], args := [d1, d2, d3] }
  | _ => none }
def segmentTornRow : OpenClaim := { program := "ytkaafjcfcknbpaa", sum := "bbdf2bcff875ce6960ccab8164dc0137d6b894b5c46d113203c0d6c4928c4970", func := "merkhet/merkhetlaw07.SegmentTorn", spec := "segmentTorn", unfollowed := true, recurses := true, apart := false }
def SegmentTornSaid : Prop := segmentTornRow.holds Try.pinned (OpenSpec.ofChange segmentTornSpec)

/-- ITS FALSE NEIGHBOUR: 'it returns false'. Refute it at one input. -/
def segmentTornWrong : ChangeSpec := { name := "segmentTorn", fn := fun _ => fun
  | [d1, d2, d3] => { results := [.lit (.bool false)], args := [d1, d2, d3] }
  | _ => none }
def SegmentTornWrongFalsely : Prop := segmentTornRow.holds Try.pinned (OpenSpec.ofChange segmentTornWrong)

/-- 'merkhetlaw07.SegmentTold': WHATEVER THE INPUT: true; the input reads as it did. -/
def segmentToldSpec : ChangeSpec := { name := "segmentTold", fn := fun _ => fun
  | [d1, d2, d3] => { results := [.lit (.bool true)], args := [d1, d2, d3] }
  | _ => none }
def segmentToldRow : OpenClaim := { program := "ytkaafjcfcknbpaa", sum := "bbdf2bcff875ce6960ccab8164dc0137d6b894b5c46d113203c0d6c4928c4970", func := "merkhet/merkhetlaw07.SegmentTold", spec := "segmentTold", unfollowed := true, recurses := true, apart := false }
def SegmentToldSaid : Prop := segmentToldRow.holds Try.pinned (OpenSpec.ofChange segmentToldSpec)

/-- ITS FALSE NEIGHBOUR: 'it returns false'. Refute it at one input. -/
def segmentToldWrong : ChangeSpec := { name := "segmentTold", fn := fun _ => fun
  | [d1, d2, d3] => { results := [.lit (.bool false)], args := [d1, d2, d3] }
  | _ => none }
def SegmentToldWrongFalsely : Prop := segmentToldRow.holds Try.pinned (OpenSpec.ofChange segmentToldWrong)

/- THE SECOND FORM. 'bulk': how many values and letters a reading holds, each counted each time it is reached (what is shared counts as often as it is met; a slice's spare places count too). A statement '..UptoSaid' is the law's where the arguments, and the package variables that the reading takes, are together of bulk at most 1048576: NARROWER than '..Said'. Prove '..Said' where nothing that the law and all that it calls make is longer than what came in: it says more and counts as full. Else prove '..UptoSaid'. A law counts once. -/
mutual
def uptoBulk {H : Type} : DataW H → Nat
  | .lit (.string bytes) => bytes.length + 1
  | .lit _ => 1
  | .nil => 1
  | .ptr d => uptoBulk d + 1
  | .slice elems spare => uptoBulkAll elems + uptoBulkAll spare + 1
  | .agg parts => uptoBulkAll parts + 1
  | .iface _ d => uptoBulk d + 1
  | .map entries => uptoBulkEntries entries + 1
  | .held _ => 1
def uptoBulkAll {H : Type} : List (DataW H) → Nat
  | [] => 0
  | d :: r => uptoBulk d + uptoBulkAll r
def uptoBulkEntries {H : Type} : List (Lit × DataW H) → Nat
  | [] => 0
  | x :: r => uptoBulkEntry x + uptoBulkEntries r
def uptoBulkEntry {H : Type} : Lit × DataW H → Nat
  | (.string bytes, d) => bytes.length + uptoBulk d + 1
  | (_, d) => uptoBulk d + 1
 end
def uptoSmall : (H : Type) → List (DataW H) → Bool := fun _ ds => decide (uptoBulkAll ds ≤ 1048576)
def OpenSpec.upto (s : _root_.Go.ChangeSpec) : _root_.Go.OpenSpec := { _root_.Go.OpenSpec.ofChange s with cond := some uptoSmall }

/-- 'merkhetlaw07.SegmentHeads', WHERE WHAT IT READS IS OF BULK AT MOST 1048576: true; the input reads as it did. -/
def segmentHeadsUptoRow : OpenClaim := { program := "ytkaafjcfcknbpaa", sum := "bbdf2bcff875ce6960ccab8164dc0137d6b894b5c46d113203c0d6c4928c4970", func := "merkhet/merkhetlaw07.SegmentHeads", spec := "segmentHeads", unfollowed := true, recurses := true, apart := false, narrowed := true }
def SegmentHeadsUptoSaid : Prop := segmentHeadsUptoRow.holds Try.pinned (OpenSpec.upto segmentHeadsSpec)

/-- 'merkhetlaw07.SegmentReads', WHERE WHAT IT READS IS OF BULK AT MOST 1048576: true; the input reads as it did. -/
def segmentReadsUptoRow : OpenClaim := { program := "ytkaafjcfcknbpaa", sum := "bbdf2bcff875ce6960ccab8164dc0137d6b894b5c46d113203c0d6c4928c4970", func := "merkhet/merkhetlaw07.SegmentReads", spec := "segmentReads", unfollowed := true, recurses := true, apart := false, narrowed := true }
def SegmentReadsUptoSaid : Prop := segmentReadsUptoRow.holds Try.pinned (OpenSpec.upto segmentReadsSpec)

/-- 'merkhetlaw07.SegmentTorn', WHERE WHAT IT READS IS OF BULK AT MOST 1048576: true; the input reads as it did. -/
def segmentTornUptoRow : OpenClaim := { program := "ytkaafjcfcknbpaa", sum := "bbdf2bcff875ce6960ccab8164dc0137d6b894b5c46d113203c0d6c4928c4970", func := "merkhet/merkhetlaw07.SegmentTorn", spec := "segmentTorn", unfollowed := true, recurses := true, apart := false, narrowed := true }
def SegmentTornUptoSaid : Prop := segmentTornUptoRow.holds Try.pinned (OpenSpec.upto segmentTornSpec)

/-- 'merkhetlaw07.SegmentTold', WHERE WHAT IT READS IS OF BULK AT MOST 1048576: true; the input reads as it did. -/
def segmentToldUptoRow : OpenClaim := { program := "ytkaafjcfcknbpaa", sum := "bbdf2bcff875ce6960ccab8164dc0137d6b894b5c46d113203c0d6c4928c4970", func := "merkhet/merkhetlaw07.SegmentTold", spec := "segmentTold", unfollowed := true, recurses := true, apart := false, narrowed := true }
def SegmentToldUptoSaid : Prop := segmentToldUptoRow.holds Try.pinned (OpenSpec.upto segmentToldSpec)

end Rows
end Go.Proofs.Ytkaafjcfcknbpaa
