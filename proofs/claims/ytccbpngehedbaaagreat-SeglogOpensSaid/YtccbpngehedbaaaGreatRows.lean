/-
  No cell of these rows narrows 'for every input' (looked for: loops, veiled, ifaces, maps, wideKeys, modest, calm, conditions, laid).
  DERIVED. THE GIVEN ROWS OF THIS SEAT. 3 by the template 'for every input the law returns true; each argument reads behind the call as it read before'; 0 by the template 'total and deterministic' (their statements: YtccbpngehedbaaaGreatTotals.lean).
  GIVEN WITH THE SEED: the statements are not yours to turn. If you find one false, say at which input.
  Laid BY PROGRAM, IN A SANDBOX (cutbox-rows.mjs): the forced cells as the released guide's own fill.sh prints them over the translation 8e8db2204a2a829f… (all of the seat's roots in one cut). By AI agents, Wed Nov 11 2026. No macro, syntax, notation, axiom, sorry.
-/
import Derived.Test.YtccbpngehedbaaaGreatChecked
import GoSem.Claim
import GoSem.ClaimJoined
import GoSem.ClaimMapViews
import Derived.JoinedTies
import Derived.KernelRfl
namespace Go.Proofs.YtccbpngehedbaaaGreat
/- THE CELL 'sum', in the pinned program and in every row, IS THE sha256 OF THE DUMP (.gsa) THAT YtccbpngehedbaaaGreatProg.lean LOADS. Nothing in Lean hashes anything: it is a label: what it is worth is what the hold of that sum in a sandbox is worth. -/
noncomputable def Tryz.pinned : Pinned := { name := "ytccbpngehedbaaagreat", sum := "8e8db2204a2a829fa05256cb44220f72cfa9f78cf446ce0ea44ed5aec4571c6e", checked := Tryz.checked }
namespace Rows
def none {H : Type} : Left H := { results := [], args := [] }

/-- 'merkhetlaw08.SeglogOpens': WHATEVER THE INPUT: true; the input reads as it did. -/
def seglogOpensSpec : ChangeSpec := { name := "seglogOpens", fn := fun _ => fun
  | [d1, d2, d3] => { results := [.lit (.bool true)], args := [d1, d2, d3] }
  | _ => none }
def seglogOpensRow : OpenClaim := { program := "ytccbpngehedbaaagreat", sum := "8e8db2204a2a829fa05256cb44220f72cfa9f78cf446ce0ea44ed5aec4571c6e", func := "merkhet/merkhetlaw08.SeglogOpens", spec := "seglogOpens", unfollowed := true, recurses := true, apart := false }
def SeglogOpensSaid : Prop := seglogOpensRow.holds Tryz.pinned (OpenSpec.ofChange seglogOpensSpec)

/-- ITS FALSE NEIGHBOUR: 'it returns false'. Refute it at one input. -/
def seglogOpensWrong : ChangeSpec := { name := "seglogOpens", fn := fun _ => fun
  | [d1, d2, d3] => { results := [.lit (.bool false)], args := [d1, d2, d3] }
  | _ => none }
def SeglogOpensWrongFalsely : Prop := seglogOpensRow.holds Tryz.pinned (OpenSpec.ofChange seglogOpensWrong)

/-- 'merkhetlaw08.SeglogAgain': WHATEVER THE INPUT: true; the input reads as it did. -/
def seglogAgainSpec : ChangeSpec := { name := "seglogAgain", fn := fun _ => fun
  | [d1, d2, d3] => { results := [.lit (.bool true)], args := [d1, d2, d3] }
  | _ => none }
def seglogAgainRow : OpenClaim := { program := "ytccbpngehedbaaagreat", sum := "8e8db2204a2a829fa05256cb44220f72cfa9f78cf446ce0ea44ed5aec4571c6e", func := "merkhet/merkhetlaw08.SeglogAgain", spec := "seglogAgain", unfollowed := true, recurses := true, apart := false }
def SeglogAgainSaid : Prop := seglogAgainRow.holds Tryz.pinned (OpenSpec.ofChange seglogAgainSpec)

/-- ITS FALSE NEIGHBOUR: 'it returns false'. Refute it at one input. -/
def seglogAgainWrong : ChangeSpec := { name := "seglogAgain", fn := fun _ => fun
  | [d1, d2, d3] => { results := [.lit (.bool false)], args := [d1, d2, d3] }
  | _ => none }
def SeglogAgainWrongFalsely : Prop := seglogAgainRow.holds Tryz.pinned (OpenSpec.ofChange seglogAgainWrong)

/-- 'merkhetlaw08.SeglogFull': WHATEVER THE INPUT: true; the input reads as it did. -/
def seglogFullSpec : ChangeSpec := { name := "seglogFull", fn := fun _ => fun
  | [d] => { results := [.lit (.bool true)], args := [d] }
  | _ => none }
def seglogFullRow : OpenClaim := { program := "ytccbpngehedbaaagreat", sum := "8e8db2204a2a829fa05256cb44220f72cfa9f78cf446ce0ea44ed5aec4571c6e", func := "merkhet/merkhetlaw08.SeglogFull", spec := "seglogFull", unfollowed := true, recurses := true, apart := false }
def SeglogFullSaid : Prop := seglogFullRow.holds Tryz.pinned (OpenSpec.ofChange seglogFullSpec)

/-- ITS FALSE NEIGHBOUR: 'it returns false'. Refute it at one input. -/
def seglogFullWrong : ChangeSpec := { name := "seglogFull", fn := fun _ => fun
  | [d] => { results := [.lit (.bool false)], args := [d] }
  | _ => none }
def SeglogFullWrongFalsely : Prop := seglogFullRow.holds Tryz.pinned (OpenSpec.ofChange seglogFullWrong)

/- THE SECOND FORM. 'bulk': how many values and letters a reading holds, each counted each time it is reached (what is shared counts as often as it is met; a slice's spare places count too). A statement '..UptoSaid' is the law's where the arguments, and the package variables that the reading takes, are together of bulk at most 1048576: NARROWER than '..Said'. Prove '..Said' where nothing that the law and all that it calls make is longer than what came in: it says more and counts as full. Else prove '..UptoSaid'. A law counts once. -/
mutual
def uptoBulk {H : Type} : DataW H → Nat
  | .lit (.string bytes) => bytes.length + 1
  | .lit _ => 1
  | .nil => 1
  | .ptr d => uptoBulk d + 1
  | .slice elems spare => uptoBulkAll elems + uptoBulkAll spare + 1
  | .agg parts => uptoBulkAll parts + 1
  | .iface _ d => uptoBulk d + 1
  | .map entries => uptoBulkEntries entries + 1
  | .held _ => 1
def uptoBulkAll {H : Type} : List (DataW H) → Nat
  | [] => 0
  | d :: r => uptoBulk d + uptoBulkAll r
def uptoBulkEntries {H : Type} : List (Lit × DataW H) → Nat
  | [] => 0
  | x :: r => uptoBulkEntry x + uptoBulkEntries r
def uptoBulkEntry {H : Type} : Lit × DataW H → Nat
  | (.string bytes, d) => bytes.length + uptoBulk d + 1
  | (_, d) => uptoBulk d + 1
 end
def uptoSmall : (H : Type) → List (DataW H) → Bool := fun _ ds => decide (uptoBulkAll ds ≤ 1048576)
def OpenSpec.upto (s : _root_.Go.ChangeSpec) : _root_.Go.OpenSpec := { _root_.Go.OpenSpec.ofChange s with cond := some uptoSmall }

/-- 'merkhetlaw08.SeglogOpens', WHERE WHAT IT READS IS OF BULK AT MOST 1048576: true; the input reads as it did. -/
def seglogOpensUptoRow : OpenClaim := { program := "ytccbpngehedbaaagreat", sum := "8e8db2204a2a829fa05256cb44220f72cfa9f78cf446ce0ea44ed5aec4571c6e", func := "merkhet/merkhetlaw08.SeglogOpens", spec := "seglogOpens", unfollowed := true, recurses := true, apart := false, narrowed := true }
def SeglogOpensUptoSaid : Prop := seglogOpensUptoRow.holds Tryz.pinned (OpenSpec.upto seglogOpensSpec)

/-- 'merkhetlaw08.SeglogAgain', WHERE WHAT IT READS IS OF BULK AT MOST 1048576: true; the input reads as it did. -/
def seglogAgainUptoRow : OpenClaim := { program := "ytccbpngehedbaaagreat", sum := "8e8db2204a2a829fa05256cb44220f72cfa9f78cf446ce0ea44ed5aec4571c6e", func := "merkhet/merkhetlaw08.SeglogAgain", spec := "seglogAgain", unfollowed := true, recurses := true, apart := false, narrowed := true }
def SeglogAgainUptoSaid : Prop := seglogAgainUptoRow.holds Tryz.pinned (OpenSpec.upto seglogAgainSpec)

/-- 'merkhetlaw08.SeglogFull', WHERE WHAT IT READS IS OF BULK AT MOST 1048576: true; the input reads as it did. -/
def seglogFullUptoRow : OpenClaim := { program := "ytccbpngehedbaaagreat", sum := "8e8db2204a2a829fa05256cb44220f72cfa9f78cf446ce0ea44ed5aec4571c6e", func := "merkhet/merkhetlaw08.SeglogFull", spec := "seglogFull", unfollowed := true, recurses := true, apart := false, narrowed := true }
def SeglogFullUptoSaid : Prop := seglogFullUptoRow.holds Tryz.pinned (OpenSpec.upto seglogFullSpec)

end Rows
end Go.Proofs.YtccbpngehedbaaaGreat
