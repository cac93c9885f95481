/-
  No cell of these rows narrows 'for every input' (looked for: loops, veiled, ifaces, maps, wideKeys, modest, calm, conditions, laid).
  DERIVED. THE GIVEN ROWS OF THIS SEAT. 4 by the template 'for every input the law returns true; each argument reads behind the call as it read before'; 0 by the template 'total and deterministic' (their statements: YthfhmohbfoolnaaTotals.lean).
  GIVEN WITH THE SEED: the statements are not yours to turn. If you find one false, say at which input.
  Laid BY PROGRAM, IN A SANDBOX (cutbox-rows.mjs): the forced cells as the released guide's own fill.sh prints them over the translation 2f237693ca75cf82… (all of the seat's roots in one cut). By AI agents, Wed Nov 11 2026. No macro, syntax, notation, axiom, sorry.
-/
import Derived.Test.YthfhmohbfoolnaaChecked
import GoSem.Claim
import GoSem.ClaimJoined
import GoSem.ClaimMapViews
import Derived.JoinedTies
import Derived.KernelRfl
namespace Go.Proofs.Ythfhmohbfoolnaa
/- THE CELL 'sum', in the pinned program and in every row, IS THE sha256 OF THE DUMP (.gsa) THAT YthfhmohbfoolnaaProg.lean LOADS. Nothing in Lean hashes anything: it is a label: what it is worth is what the hold of that sum in a sandbox is worth. -/
noncomputable def Try.pinned : Pinned := { name := "ythfhmohbfoolnaa", sum := "2f237693ca75cf827de1237aed080f952ea096bb1bff8f34236d23b79d91f6e5", checked := Try.checked }
namespace Rows
def none {H : Type} : Left H := { results := [], args := [] }

/-- 'merkhetlaw05.SimPlays': WHATEVER THE INPUT: true; the input reads as it did. -/
def simPlaysSpec : ChangeSpec := { name := "simPlays", fn := fun _ => fun
  | [d] => { results := [.lit (.bool true)], args := [d] }
  | _ => none }
def simPlaysRow : OpenClaim := { program := "ythfhmohbfoolnaa", sum := "2f237693ca75cf827de1237aed080f952ea096bb1bff8f34236d23b79d91f6e5", func := "merkhet/merkhetlaw05.SimPlays", spec := "simPlays", inPlace := ["maps.clone"], unfollowed := true, recurses := true, apart := false }
def SimPlaysSaid : Prop := simPlaysRow.holds Try.pinned (OpenSpec.ofChange simPlaysSpec)

/-- ITS FALSE NEIGHBOUR: 'it returns false'. Refute it at one input. -/
def simPlaysWrong : ChangeSpec := { name := "simPlays", fn := fun _ => fun
  | [d] => { results := [.lit (.bool false)], args := [d] }
  | _ => none }
def SimPlaysWrongFalsely : Prop := simPlaysRow.holds Try.pinned (OpenSpec.ofChange simPlaysWrong)

/-- 'merkhetlaw05.SimSafe': WHATEVER THE INPUT: true; the input reads as it did. -/
def simSafeSpec : ChangeSpec := { name := "simSafe", fn := fun _ => fun
  | [d1, d2] => { results := [.lit (.bool true)], args := [d1, d2] }
  | _ => none }
def simSafeRow : OpenClaim := { program := "ythfhmohbfoolnaa", sum := "2f237693ca75cf827de1237aed080f952ea096bb1bff8f34236d23b79d91f6e5", func := "merkhet/merkhetlaw05.SimSafe", spec := "simSafe", unfollowed := true, recurses := true, apart := false }
def SimSafeSaid : Prop := simSafeRow.holds Try.pinned (OpenSpec.ofChange simSafeSpec)

/-- ITS FALSE NEIGHBOUR: 'it returns false'. Refute it at one input. -/
def simSafeWrong : ChangeSpec := { name := "simSafe", fn := fun _ => fun
  | [d1, d2] => { results := [.lit (.bool false)], args := [d1, d2] }
  | _ => none }
def SimSafeWrongFalsely : Prop := simSafeRow.holds Try.pinned (OpenSpec.ofChange simSafeWrong)

/-- 'merkhetlaw05.SimPrefix': WHATEVER THE INPUT: true; the input reads as it did. -/
def simPrefixSpec : ChangeSpec := { name := "simPrefix", fn := fun _ => fun
  | [d1, d2, d3] => { results := [.lit (.bool true)], args := [d1, d2, d3] }
  | _ => none }
def simPrefixRow : OpenClaim := { program := "ythfhmohbfoolnaa", sum := "2f237693ca75cf827de1237aed080f952ea096bb1bff8f34236d23b79d91f6e5", func := "merkhet/merkhetlaw05.SimPrefix", spec := "simPrefix", unfollowed := true, recurses := true, apart := false }
def SimPrefixSaid : Prop := simPrefixRow.holds Try.pinned (OpenSpec.ofChange simPrefixSpec)

/-- ITS FALSE NEIGHBOUR: 'it returns false'. Refute it at one input. -/
def simPrefixWrong : ChangeSpec := { name := "simPrefix", fn := fun _ => fun
  | [d1, d2, d3] => { results := [.lit (.bool false)], args := [d1, d2, d3] }
  | _ => none }
def SimPrefixWrongFalsely : Prop := simPrefixRow.holds Try.pinned (OpenSpec.ofChange simPrefixWrong)

/-- 'merkhetlaw05.SimFalls': WHATEVER THE INPUT: true; the input reads as it did. -/
def simFallsSpec : ChangeSpec := { name := "simFalls", fn := fun _ => fun
  | [d1, d2] => { results := [.lit (.bool true)], args := [d1, d2] }
  | _ => none }
def simFallsRow : OpenClaim := { program := "ythfhmohbfoolnaa", sum := "2f237693ca75cf827de1237aed080f952ea096bb1bff8f34236d23b79d91f6e5", func := "merkhet/merkhetlaw05.SimFalls", spec := "simFalls", unfollowed := true, recurses := true, apart := false }
def SimFallsSaid : Prop := simFallsRow.holds Try.pinned (OpenSpec.ofChange simFallsSpec)

/-- ITS FALSE NEIGHBOUR: 'it returns false'. Refute it at one input. -/
def simFallsWrong : ChangeSpec := { name := "simFalls", fn := fun _ => fun
  | [d1, d2] => { results := [.lit (.bool false)], args := [d1, d2] }
  | _ => none }
def SimFallsWrongFalsely : Prop := simFallsRow.holds Try.pinned (OpenSpec.ofChange simFallsWrong)

/- THE SECOND FORM. 'bulk': how many values and letters a reading holds, each counted each time it is reached (what is shared counts as often as it is met; a slice's spare places count too). A statement '..UptoSaid' is the law's where the arguments, and the package variables that the reading takes, are together of bulk at most 1048576: NARROWER than '..Said'. Prove '..Said' where nothing that the law and all that it calls make is longer than what came in: it says more and counts as full. Else prove '..UptoSaid'. A law counts once. -/
mutual
def uptoBulk {H : Type} : DataW H → Nat
  | .lit (.string bytes) => bytes.length + 1
  | .lit _ => 1
  | .nil => 1
  | .ptr d => uptoBulk d + 1
  | .slice elems spare => uptoBulkAll elems + uptoBulkAll spare + 1
  | .agg parts => uptoBulkAll parts + 1
  | .iface _ d => uptoBulk d + 1
  | .map entries => uptoBulkEntries entries + 1
  | .held _ => 1
def uptoBulkAll {H : Type} : List (DataW H) → Nat
  | [] => 0
  | d :: r => uptoBulk d + uptoBulkAll r
def uptoBulkEntries {H : Type} : List (Lit × DataW H) → Nat
  | [] => 0
  | x :: r => uptoBulkEntry x + uptoBulkEntries r
def uptoBulkEntry {H : Type} : Lit × DataW H → Nat
  | (.string bytes, d) => bytes.length + uptoBulk d + 1
  | (_, d) => uptoBulk d + 1
 end
def uptoSmall : (H : Type) → List (DataW H) → Bool := fun _ ds => decide (uptoBulkAll ds ≤ 1048576)
def OpenSpec.upto (s : _root_.Go.ChangeSpec) : _root_.Go.OpenSpec := { _root_.Go.OpenSpec.ofChange s with cond := some uptoSmall }

/-- 'merkhetlaw05.SimPlays', WHERE WHAT IT READS IS OF BULK AT MOST 1048576: true; the input reads as it did. -/
def simPlaysUptoRow : OpenClaim := { program := "ythfhmohbfoolnaa", sum := "2f237693ca75cf827de1237aed080f952ea096bb1bff8f34236d23b79d91f6e5", func := "merkhet/merkhetlaw05.SimPlays", spec := "simPlays", inPlace := ["maps.clone"], unfollowed := true, recurses := true, apart := false, narrowed := true }
def SimPlaysUptoSaid : Prop := simPlaysUptoRow.holds Try.pinned (OpenSpec.upto simPlaysSpec)

/-- 'merkhetlaw05.SimSafe', WHERE WHAT IT READS IS OF BULK AT MOST 1048576: true; the input reads as it did. -/
def simSafeUptoRow : OpenClaim := { program := "ythfhmohbfoolnaa", sum := "2f237693ca75cf827de1237aed080f952ea096bb1bff8f34236d23b79d91f6e5", func := "merkhet/merkhetlaw05.SimSafe", spec := "simSafe", unfollowed := true, recurses := true, apart := false, narrowed := true }
def SimSafeUptoSaid : Prop := simSafeUptoRow.holds Try.pinned (OpenSpec.upto simSafeSpec)

/-- 'merkhetlaw05.SimPrefix', WHERE WHAT IT READS IS OF BULK AT MOST 1048576: true; the input reads as it did. -/
def simPrefixUptoRow : OpenClaim := { program := "ythfhmohbfoolnaa", sum := "2f237693ca75cf827de1237aed080f952ea096bb1bff8f34236d23b79d91f6e5", func := "merkhet/merkhetlaw05.SimPrefix", spec := "simPrefix", unfollowed := true, recurses := true, apart := false, narrowed := true }
def SimPrefixUptoSaid : Prop := simPrefixUptoRow.holds Try.pinned (OpenSpec.upto simPrefixSpec)

/-- 'merkhetlaw05.SimFalls', WHERE WHAT IT READS IS OF BULK AT MOST 1048576: true; the input reads as it did. -/
def simFallsUptoRow : OpenClaim := { program := "ythfhmohbfoolnaa", sum := "2f237693ca75cf827de1237aed080f952ea096bb1bff8f34236d23b79d91f6e5", func := "merkhet/merkhetlaw05.SimFalls", spec := "simFalls", unfollowed := true, recurses := true, apart := false, narrowed := true }
def SimFallsUptoSaid : Prop := simFallsUptoRow.holds Try.pinned (OpenSpec.upto simFallsSpec)

end Rows
end Go.Proofs.Ythfhmohbfoolnaa
