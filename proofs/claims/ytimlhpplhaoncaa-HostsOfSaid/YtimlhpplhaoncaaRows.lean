/-
  No cell of these rows narrows 'for every input' (looked for: loops, veiled, ifaces, maps, wideKeys, modest, calm, conditions, laid).
  DERIVED. THE GIVEN ROWS OF THIS SEAT. 3 by the template 'for every input the law returns true; each argument reads behind the call as it read before'; 0 by the template 'total and deterministic' (their statements: YtimlhpplhaoncaaTotals.lean).
  GIVEN WITH THE SEED: the statements are not yours to turn. If you find one false, say at which input.
  Laid BY PROGRAM, IN A SANDBOX (cutbox-rows.mjs): the forced cells as the released guide's own fill.sh prints them over the translation d54f6d9e9f3ff6cf… (all of the seat's roots in one cut). By AI agents, Wed Nov 11 2026. No macro, syntax, notation, axiom, sorry.
-/
import Derived.Test.YtimlhpplhaoncaaChecked
import GoSem.Claim
import GoSem.ClaimJoined
import GoSem.ClaimMapViews
import Derived.JoinedTies
import Derived.KernelRfl
namespace Go.Proofs.Ytimlhpplhaoncaa
/- THE CELL 'sum', in the pinned program and in every row, IS THE sha256 OF THE DUMP (.gsa) THAT YtimlhpplhaoncaaProg.lean LOADS. Nothing in Lean hashes anything: it is a label: what it is worth is what the hold of that sum in a sandbox is worth. -/
noncomputable def Try.pinned : Pinned := { name := "ytimlhpplhaoncaa", sum := "d54f6d9e9f3ff6cffb06277b3594ad3659151c234afbfad04e6387c39f472e92", checked := Try.checked }
namespace Rows
def none {H : Type} : Left H := { results := [], args := [] }

/-- 'merkhetlaw13.HostsOf': WHATEVER THE INPUT: true; the input reads as it did. -/
def hostsOfSpec : ChangeSpec := { name := "hostsOf", fn := fun _ => fun
  | [d] => { results := [.lit (.bool true)], args := [d] }
  | _ => none }
def hostsOfRow : OpenClaim := { program := "ytimlhpplhaoncaa", sum := "d54f6d9e9f3ff6cffb06277b3594ad3659151c234afbfad04e6387c39f472e92", func := "merkhet/merkhetlaw13.HostsOf", spec := "hostsOf", recurses := true, apart := false }
def HostsOfSaid : Prop := hostsOfRow.holds Try.pinned (OpenSpec.ofChange hostsOfSpec)

/-- ITS FALSE NEIGHBOUR: 'it returns false'. Refute it at one input. -/
def hostsOfWrong : ChangeSpec := { name := "hostsOf", fn := fun _ => fun
  | [d] => { results := [.lit (.bool false)], args := [d] }
  | _ => none }
def HostsOfWrongFalsely : Prop := hostsOfRow.holds Try.pinned (OpenSpec.ofChange hostsOfWrong)

/-- 'merkhetlaw13.HostsGreat': WHATEVER THE INPUT: true; the input reads as it did. -/
def hostsGreatSpec : ChangeSpec := { name := "hostsGreat", fn := fun _ => fun
  | [d1, d2] => { results := [.lit (.bool true)], args := [d1, d2] }
  | _ => none }
def hostsGreatRow : OpenClaim := { program := "ytimlhpplhaoncaa", sum := "d54f6d9e9f3ff6cffb06277b3594ad3659151c234afbfad04e6387c39f472e92", func := "merkhet/merkhetlaw13.HostsGreat", spec := "hostsGreat", recurses := true, apart := false }
def HostsGreatSaid : Prop := hostsGreatRow.holds Try.pinned (OpenSpec.ofChange hostsGreatSpec)

/-- ITS FALSE NEIGHBOUR: 'it returns false'. Refute it at one input. -/
def hostsGreatWrong : ChangeSpec := { name := "hostsGreat", fn := fun _ => fun
  | [d1, d2] => { results := [.lit (.bool false)], args := [d1, d2] }
  | _ => none }
def HostsGreatWrongFalsely : Prop := hostsGreatRow.holds Try.pinned (OpenSpec.ofChange hostsGreatWrong)

/-- 'merkhetlaw13.HostsAll': WHATEVER THE INPUT: true; the input reads as it did. -/
def hostsAllSpec : ChangeSpec := { name := "hostsAll", fn := fun _ => fun
  | [d] => { results := [.lit (.bool true)], args := [d] }
  | _ => none }
def hostsAllRow : OpenClaim := { program := "ytimlhpplhaoncaa", sum := "d54f6d9e9f3ff6cffb06277b3594ad3659151c234afbfad04e6387c39f472e92", func := "merkhet/merkhetlaw13.HostsAll", spec := "hostsAll", recurses := true, apart := false }
def HostsAllSaid : Prop := hostsAllRow.holds Try.pinned (OpenSpec.ofChange hostsAllSpec)

/-- ITS FALSE NEIGHBOUR: 'it returns false'. Refute it at one input. -/
def hostsAllWrong : ChangeSpec := { name := "hostsAll", fn := fun _ => fun
  | [d] => { results := [.lit (.bool false)], args := [d] }
  | _ => none }
def HostsAllWrongFalsely : Prop := hostsAllRow.holds Try.pinned (OpenSpec.ofChange hostsAllWrong)

/- THE SECOND FORM. 'bulk': how many values and letters a reading holds, each counted each time it is reached (what is shared counts as often as it is met; a slice's spare places count too). A statement '..UptoSaid' is the law's where the arguments, and the package variables that the reading takes, are together of bulk at most 1048576: NARROWER than '..Said'. Prove '..Said' where nothing that the law and all that it calls make is longer than what came in: it says more and counts as full. Else prove '..UptoSaid'. A law counts once. -/
mutual
def uptoBulk {H : Type} : DataW H → Nat
  | .lit (.string bytes) => bytes.length + 1
  | .lit _ => 1
  | .nil => 1
  | .ptr d => uptoBulk d + 1
  | .slice elems spare => uptoBulkAll elems + uptoBulkAll spare + 1
  | .agg parts => uptoBulkAll parts + 1
  | .iface _ d => uptoBulk d + 1
  | .map entries => uptoBulkEntries entries + 1
  | .held _ => 1
def uptoBulkAll {H : Type} : List (DataW H) → Nat
  | [] => 0
  | d :: r => uptoBulk d + uptoBulkAll r
def uptoBulkEntries {H : Type} : List (Lit × DataW H) → Nat
  | [] => 0
  | x :: r => uptoBulkEntry x + uptoBulkEntries r
def uptoBulkEntry {H : Type} : Lit × DataW H → Nat
  | (.string bytes, d) => bytes.length + uptoBulk d + 1
  | (_, d) => uptoBulk d + 1
 end
def uptoSmall : (H : Type) → List (DataW H) → Bool := fun _ ds => decide (uptoBulkAll ds ≤ 1048576)
def OpenSpec.upto (s : _root_.Go.ChangeSpec) : _root_.Go.OpenSpec := { _root_.Go.OpenSpec.ofChange s with cond := some uptoSmall }

/-- 'merkhetlaw13.HostsOf', WHERE WHAT IT READS IS OF BULK AT MOST 1048576: true; the input reads as it did. -/
def hostsOfUptoRow : OpenClaim := { program := "ytimlhpplhaoncaa", sum := "d54f6d9e9f3ff6cffb06277b3594ad3659151c234afbfad04e6387c39f472e92", func := "merkhet/merkhetlaw13.HostsOf", spec := "hostsOf", recurses := true, apart := false, narrowed := true }
def HostsOfUptoSaid : Prop := hostsOfUptoRow.holds Try.pinned (OpenSpec.upto hostsOfSpec)

/-- 'merkhetlaw13.HostsGreat', WHERE WHAT IT READS IS OF BULK AT MOST 1048576: true; the input reads as it did. -/
def hostsGreatUptoRow : OpenClaim := { program := "ytimlhpplhaoncaa", sum := "d54f6d9e9f3ff6cffb06277b3594ad3659151c234afbfad04e6387c39f472e92", func := "merkhet/merkhetlaw13.HostsGreat", spec := "hostsGreat", recurses := true, apart := false, narrowed := true }
def HostsGreatUptoSaid : Prop := hostsGreatUptoRow.holds Try.pinned (OpenSpec.upto hostsGreatSpec)

/-- 'merkhetlaw13.HostsAll', WHERE WHAT IT READS IS OF BULK AT MOST 1048576: true; the input reads as it did. -/
def hostsAllUptoRow : OpenClaim := { program := "ytimlhpplhaoncaa", sum := "d54f6d9e9f3ff6cffb06277b3594ad3659151c234afbfad04e6387c39f472e92", func := "merkhet/merkhetlaw13.HostsAll", spec := "hostsAll", recurses := true, apart := false, narrowed := true }
def HostsAllUptoSaid : Prop := hostsAllUptoRow.holds Try.pinned (OpenSpec.upto hostsAllSpec)

end Rows
end Go.Proofs.Ytimlhpplhaoncaa
