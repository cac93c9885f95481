/-
  No cell of these rows narrows 'for every input' (looked for: loops, veiled, ifaces, maps, wideKeys, modest, calm, conditions, laid).
  DERIVED. THE GIVEN ROWS OF THIS SEAT. 5 by the template 'for every input the law returns true; each argument reads behind the call as it read before'; 0 by the template 'total and deterministic' (their statements: YtohbbjlkmglnmaaTotals.lean).
  GIVEN WITH THE SEED: the statements are not yours to turn. If you find one false, say at which input.
  Laid BY PROGRAM, IN A SANDBOX (cutbox-rows.mjs): the forced cells as the released guide's own fill.sh prints them over the translation ba2a7597b4db29d9… (all of the seat's roots in one cut). By AI agents, Wed Nov 11 2026. No macro, syntax, notation, axiom, sorry.
-/
import Derived.Test.YtohbbjlkmglnmaaChecked
import GoSem.Claim
import GoSem.ClaimJoined
import GoSem.ClaimMapViews
import Derived.JoinedTies
import Derived.KernelRfl
namespace Go.Proofs.Ytohbbjlkmglnmaa
/- THE CELL 'sum', in the pinned program and in every row, IS THE sha256 OF THE DUMP (.gsa) THAT YtohbbjlkmglnmaaProg.lean LOADS. Nothing in Lean hashes anything: it is a label: what it is worth is what the hold of that sum in a sandbox is worth. -/
noncomputable def Try.pinned : Pinned := { name := "ytohbbjlkmglnmaa", sum := "ba2a7597b4db29d9cda96e45ae28ff5ff10cac92a403a05765d76e63a48674f7", checked := Try.checked }
namespace Rows
def none {H : Type} : Left H := { results := [], args := [] }

/-- 'merkhetlaw15.RelaxLayers': WHATEVER THE INPUT: true; the input reads as it did. -/
def relaxLayersSpec : ChangeSpec := { name := "relaxLayers", fn := fun _ => fun
  | [d1, d2] => { results := [.lit (.bool true)], args := [d1, d2] }
  | _ => none }
def relaxLayersRow : OpenClaim := { program := "ytohbbjlkmglnmaa", sum := "ba2a7597b4db29d9cda96e45ae28ff5ff10cac92a403a05765d76e63a48674f7", func := "merkhet/merkhetlaw15.RelaxLayers", spec := "relaxLayers", apart := false }
def RelaxLayersSaid : Prop := relaxLayersRow.holds Try.pinned (OpenSpec.ofChange relaxLayersSpec)

/-- ITS FALSE NEIGHBOUR: 'it returns false'. Refute it at one input. -/
def relaxLayersWrong : ChangeSpec := { name := "relaxLayers", fn := fun _ => fun
  | [d1, d2] => { results := [.lit (.bool false)], args := [d1, d2] }
  | _ => none }
def RelaxLayersWrongFalsely : Prop := relaxLayersRow.holds Try.pinned (OpenSpec.ofChange relaxLayersWrong)

/-- 'merkhetlaw15.RelaxHolds': WHATEVER THE INPUT: true; the input reads as it did. -/
def relaxHoldsSpec : ChangeSpec := { name := "relaxHolds", fn := fun _ => fun
  | [d1, d2] => { results := [.lit (.bool true)], args := [d1, d2] }
  | _ => none }
def relaxHoldsRow : OpenClaim := { program := "ytohbbjlkmglnmaa", sum := "ba2a7597b4db29d9cda96e45ae28ff5ff10cac92a403a05765d76e63a48674f7", func := "merkhet/merkhetlaw15.RelaxHolds", spec := "relaxHolds", apart := false }
def RelaxHoldsSaid : Prop := relaxHoldsRow.holds Try.pinned (OpenSpec.ofChange relaxHoldsSpec)

/-- ITS FALSE NEIGHBOUR: 'it returns false'. Refute it at one input. -/
def relaxHoldsWrong : ChangeSpec := { name := "relaxHolds", fn := fun _ => fun
  | [d1, d2] => { results := [.lit (.bool false)], args := [d1, d2] }
  | _ => none }
def RelaxHoldsWrongFalsely : Prop := relaxHoldsRow.holds Try.pinned (OpenSpec.ofChange relaxHoldsWrong)

/-- 'merkhetlaw15.RelaxGreatest': WHATEVER THE INPUT: true; the input reads as it did. -/
def relaxGreatestSpec : ChangeSpec := { name := "relaxGreatest", fn := fun _ => fun
  | [d1, d2, d3] => { results := [.lit (.bool true)], args := [d1, d2, d3] }
  | _ => none }
def relaxGreatestRow : OpenClaim := { program := "ytohbbjlkmglnmaa", sum := "ba2a7597b4db29d9cda96e45ae28ff5ff10cac92a403a05765d76e63a48674f7", func := "merkhet/merkhetlaw15.RelaxGreatest", spec := "relaxGreatest", apart := false }
def RelaxGreatestSaid : Prop := relaxGreatestRow.holds Try.pinned (OpenSpec.ofChange relaxGreatestSpec)

/-- ITS FALSE NEIGHBOUR: 'it returns false'. Refute it at one input. -/
def relaxGreatestWrong : ChangeSpec := { name := "relaxGreatest", fn := fun _ => fun
  | [d1, d2, d3] => { results := [.lit (.bool false)], args := [d1, d2, d3] }
  | _ => none }
def RelaxGreatestWrongFalsely : Prop := relaxGreatestRow.holds Try.pinned (OpenSpec.ofChange relaxGreatestWrong)

/-- 'merkhetlaw15.RelaxSure': WHATEVER THE INPUT: true; the input reads as it did. -/
def relaxSureSpec : ChangeSpec := { name := "relaxSure", fn := fun _ => fun
  | [d1, d2, d3] => { results := [.lit (.bool true)], args := [d1, d2, d3] }
  | _ => none }
def relaxSureRow : OpenClaim := { program := "ytohbbjlkmglnmaa", sum := "ba2a7597b4db29d9cda96e45ae28ff5ff10cac92a403a05765d76e63a48674f7", func := "merkhet/merkhetlaw15.RelaxSure", spec := "relaxSure", apart := false }
def RelaxSureSaid : Prop := relaxSureRow.holds Try.pinned (OpenSpec.ofChange relaxSureSpec)

/-- ITS FALSE NEIGHBOUR: 'it returns false'. Refute it at one input. -/
def relaxSureWrong : ChangeSpec := { name := "relaxSure", fn := fun _ => fun
  | [d1, d2, d3] => { results := [.lit (.bool false)], args := [d1, d2, d3] }
  | _ => none }
def RelaxSureWrongFalsely : Prop := relaxSureRow.holds Try.pinned (OpenSpec.ofChange relaxSureWrong)

/-- 'merkhetlaw15.RelaxTight': WHATEVER THE INPUT: true; the input reads as it did. -/
def relaxTightSpec : ChangeSpec := { name := "relaxTight", fn := fun _ => fun
  | [d1, d2] => { results := [.lit (.bool true)], args := [d1, d2] }
  | _ => none }
def relaxTightRow : OpenClaim := { program := "ytohbbjlkmglnmaa", sum := "ba2a7597b4db29d9cda96e45ae28ff5ff10cac92a403a05765d76e63a48674f7", func := "merkhet/merkhetlaw15.RelaxTight", spec := "relaxTight", apart := false }
def RelaxTightSaid : Prop := relaxTightRow.holds Try.pinned (OpenSpec.ofChange relaxTightSpec)

/-- ITS FALSE NEIGHBOUR: 'it returns false'. Refute it at one input. -/
def relaxTightWrong : ChangeSpec := { name := "relaxTight", fn := fun _ => fun
  | [d1, d2] => { results := [.lit (.bool false)], args := [d1, d2] }
  | _ => none }
def RelaxTightWrongFalsely : Prop := relaxTightRow.holds Try.pinned (OpenSpec.ofChange relaxTightWrong)

/- THE SECOND FORM. 'bulk': how many values and letters a reading holds, each counted each time it is reached (what is shared counts as often as it is met; a slice's spare places count too). A statement '..UptoSaid' is the law's where the arguments, and the package variables that the reading takes, are together of bulk at most 1048576: NARROWER than '..Said'. Prove '..Said' where nothing that the law and all that it calls make is longer than what came in: it says more and counts as full. Else prove '..UptoSaid'. A law counts once. -/
mutual
def uptoBulk {H : Type} : DataW H → Nat
  | .lit (.string bytes) => bytes.length + 1
  | .lit _ => 1
  | .nil => 1
  | .ptr d => uptoBulk d + 1
  | .slice elems spare => uptoBulkAll elems + uptoBulkAll spare + 1
  | .agg parts => uptoBulkAll parts + 1
  | .iface _ d => uptoBulk d + 1
  | .map entries => uptoBulkEntries entries + 1
  | .held _ => 1
def uptoBulkAll {H : Type} : List (DataW H) → Nat
  | [] => 0
  | d :: r => uptoBulk d + uptoBulkAll r
def uptoBulkEntries {H : Type} : List (Lit × DataW H) → Nat
  | [] => 0
  | x :: r => uptoBulkEntry x + uptoBulkEntries r
def uptoBulkEntry {H : Type} : Lit × DataW H → Nat
  | (.string bytes, d) => bytes.length + uptoBulk d + 1
  | (_, d) => uptoBulk d + 1
 end
def uptoSmall : (H : Type) → List (DataW H) → Bool := fun _ ds => decide (uptoBulkAll ds ≤ 1048576)
def OpenSpec.upto (s : _root_.Go.ChangeSpec) : _root_.Go.OpenSpec := { _root_.Go.OpenSpec.ofChange s with cond := some uptoSmall }

/-- 'merkhetlaw15.RelaxLayers', WHERE WHAT IT READS IS OF BULK AT MOST 1048576: true; the input reads as it did. -/
def relaxLayersUptoRow : OpenClaim := { program := "ytohbbjlkmglnmaa", sum := "ba2a7597b4db29d9cda96e45ae28ff5ff10cac92a403a05765d76e63a48674f7", func := "merkhet/merkhetlaw15.RelaxLayers", spec := "relaxLayers", apart := false, narrowed := true }
def RelaxLayersUptoSaid : Prop := relaxLayersUptoRow.holds Try.pinned (OpenSpec.upto relaxLayersSpec)

/-- 'merkhetlaw15.RelaxHolds', WHERE WHAT IT READS IS OF BULK AT MOST 1048576: true; the input reads as it did. -/
def relaxHoldsUptoRow : OpenClaim := { program := "ytohbbjlkmglnmaa", sum := "ba2a7597b4db29d9cda96e45ae28ff5ff10cac92a403a05765d76e63a48674f7", func := "merkhet/merkhetlaw15.RelaxHolds", spec := "relaxHolds", apart := false, narrowed := true }
def RelaxHoldsUptoSaid : Prop := relaxHoldsUptoRow.holds Try.pinned (OpenSpec.upto relaxHoldsSpec)

/-- 'merkhetlaw15.RelaxGreatest', WHERE WHAT IT READS IS OF BULK AT MOST 1048576: true; the input reads as it did. -/
def relaxGreatestUptoRow : OpenClaim := { program := "ytohbbjlkmglnmaa", sum := "ba2a7597b4db29d9cda96e45ae28ff5ff10cac92a403a05765d76e63a48674f7", func := "merkhet/merkhetlaw15.RelaxGreatest", spec := "relaxGreatest", apart := false, narrowed := true }
def RelaxGreatestUptoSaid : Prop := relaxGreatestUptoRow.holds Try.pinned (OpenSpec.upto relaxGreatestSpec)

/-- 'merkhetlaw15.RelaxSure', WHERE WHAT IT READS IS OF BULK AT MOST 1048576: true; the input reads as it did. -/
def relaxSureUptoRow : OpenClaim := { program := "ytohbbjlkmglnmaa", sum := "ba2a7597b4db29d9cda96e45ae28ff5ff10cac92a403a05765d76e63a48674f7", func := "merkhet/merkhetlaw15.RelaxSure", spec := "relaxSure", apart := false, narrowed := true }
def RelaxSureUptoSaid : Prop := relaxSureUptoRow.holds Try.pinned (OpenSpec.upto relaxSureSpec)

/-- 'merkhetlaw15.RelaxTight', WHERE WHAT IT READS IS OF BULK AT MOST 1048576: true; the input reads as it did. -/
def relaxTightUptoRow : OpenClaim := { program := "ytohbbjlkmglnmaa", sum := "ba2a7597b4db29d9cda96e45ae28ff5ff10cac92a403a05765d76e63a48674f7", func := "merkhet/merkhetlaw15.RelaxTight", spec := "relaxTight", apart := false, narrowed := true }
def RelaxTightUptoSaid : Prop := relaxTightUptoRow.holds Try.pinned (OpenSpec.upto relaxTightSpec)

end Rows
end Go.Proofs.Ytohbbjlkmglnmaa
