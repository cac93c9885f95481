/-
  No cell of these rows narrows 'for every input' (looked for: loops, veiled, ifaces, maps, wideKeys, modest, calm, conditions, laid).
  DERIVED. THE GIVEN ROWS OF THIS SEAT. 4 by the template 'for every input the law returns true; each argument reads behind the call as it read before'; 0 by the template 'total and deterministic' (their statements: YtcckbpmhmlgjoaaTotals.lean).
  GIVEN WITH THE SEED: the statements are not yours to turn. If you find one false, say at which input.
  Laid BY PROGRAM, IN A SANDBOX (cutbox-rows.mjs): the forced cells as the released guide's own fill.sh prints them over the translation 1bd35fb7f7ff0f09… (all of the seat's roots in one cut). By AI agents, Wed Nov 11 2026. No macro, syntax, notation, axiom, sorry.
-/
import Derived.Test.YtcckbpmhmlgjoaaChecked
import GoSem.Claim
import GoSem.ClaimJoined
import GoSem.ClaimMapViews
import Derived.JoinedTies
import Derived.KernelRfl
namespace Go.Proofs.Ytcckbpmhmlgjoaa
/- THE CELL 'sum', in the pinned program and in every row, IS THE sha256 OF THE DUMP (.gsa) THAT YtcckbpmhmlgjoaaProg.lean LOADS. Nothing in Lean hashes anything: it is a label: what it is worth is what the hold of that sum in a sandbox is worth. -/
noncomputable def Try.pinned : Pinned := { name := "ytcckbpmhmlgjoaa", sum := "1bd35fb7f7ff0f099b6be7587c0ce01a93620609de2c45f78225a1867362e02a", checked := Try.checked }
namespace Rows
def none {H : Type} : Left H := { results := [], args := [] }

/-- 'merkhetlaw03.CheckSums': WHATEVER THE INPUT: true; the input reads as it did. -/
def checkSumsSpec : ChangeSpec := { name := "checkSums", fn := fun _ => fun
  | [d1, d2] => { results := [.lit (.bool true)], args := [d1, d2] }
  | _ => none }
def checkSumsRow : OpenClaim := { program := "ytcckbpmhmlgjoaa", sum := "1bd35fb7f7ff0f099b6be7587c0ce01a93620609de2c45f78225a1867362e02a", func := "merkhet/merkhetlaw03.CheckSums", spec := "checkSums", apart := false }
def CheckSumsSaid : Prop := checkSumsRow.holds Try.pinned (OpenSpec.ofChange checkSumsSpec)

/-- ITS FALSE NEIGHBOUR: 'it returns false'. Refute it at one input. -/
def checkSumsWrong : ChangeSpec := { name := "checkSums", fn := fun _ => fun
  | [d1, d2] => { results := [.lit (.bool false)], args := [d1, d2] }
  | _ => none }
def CheckSumsWrongFalsely : Prop := checkSumsRow.holds Try.pinned (OpenSpec.ofChange checkSumsWrong)

/-- 'merkhetlaw03.CheckParts': WHATEVER THE INPUT: true; the input reads as it did. -/
def checkPartsSpec : ChangeSpec := { name := "checkParts", fn := fun _ => fun
  | [d1, d2] => { results := [.lit (.bool true)], args := [d1, d2] }
  | _ => none }
def checkPartsRow : OpenClaim := { program := "ytcckbpmhmlgjoaa", sum := "1bd35fb7f7ff0f099b6be7587c0ce01a93620609de2c45f78225a1867362e02a", func := "merkhet/merkhetlaw03.CheckParts", spec := "checkParts", apart := false }
def CheckPartsSaid : Prop := checkPartsRow.holds Try.pinned (OpenSpec.ofChange checkPartsSpec)

/-- ITS FALSE NEIGHBOUR: 'it returns false'. Refute it at one input. -/
def checkPartsWrong : ChangeSpec := { name := "checkParts", fn := fun _ => fun
  | [d1, d2] => { results := [.lit (.bool false)], args := [d1, d2] }
  | _ => none }
def CheckPartsWrongFalsely : Prop := checkPartsRow.holds Try.pinned (OpenSpec.ofChange checkPartsWrong)

/-- 'merkhetlaw03.CheckTold': WHATEVER THE INPUT: true; the input reads as it did. -/
def checkToldSpec : ChangeSpec := { name := "checkTold", fn := fun _ => fun
  | [d1, d2, d3] => { results := [.lit (.bool true)], args := [d1, d2, d3] }
  | _ => none }
def checkToldRow : OpenClaim := { program := "ytcckbpmhmlgjoaa", sum := "1bd35fb7f7ff0f099b6be7587c0ce01a93620609de2c45f78225a1867362e02a", func := "merkhet/merkhetlaw03.CheckTold", spec := "checkTold", apart := false }
def CheckToldSaid : Prop := checkToldRow.holds Try.pinned (OpenSpec.ofChange checkToldSpec)

/-- ITS FALSE NEIGHBOUR: 'it returns false'. Refute it at one input. -/
def checkToldWrong : ChangeSpec := { name := "checkTold", fn := fun _ => fun
  | [d1, d2, d3] => { results := [.lit (.bool false)], args := [d1, d2, d3] }
  | _ => none }
def CheckToldWrongFalsely : Prop := checkToldRow.holds Try.pinned (OpenSpec.ofChange checkToldWrong)

/-- 'merkhetlaw03.CheckLine': WHATEVER THE INPUT: true; the input reads as it did. -/
def checkLineSpec : ChangeSpec := { name := "checkLine", fn := fun _ => fun
  | [d1, d2, d3] => { results := [.lit (.bool true)], args := [d1, d2, d3] }
  | _ => none }
def checkLineRow : OpenClaim := { program := "ytcckbpmhmlgjoaa", sum := "1bd35fb7f7ff0f099b6be7587c0ce01a93620609de2c45f78225a1867362e02a", func := "merkhet/merkhetlaw03.CheckLine", spec := "checkLine", apart := false }
def CheckLineSaid : Prop := checkLineRow.holds Try.pinned (OpenSpec.ofChange checkLineSpec)

/-- ITS FALSE NEIGHBOUR: 'it returns false'. Refute it at one input. -/
def checkLineWrong : ChangeSpec := { name := "checkLine", fn := fun _ => fun
  | [d1, d2, d3] => { results := [.lit (.bool false)], args := [d1, d2, d3] }
  | _ => none }
def CheckLineWrongFalsely : Prop := checkLineRow.holds Try.pinned (OpenSpec.ofChange checkLineWrong)

/- THE SECOND FORM. 'bulk': how many values and letters a reading holds, each counted each time it is reached (what is shared counts as often as it is met; a slice's spare places count too). A statement '..UptoSaid' is the law's where the arguments, and the package variables that the reading takes, are together of bulk at most 1048576: NARROWER than '..Said'. Prove '..Said' where nothing that the law and all that it calls make is longer than what came in: it says more and counts as full. Else prove '..UptoSaid'. A law counts once. -/
mutual
def uptoBulk {H : Type} : DataW H → Nat
  | .lit (.string bytes) => bytes.length + 1
  | .lit _ => 1
  | .nil => 1
  | .ptr d => uptoBulk d + 1
  | .slice elems spare => uptoBulkAll elems + uptoBulkAll spare + 1
  | .agg parts => uptoBulkAll parts + 1
  | .iface _ d => uptoBulk d + 1
  | .map entries => uptoBulkEntries entries + 1
  | .held _ => 1
def uptoBulkAll {H : Type} : List (DataW H) → Nat
  | [] => 0
  | d :: r => uptoBulk d + uptoBulkAll r
def uptoBulkEntries {H : Type} : List (Lit × DataW H) → Nat
  | [] => 0
  | x :: r => uptoBulkEntry x + uptoBulkEntries r
def uptoBulkEntry {H : Type} : Lit × DataW H → Nat
  | (.string bytes, d) => bytes.length + uptoBulk d + 1
  | (_, d) => uptoBulk d + 1
 end
def uptoSmall : (H : Type) → List (DataW H) → Bool := fun _ ds => decide (uptoBulkAll ds ≤ 1048576)
def OpenSpec.upto (s : _root_.Go.ChangeSpec) : _root_.Go.OpenSpec := { _root_.Go.OpenSpec.ofChange s with cond := some uptoSmall }

/-- 'merkhetlaw03.CheckSums', WHERE WHAT IT READS IS OF BULK AT MOST 1048576: true; the input reads as it did. -/
def checkSumsUptoRow : OpenClaim := { program := "ytcckbpmhmlgjoaa", sum := "1bd35fb7f7ff0f099b6be7587c0ce01a93620609de2c45f78225a1867362e02a", func := "merkhet/merkhetlaw03.CheckSums", spec := "checkSums", apart := false, narrowed := true }
def CheckSumsUptoSaid : Prop := checkSumsUptoRow.holds Try.pinned (OpenSpec.upto checkSumsSpec)

/-- 'merkhetlaw03.CheckParts', WHERE WHAT IT READS IS OF BULK AT MOST 1048576: true; the input reads as it did. -/
def checkPartsUptoRow : OpenClaim := { program := "ytcckbpmhmlgjoaa", sum := "1bd35fb7f7ff0f099b6be7587c0ce01a93620609de2c45f78225a1867362e02a", func := "merkhet/merkhetlaw03.CheckParts", spec := "checkParts", apart := false, narrowed := true }
def CheckPartsUptoSaid : Prop := checkPartsUptoRow.holds Try.pinned (OpenSpec.upto checkPartsSpec)

/-- 'merkhetlaw03.CheckTold', WHERE WHAT IT READS IS OF BULK AT MOST 1048576: true; the input reads as it did. -/
def checkToldUptoRow : OpenClaim := { program := "ytcckbpmhmlgjoaa", sum := "1bd35fb7f7ff0f099b6be7587c0ce01a93620609de2c45f78225a1867362e02a", func := "merkhet/merkhetlaw03.CheckTold", spec := "checkTold", apart := false, narrowed := true }
def CheckToldUptoSaid : Prop := checkToldUptoRow.holds Try.pinned (OpenSpec.upto checkToldSpec)

/-- 'merkhetlaw03.CheckLine', WHERE WHAT IT READS IS OF BULK AT MOST 1048576: true; the input reads as it did. -/
def checkLineUptoRow : OpenClaim := { program := "ytcckbpmhmlgjoaa", sum := "1bd35fb7f7ff0f099b6be7587c0ce01a93620609de2c45f78225a1867362e02a", func := "merkhet/merkhetlaw03.CheckLine", spec := "checkLine", apart := false, narrowed := true }
def CheckLineUptoSaid : Prop := checkLineUptoRow.holds Try.pinned (OpenSpec.upto checkLineSpec)

end Rows
end Go.Proofs.Ytcckbpmhmlgjoaa
