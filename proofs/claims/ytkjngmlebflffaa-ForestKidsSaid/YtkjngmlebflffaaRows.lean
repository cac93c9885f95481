/-
  No cell of these rows narrows 'for every input' (looked for: loops, veiled, ifaces, maps, wideKeys, modest, calm, conditions, laid).
  DERIVED. THE GIVEN ROWS OF THIS SEAT. 4 by the template 'for every input the law returns true; each argument reads behind the call as it read before'; 0 by the template 'total and deterministic' (their statements: YtkjngmlebflffaaTotals.lean).
  GIVEN WITH THE SEED: the statements are not yours to turn. If you find one false, say at which input.
  Laid BY PROGRAM, IN A SANDBOX (cutbox-rows.mjs): the forced cells as the released guide's own fill.sh prints them over the translation 060ce13b34fa3b4e… (all of the seat's roots in one cut). By AI agents, Wed Nov 11 2026. No macro, syntax, notation, axiom, sorry.
-/
import Derived.Test.YtkjngmlebflffaaChecked
import GoSem.Claim
import GoSem.ClaimJoined
import GoSem.ClaimMapViews
import Derived.JoinedTies
import Derived.KernelRfl
namespace Go.Proofs.Ytkjngmlebflffaa
/- THE CELL 'sum', in the pinned program and in every row, IS THE sha256 OF THE DUMP (.gsa) THAT YtkjngmlebflffaaProg.lean LOADS. Nothing in Lean hashes anything: it is a label: what it is worth is what the hold of that sum in a sandbox is worth. -/
noncomputable def Try.pinned : Pinned := { name := "ytkjngmlebflffaa", sum := "060ce13b34fa3b4e139a20cfab49570d15b629c422346531f2fbe823704666ac", checked := Try.checked }
namespace Rows
def none {H : Type} : Left H := { results := [], args := [] }

/-- 'merkhetlaw11.ForestRows': WHATEVER THE INPUT: true; the input reads as it did. -/
def forestRowsSpec : ChangeSpec := { name := "forestRows", fn := fun _ => fun
  | [d] => { results := [.lit (.bool true)], args := [d] }
  | _ => none }
def forestRowsRow : OpenClaim := { program := "ytkjngmlebflffaa", sum := "060ce13b34fa3b4e139a20cfab49570d15b629c422346531f2fbe823704666ac", func := "merkhet/merkhetlaw11.ForestRows", spec := "forestRows", unfollowed := true, recurses := true, apart := false }
def ForestRowsSaid : Prop := forestRowsRow.holds Try.pinned (OpenSpec.ofChange forestRowsSpec)

/-- ITS FALSE NEIGHBOUR: 'it returns false'. Refute it at one input. -/
def forestRowsWrong : ChangeSpec := { name := "forestRows", fn := fun _ => fun
  | [d] => { results := [.lit (.bool false)], args := [d] }
  | _ => none }
def ForestRowsWrongFalsely : Prop := forestRowsRow.holds Try.pinned (OpenSpec.ofChange forestRowsWrong)

/-- 'merkhetlaw11.ForestKids': WHATEVER THE INPUT: true; the input reads as it did. -/
def forestKidsSpec : ChangeSpec := { name := "forestKids", fn := fun _ => fun
  | [d1, d2] => { results := [.lit (.bool true)], args := [d1, d2] }
  | _ => none }
def forestKidsRow : OpenClaim := { program := "ytkjngmlebflffaa", sum := "060ce13b34fa3b4e139a20cfab49570d15b629c422346531f2fbe823704666ac", func := "merkhet/merkhetlaw11.ForestKids", spec := "forestKids", unfollowed := true, recurses := true, apart := false }
def ForestKidsSaid : Prop := forestKidsRow.holds Try.pinned (OpenSpec.ofChange forestKidsSpec)

/-- ITS FALSE NEIGHBOUR: 'it returns false'. Refute it at one input. -/
def forestKidsWrong : ChangeSpec := { name := "forestKids", fn := fun _ => fun
  | [d1, d2] => { results := [.lit (.bool false)], args := [d1, d2] }
  | _ => none }
def ForestKidsWrongFalsely : Prop := forestKidsRow.holds Try.pinned (OpenSpec.ofChange forestKidsWrong)

/-- 'merkhetlaw11.ForestOnce': WHATEVER THE INPUT: true; the input reads as it did. -/
def forestOnceSpec : ChangeSpec := { name := "forestOnce", fn := fun _ => fun
  | [d] => { results := [.lit (.bool true)], args := [d] }
  | _ => none }
def forestOnceRow : OpenClaim := { program := "ytkjngmlebflffaa", sum := "060ce13b34fa3b4e139a20cfab49570d15b629c422346531f2fbe823704666ac", func := "merkhet/merkhetlaw11.ForestOnce", spec := "forestOnce", unfollowed := true, recurses := true, apart := false }
def ForestOnceSaid : Prop := forestOnceRow.holds Try.pinned (OpenSpec.ofChange forestOnceSpec)

/-- ITS FALSE NEIGHBOUR: 'it returns false'. Refute it at one input. -/
def forestOnceWrong : ChangeSpec := { name := "forestOnce", fn := fun _ => fun
  | [d] => { results := [.lit (.bool false)], args := [d] }
  | _ => none }
def ForestOnceWrongFalsely : Prop := forestOnceRow.holds Try.pinned (OpenSpec.ofChange forestOnceWrong)

/-- 'merkhetlaw11.ForestOrder': WHATEVER THE INPUT: true; the input reads as it did. -/
def forestOrderSpec : ChangeSpec := { name := "forestOrder", fn := fun _ => fun
  | [d] => { results := [.lit (.bool true)], args := [d] }
  | _ => none }
def forestOrderRow : OpenClaim := { program := "ytkjngmlebflffaa", sum := "060ce13b34fa3b4e139a20cfab49570d15b629c422346531f2fbe823704666ac", func := "merkhet/merkhetlaw11.ForestOrder", spec := "forestOrder", unfollowed := true, recurses := true, apart := false }
def ForestOrderSaid : Prop := forestOrderRow.holds Try.pinned (OpenSpec.ofChange forestOrderSpec)

/-- ITS FALSE NEIGHBOUR: 'it returns false'. Refute it at one input. -/
def forestOrderWrong : ChangeSpec := { name := "forestOrder", fn := fun _ => fun
  | [d] => { results := [.lit (.bool false)], args := [d] }
  | _ => none }
def ForestOrderWrongFalsely : Prop := forestOrderRow.holds Try.pinned (OpenSpec.ofChange forestOrderWrong)

/- THE SECOND FORM. 'bulk': how many values and letters a reading holds, each counted each time it is reached (what is shared counts as often as it is met; a slice's spare places count too). A statement '..UptoSaid' is the law's where the arguments, and the package variables that the reading takes, are together of bulk at most 1048576: NARROWER than '..Said'. Prove '..Said' where nothing that the law and all that it calls make is longer than what came in: it says more and counts as full. Else prove '..UptoSaid'. A law counts once. -/
mutual
def uptoBulk {H : Type} : DataW H → Nat
  | .lit (.string bytes) => bytes.length + 1
  | .lit _ => 1
  | .nil => 1
  | .ptr d => uptoBulk d + 1
  | .slice elems spare => uptoBulkAll elems + uptoBulkAll spare + 1
  | .agg parts => uptoBulkAll parts + 1
  | .iface _ d => uptoBulk d + 1
  | .map entries => uptoBulkEntries entries + 1
  | .held _ => 1
def uptoBulkAll {H : Type} : List (DataW H) → Nat
  | [] => 0
  | d :: r => uptoBulk d + uptoBulkAll r
def uptoBulkEntries {H : Type} : List (Lit × DataW H) → Nat
  | [] => 0
  | x :: r => uptoBulkEntry x + uptoBulkEntries r
def uptoBulkEntry {H : Type} : Lit × DataW H → Nat
  | (.string bytes, d) => bytes.length + uptoBulk d + 1
  | (_, d) => uptoBulk d + 1
 end
def uptoSmall : (H : Type) → List (DataW H) → Bool := fun _ ds => decide (uptoBulkAll ds ≤ 1048576)
def OpenSpec.upto (s : _root_.Go.ChangeSpec) : _root_.Go.OpenSpec := { _root_.Go.OpenSpec.ofChange s with cond := some uptoSmall }

/-- 'merkhetlaw11.ForestRows', WHERE WHAT IT READS IS OF BULK AT MOST 1048576: true; the input reads as it did. -/
def forestRowsUptoRow : OpenClaim := { program := "ytkjngmlebflffaa", sum := "060ce13b34fa3b4e139a20cfab49570d15b629c422346531f2fbe823704666ac", func := "merkhet/merkhetlaw11.ForestRows", spec := "forestRows", unfollowed := true, recurses := true, apart := false, narrowed := true }
def ForestRowsUptoSaid : Prop := forestRowsUptoRow.holds Try.pinned (OpenSpec.upto forestRowsSpec)

/-- 'merkhetlaw11.ForestKids', WHERE WHAT IT READS IS OF BULK AT MOST 1048576: true; the input reads as it did. -/
def forestKidsUptoRow : OpenClaim := { program := "ytkjngmlebflffaa", sum := "060ce13b34fa3b4e139a20cfab49570d15b629c422346531f2fbe823704666ac", func := "merkhet/merkhetlaw11.ForestKids", spec := "forestKids", unfollowed := true, recurses := true, apart := false, narrowed := true }
def ForestKidsUptoSaid : Prop := forestKidsUptoRow.holds Try.pinned (OpenSpec.upto forestKidsSpec)

/-- 'merkhetlaw11.ForestOnce', WHERE WHAT IT READS IS OF BULK AT MOST 1048576: true; the input reads as it did. -/
def forestOnceUptoRow : OpenClaim := { program := "ytkjngmlebflffaa", sum := "060ce13b34fa3b4e139a20cfab49570d15b629c422346531f2fbe823704666ac", func := "merkhet/merkhetlaw11.ForestOnce", spec := "forestOnce", unfollowed := true, recurses := true, apart := false, narrowed := true }
def ForestOnceUptoSaid : Prop := forestOnceUptoRow.holds Try.pinned (OpenSpec.upto forestOnceSpec)

/-- 'merkhetlaw11.ForestOrder', WHERE WHAT IT READS IS OF BULK AT MOST 1048576: true; the input reads as it did. -/
def forestOrderUptoRow : OpenClaim := { program := "ytkjngmlebflffaa", sum := "060ce13b34fa3b4e139a20cfab49570d15b629c422346531f2fbe823704666ac", func := "merkhet/merkhetlaw11.ForestOrder", spec := "forestOrder", unfollowed := true, recurses := true, apart := false, narrowed := true }
def ForestOrderUptoSaid : Prop := forestOrderUptoRow.holds Try.pinned (OpenSpec.upto forestOrderSpec)

end Rows
end Go.Proofs.Ytkjngmlebflffaa
