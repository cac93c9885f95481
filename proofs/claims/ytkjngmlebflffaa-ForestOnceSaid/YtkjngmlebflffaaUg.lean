import Derived.Test.YtkjngmlebflffaaUf
import Derived.Test.YtkjngmlebflffaaSe
import Derived.Deep.LoopGhost
import Derived.IntWalk
namespace Go.Proofs.Ytkjngmlebflffaa
open Go Go.RowKit Go.Sort
set_option linter.unusedVariables false

def idsL (L : List Sp) : List Int := L.map (·.id)
def parsL (L : List Sp) : List Int := L.map (·.parent)
/-- Of each span its parent's place. -/
def parL (L : List Sp) : List Int := parP (idsL L) (parsL L)
theorem parL_length (L : List Sp) : (parL L).length = L.length := by simp [parL, parP, parsL]
theorem parL_valid (L : List Sp) : ValidP (parL L) := parP_valid (by simp [idsL, parsL])
theorem parL_get {L : List Sp} {n : Nat} (h : n < L.length) (h' : n < (parL L).length) : (parL L)[n] = if (L[n]).parent = 0 then -1 else firstAt (idsL L) (L[n]).parent 0 := by
  simp [parL, parP, parsL]
theorem firstAt_step {L : List Sp} {k : Nat} (h : k < L.length) (x : Int) : firstAt ((idsL L).drop k) x k = if (L[k]).id = x then (k : Int) else firstAt ((idsL L).drop (k + 1)) x (k + 1) := by
  rw [List.drop_eq_getElem_cons (by simpa [idsL] using h)]
  simp [firstAt, idsL]
theorem info_int : (Try.prog.info? 3).map (fun i => (i.zero, i.size, i.bytes)) = some (some (.int .i64 0), 1, 8) := by kernel_rfl

end Go.Proofs.Ytkjngmlebflffaa

