import Derived.Test.YtgeoggilnkcacaaUf
import Derived.Test.YtgeoggilnkcacaaSd
import Derived.Deep.RegionHeldLaw
import Derived.Shelf.SlicesQ.Load
namespace Go.Proofs.Ytgeoggilnkcacaa
open Go Go.RowKit Go.Sort
set_option linter.unusedVariables false

/-! Rows of 64-bit numbers; whether two are the same (stage 15's document). -/
/-- What lies in blocks from B on, if anywhere. -/
def From (B : Nat) (a : Option Addr) : Prop := ∀ ad, a = some ad → B ≤ ad.block
theorem own_from {w : World} {B : Nat} {e : TypeId} {size n c : Nat} {a : Option Addr} {xs : List Value} (h : w.ownsRow B e size (.slice a n c) n xs) : From B a := by
  intro ad e
  subst e
  rcases h.2 with ⟨hv, _⟩ | ⟨g, cap, cur, hv, hb, _⟩
  · cases hv
  · obtain rfl : ad = ⟨g, 0, none⟩ := by injection hv with h1; exact Option.some.inj h1
    exact hb
theorem From.base {B B' : Nat} {a : Option Addr} (h : From B a) (hb : B' ≤ B) : From B' a := fun ad e => Nat.le_trans hb (h ad e)
/-- Numbers of 64 bits. -/
def Nums (O : List Int) : Prop := ∀ x ∈ O, I64 x
end Go.Proofs.Ytgeoggilnkcacaa

