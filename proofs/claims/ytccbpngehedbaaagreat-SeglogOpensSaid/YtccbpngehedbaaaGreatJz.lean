import Derived.Test.YtccbpngehedbaaaGreatJn
import Derived.Test.YtccbpngehedbaaaGreatJa
import Derived.Test.YtccbpngehedbaaaGreatJh
import Derived.Test.YtccbpngehedbaaaGreatJe
import Derived.Deep.QuietTactic
import Derived.Deep.DeepMust
import Derived.Test.YtccbpngehedbaaaGreatJg
import Derived.Test.YtccbpngehedbaaaGreatJi
namespace Go.Proofs.YtccbpngehedbaaaGreat
open Go Go.RowKit Go.Sort

/-! The law's own model of a log: rows of texts. -/
structure Rw where
  a:Option Addr
  c:Nat
  vs:List Value
def Rw.v (x:Rw):Value:=.slice x.a x.vs.length x.c
def Rw.l (x:Rw):List Value:=[x.v]
def RwN (U:Nat→Prop) (w:World) (x:Rw):Prop:=RdN U w x.a x.vs∧x.vs.length≤x.c∧x.c≤maxLen∧∀ u ∈ x.vs,u.oneCell'=true
/-- Rows of texts, in no block of U. -/
structure MdN (U:Nat→Prop) (w:World) (a:Option Addr) (c:Nat) (R:List Rw) (N:Nat):Prop where
  rd:RdN U w a (flatG Rw.l R)
  le:R.length≤c
  cm:c≤maxLen
  rows:∀ x ∈ R,RwN U w x
  few:R.length≤N
  small:∀ x ∈ R,x.vs.length≤N
/-- What is owned, and new, is in no block of U. -/
theorem RdN.own {U:Nat→Prop} {w:World} {base n c size:Nat} {e:TypeId} {a:Option Addr} {cs:List Value} (h:w.ownsRow base e size (.slice a n c) n cs) (hU:∀ k,U k→k < base):RdN U w a cs:=fun h0=>by
  obtain ⟨b,off,ha,hlt,hc⟩:=Rd.own h h0
  subst ha
  have hs:=(own_shape (k:=b) h rfl).1
  exact ⟨b,off,rfl,hlt,fun hk=>by have:=hU b hk;omega,hc⟩
/-- The law's model, as a value and as a box. -/
def mdV (K:Int) (f:Nat) (v:Value) (s:Int) (t:ByteArray) (k:Bool):Array Value:=#[.int .i64 K,.int .u32 (f:Int),v,.int .i64 s,.string t,.bool k]
end Go.Proofs.YtccbpngehedbaaaGreat

namespace Go.Proofs.YtccbpngehedbaaaGreat
open Go Go.RowKit Go.Sort

/-- The model's box, as one block. -/
def MB (w:World) (b:Nat) (K:Int) (f:Nat) (v:Value) (s:Int) (t:ByteArray) (k:Bool):Prop:=w.heap[b]?=some (.cells (mdV K f v s t k) 57)
section
variable {w w':World} {b f:Nat} {K s:Int} {v:Value} {t:ByteArray} {k:Bool}
end
end Go.Proofs.YtccbpngehedbaaaGreat

