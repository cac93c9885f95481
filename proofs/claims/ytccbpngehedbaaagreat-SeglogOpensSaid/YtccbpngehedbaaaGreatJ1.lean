import Derived.Test.YtccbpngehedbaaaGreatJz
import Derived.Test.YtccbpngehedbaaaGreatJm
import Derived.Deep.DeepCutAuto
import Derived.Test.YtccbpngehedbaaaGreatJv
namespace Go.Proofs.YtccbpngehedbaaaGreat
open Go Go.RowKit Go.Sort

/-! The bytes that an op appends. -/
end Go.Proofs.YtccbpngehedbaaaGreat

namespace Go.Proofs.YtccbpngehedbaaaGreat
open Go Go.RowKit Go.Sort

/-! The law's ops, and whether they are more than is gone through. -/
structure OpM where
  kind:Int
  sa:Option Addr
  sc:Nat
  sp:List Sp
  size:Int
  fa:Option Addr
  fc:Nat
  ft:List Ft
end Go.Proofs.YtccbpngehedbaaaGreat

namespace Go.Proofs.YtccbpngehedbaaaGreat
open Go Go.RowKit Go.Sort

/-! The law's model without its first segment. -/
end Go.Proofs.YtccbpngehedbaaaGreat

namespace Go.Proofs.YtccbpngehedbaaaGreat
open Go Go.RowKit Go.Sort

/-! The law's ops on a log: what holds at each round. -/
structure DrI (F:FsKit) (LK:LogKit F) (w:World) (S R T:Nat→Prop) (p q:Nat) (K:Int) (k N:Nat) (wr:World) (S1 R1 T1:Nat→Prop) (m1:FSm) (g1:LgM) (f:Nat) (a:Option Addr) (c:Nat) (Rr:List Rw) (s:Int) (t:ByteArray) (kk:Bool):Prop where
  fs:F.Fs wr S1 R1 p m1
  log:LK.At wr T1 p q g1
  did:DidL S R T S1 R1 T1 w wr
  lim:Lim k m1
  num:NumOk m1
  gn:GNum g1
  box:MB wr (w.heap.size+1) K f (.slice a Rr.length c) s t kk
  there:wr.there w.heap.size 0 6
  sz:w.heap.size+2≤wr.heap.size
  far:∀ j,w.heap.size≤j→j≤w.heap.size+1→¬ S1 j∧¬ R1 j∧¬ T1 j
  md:MdN (fun j=>S1 j∨T1 j∨(w.heap.size≤j∧j≤w.heap.size+1)) wr a c Rr N
  flt:f < 4294967296
section
variable {F:FsKit} {LK:LogKit F} {w:World} {S R T:Nat→Prop} {p q:Nat} {K:Int} {k N:Nat} {wr:World} {S1 R1 T1:Nat→Prop} {m1:FSm} {g1:LgM} {f:Nat} {a:Option Addr} {c:Nat} {Rr:List Rw} {s:Int} {t:ByteArray} {kk:Bool}
end
end Go.Proofs.YtccbpngehedbaaaGreat

