import Derived.Test.YtccbpngehedbaaaGreatJm
import Derived.Lib.SlBytesConst
namespace Go.Proofs.YtccbpngehedbaaaGreat
open Go Go.RowKit Go.Sort

/-! What a file system of the program has to pay: over this alone go the statements. -/
/-- Nothing is changed but the blocks of S, and new ones. -/
structure Off (S:Nat→Prop) (w w':World):Prop where
  os:w'.os=w.os
  tape:w'.tape=w.tape
  output:w'.output=w.output
  size:w.heap.size≤w'.heap.size
  block:∀ k,k < w.heap.size→¬ S k→w'.heap[k]?=w.heap[k]?
theorem Off.refl (S:Nat→Prop) (w:World):Off S w w:=⟨rfl,rfl,rfl,Nat.le_refl _,fun _ _ _=>rfl⟩
theorem Off.of_below {S:Nat→Prop} {w w':World} (h:Below w.heap.size w w'):Off S w w':=⟨h.os,h.tape,h.output,h.size,fun k hk _=>h.block k hk⟩
theorem Off.cell {S:Nat→Prop} {w w':World} (h:Off S w w') {p:Addr} (hp:p.block < w.heap.size) (hs:¬ S p.block):w'.cell? p=w.cell? p:=World.cell?_of_block (h.block _ hp hs)
/-- Cells that are read, in no block of S. -/
def RdN (S:Nat→Prop) (w:World) (a:Option Addr) (cs:List Value):Prop :=
  0 < cs.length→∃ b off,a=some ⟨b,off,none⟩∧b < w.heap.size∧¬ S b∧∀ j u,cs[j]?=some u→w.cell? ⟨b,off+j,none⟩=some u
theorem RdN.rd {S:Nat→Prop} {w:World} {a:Option Addr} {cs:List Value} (h:RdN S w a cs):Rd w w.heap.size a cs:=fun h0=>by
  obtain ⟨b,off,ha,hb,_,hc⟩:=h h0;exact ⟨b,off,ha,hb,hc⟩
theorem RdN.off {S S':Nat→Prop} {w w':World} {a:Option Addr} {cs:List Value} (h:RdN S w a cs) (ho:Off S w w') (hs:∀ k,S' k→S k∨w.heap.size≤k):RdN S' w' a cs:=fun h0=>by
  obtain ⟨b,off,ha,hb,hn,hc⟩:=h h0
  refine ⟨b,off,ha,Nat.lt_of_lt_of_le hb ho.size,fun hk=>?_,fun j u hu=>?_⟩
  · rcases hs b hk with h | h
    · exact hn h
    · omega
  · rw [ho.cell (p:=⟨b,off+j,none⟩) hb hn];exact hc j u hu
theorem RdN.of {S:Nat→Prop} {w:World} {B:Nat} {a:Option Addr} {cs:List Value} (h:Rd w B a cs) (hB:B≤w.heap.size) (hS:∀ k,S k→B≤k):RdN S w a cs:=fun h0=>by
  obtain ⟨b,off,ha,hb,hc⟩:=h h0
  exact ⟨b,off,ha,by omega,fun hs=>by have:=hS b hs;omega,hc⟩
/-- The blocks that are written, and those that are read, behind an act. -/
structure Did (S R S' R':Nat→Prop) (w w':World):Prop where
  s:∀ k,S' k→S k∨w.heap.size≤k
  r:∀ k,R' k→R k∨S k∨w.heap.size≤k
  off:Off S w w'
theorem Did.rdn {S R S' R':Nat→Prop} {w w':World} {a:Option Addr} {cs:List Value} (h:Did S R S' R' w w') (hr:RdN S w a cs):RdN S' w' a cs:=hr.off h.off h.s
theorem Did.trans {S R S1 R1 S2 R2:Nat→Prop} {w w1 w2:World} (h1:Did S R S1 R1 w w1) (h2:Did S1 R1 S2 R2 w1 w2):Did S R S2 R2 w w2:=by
  have hs1:=h1.off.size
  refine ⟨fun k hk=>?_,fun k hk=>?_,⟨h2.off.os.trans h1.off.os,h2.off.tape.trans h1.off.tape,h2.off.output.trans h1.off.output,Nat.le_trans hs1 h2.off.size,fun k hk hn=>?_⟩⟩
  · rcases h2.s k hk with h | h
    · exact h1.s k h
    · exact .inr (by omega)
  · rcases h2.r k hk with h | h | h
    · exact h1.r k h
    · rcases h1.s k h with h | h
      · exact .inr (.inl h)
      · exact .inr (.inr h)
    · exact .inr (.inr (by omega))
  · rw [h2.off.block k (by omega) (fun hk'=>by
      rcases h1.s k hk' with h | h
      · exact hn h
      · omega)]
    exact h1.off.block k hk hn
/-- Before an act comes what lays new blocks alone. -/
theorem Did.after {S R S1 R1:Nat→Prop} {w w0 w1:World} (hb:Below w.heap.size w w0) (h1:Did S R S1 R1 w0 w1):Did S R S1 R1 w w1 :=
  (Did.mk (S':=S) (R':=R) (fun _ h=>.inl h) (fun _ h=>.inl h) (Off.of_below hb)).trans h1
theorem Did.refl (S R:Nat→Prop) (w:World):Did S R S R w w:=⟨fun _ h=>.inl h,fun _ h=>.inl h,Off.refl _ _⟩
/-- No file is too great. -/
def Bnd (m:FSm):Prop:=m.files.length≤1000000∧∀ x ∈ m.files,SzF 1000000000 x
/-- Bytes that may be read, and written, in new blocks. -/
def NewBytes (w w':World) (S R:Nat→Prop) (a:Option Addr) (l:List UInt8):Prop :=
  0 < l.length→∃ g off,a=some ⟨g,off,none⟩∧w.heap.size≤g∧g < w'.heap.size∧¬ S g∧¬ R g∧w'.rangeAt g off (bV l)∧w'.there g off l.length
structure FsKit where
  Fs:World→(Nat→Prop)→(Nat→Prop)→Nat→FSm→Prop
  low:∀ {w:World} {S R:Nat→Prop} {p:Nat} {m:FSm},Fs w S R p m→(∀ k,S k→k < w.heap.size)∧(∀ k,R k→k < w.heap.size)
  move:∀ {w w':World} {S R:Nat→Prop} {p:Nat} {m:FSm},Fs w S R p m→w.heap.size≤w'.heap.size→(∀ k,S k∨R k→w'.heap[k]?=w.heap[k]?)→Fs w' S R p m
  ok:∀ {w:World} {S R:Nat→Prop} {p:Nat} {m:FSm},Fs w S R p m→m.Ok
  new:∀ (w:World),Calls Tryz.prog 7 #[] w fun e w'=>∃ p S R,e=.returned (.pointer (some ⟨p,0,none⟩))∧Fs w' S R p newF∧(∀ k,S k→w.heap.size≤k)∧(∀ k,R k→w.heap.size≤k)∧Below w.heap.size w w'
  create:∀ (w:World) (S R:Nat→Prop) (p:Nat) (m:FSm) (n:Nat),Fs w S R p m→Bnd m→n < 4294967296→Calls Tryz.prog 9 #[.pointer (some ⟨p,0,none⟩),.int .u32 (n:Int)] w fun e w'=>∃ S' R',e=.returned (.int .i64 (createF m n).2)∧Fs w' S' R' p (createF m n).1∧Did S R S' R' w w'
  append:∀ (w:World) (S R:Nat→Prop) (p:Nat) (m:FSm) (n:Nat) (a:Option Addr) (c:Nat) (b:List UInt8),Fs w S R p m→Bnd m→n < 4294967296→RdN S w a (bV b)→b.length≤1000000000→b.length≤c→c≤maxLen →
    Calls Tryz.prog 10 #[.pointer (some ⟨p,0,none⟩),.int .u32 (n:Int),.slice a b.length c] w fun e w'=>∃ S' R',e=.returned (.int .i64 (appendF m n (bs b)).2)∧Fs w' S' R' p (appendF m n (bs b)).1∧Did S R S' R' w w'
  trunc:∀ (w:World) (S R:Nat→Prop) (p:Nat) (m:FSm) (n:Nat) (s:Int),Fs w S R p m→Bnd m→n < 4294967296→-9223372036854775808≤s→s≤9223372036854775807→Calls Tryz.prog 127 #[.pointer (some ⟨p,0,none⟩),.int .u32 (n:Int),.int .i64 s] w fun e w'=>∃ S' R',e=.returned (.int .i64 (truncF m n s).2)∧Fs w' S' R' p (truncF m n s).1∧Did S R S' R' w w'
  sync:∀ (w:World) (S R:Nat→Prop) (p:Nat) (m:FSm) (n:Nat),Fs w S R p m→Bnd m→n < 4294967296→Calls Tryz.prog 65 #[.pointer (some ⟨p,0,none⟩),.int .u32 (n:Int)] w fun e w'=>∃ S' R',e=.returned (.int .i64 (syncF m n).2)∧Fs w' S' R' p (syncF m n).1∧Did S R S' R' w w'
  remove:∀ (w:World) (S R:Nat→Prop) (p:Nat) (m:FSm) (n:Nat),Fs w S R p m→Bnd m→n < 4294967296→Calls Tryz.prog 64 #[.pointer (some ⟨p,0,none⟩),.int .u32 (n:Int)] w fun e w'=>∃ S' R',e=.returned (.int .i64 (removeF m n).2)∧Fs w' S' R' p (removeF m n).1∧Did S R S' R' w w'
  read:∀ (w:World) (S R:Nat→Prop) (p:Nat) (m:FSm) (n:Nat),Fs w S R p m→Bnd m→n < 4294967296→Calls Tryz.prog 40 #[.pointer (some ⟨p,0,none⟩),.int .u32 (n:Int)] w fun e w'=>∃ S' R' a c,e=.returned (.tuple #[.slice a (readF m n).1.size c,.int .i64 (readF m n).2])∧(readF m n).1.size≤c∧c≤maxLen∧NewBytes w w' S' R' a (readF m n).1.data.toList∧Fs w' S' R' p m∧Did S R S' R' w w'
  list:∀ (w:World) (S R:Nat→Prop) (p:Nat) (m:FSm),Fs w S R p m→Bnd m→Calls Tryz.prog 31 #[.pointer (some ⟨p,0,none⟩)] w fun e w'=>∃ S' R' a c,e=.returned (.slice a (numsF false m.files).length c)∧(numsF false m.files).length≤c∧c≤maxLen∧RdN S' w' a (u32V (numsF false m.files))∧Fs w' S' R' p m∧Did S R S' R' w w'
  unsafe_:∀ (w:World) (S R:Nat→Prop) (p:Nat) (m:FSm),Fs w S R p m→Bnd m→Calls Tryz.prog 26 #[.pointer (some ⟨p,0,none⟩)] w fun e w'=>∃ S' R' a c,e=.returned (.slice a (numsF true m.files).length c)∧(numsF true m.files).length≤c∧c≤maxLen∧RdN S' w' a (u32V (numsF true m.files))∧Fs w' S' R' p m∧Did S R S' R' w w'
  fuse:∀ (w:World) (S R:Nat→Prop) (p:Nat) (m:FSm) (f:Int),Fs w S R p m→-9223372036854775808≤f→f≤9223372036854775807→Calls Tryz.prog 17 #[.pointer (some ⟨p,0,none⟩),.int .i64 f] w fun e w'=>∃ S' R',e=.returned (.tuple #[])∧Fs w' S' R' p { m with fuse:=max f (-1) }∧Did S R S' R' w w'
  down:∀ (w:World) (S R:Nat→Prop) (p:Nat) (m:FSm),Fs w S R p m→Calls Tryz.prog 20 #[.pointer (some ⟨p,0,none⟩)] w fun e w'=>∃ S' R',e=.returned (.bool m.down)∧Fs w' S' R' p m∧Did S R S' R' w w'
  crash:∀ (w:World) (S R:Nat→Prop) (p:Nat) (m:FSm) (a:Option Addr) (c:Nat) (T:List Ft),Fs w S R p m→Bnd m→RdN S w a (flatG Ft.l T)→T.length≤1000000→T.length≤c→c≤maxLen →
    (∀ t ∈ T,RdN S w t.ga (bV t.g)∧t.g.length≤t.gc∧t.gc≤maxLen∧-9223372036854775808≤t.bytes∧t.bytes≤9223372036854775807) →
    Calls Tryz.prog 19 #[.pointer (some ⟨p,0,none⟩),.slice a T.length c] w fun e w'=>∃ S' R',e=.returned (.tuple #[])∧Fs w' S' R' p (crashF m T)∧Did S R S' R' w w'
end Go.Proofs.YtccbpngehedbaaaGreat

namespace Go.Proofs.YtccbpngehedbaaaGreat
open Go Go.RowKit Go.Sort

/-! Acts as they come in; an act that is done. -/
structure Ac where
  kind:Int
  n:Nat
  ba:Option Addr
  bc:Nat
  body:List UInt8
  size:Int
  fa:Option Addr
  fc:Nat
  fates:List Ft
def FtIn (S:Nat→Prop) (w:World) (t:Ft):Prop:=RdN S w t.ga (bV t.g)∧t.g.length≤t.gc∧t.gc≤maxLen∧-9223372036854775808≤t.bytes∧t.bytes≤9223372036854775807
structure AcIn (S:Nat→Prop) (w:World) (a:Ac):Prop where
  n:a.n < 4294967296
  s1:-9223372036854775808≤a.size
  s2:a.size≤9223372036854775807
  b:RdN S w a.ba (bV a.body)
  bl:a.body.length≤4000
  bc:a.body.length≤a.bc
  bm:a.bc≤maxLen
  f:RdN S w a.fa (flatG Ft.l a.fates)
  fl:a.fates.length≤4000
  fc:a.fates.length≤a.fc
  fm:a.fc≤maxLen
  t:∀ t ∈ a.fates,FtIn S w t
theorem Did.below {S R:Nat→Prop} {w w':World} (h:Below w.heap.size w w'):Did S R S R w w':=⟨fun _ h=>.inl h,fun _ h=>.inl h,Off.of_below h⟩
theorem FsKit.below (K:FsKit) {w w':World} {S R:Nat→Prop} {p:Nat} {m:FSm} (h:K.Fs w S R p m) (hb:Below w.heap.size w w'):K.Fs w' S R p m :=
  K.move h hb.size fun k hk=>hb.block k (hk.elim ((K.low h).1 k) ((K.low h).2 k))
end Go.Proofs.YtccbpngehedbaaaGreat

namespace Go.Proofs.YtccbpngehedbaaaGreat
open Go Go.RowKit Go.Sort

end Go.Proofs.YtccbpngehedbaaaGreat

namespace Go.Proofs.YtccbpngehedbaaaGreat
open Go Go.RowKit Go.Sort

/-! How far a file system has come behind so many acts. -/
def Lim (k:Nat) (m:FSm):Prop:=m.files.length≤k∧∀ x ∈ m.files,SzF (4000 * k) x
theorem SzF.more {M M':Nat} {x:Fl} (h:SzF M x) (hm:M≤M'):SzF M' x:=⟨Nat.le_trans h.1 hm,Nat.le_trans h.2 hm⟩
theorem Lim.more {k k':Nat} {m:FSm} (h:Lim k m) (hk:k≤k'):Lim k' m:=⟨Nat.le_trans h.1 hk,fun x hx=>(h.2 x hx).more (by omega)⟩
theorem Lim.bnd {k:Nat} {m:FSm} (h:Lim k m) (hk:k≤10000):Bnd m:=⟨by have:=h.1;omega,fun x hx=>(h.2 x hx).more (by omega)⟩
theorem Lim.act {k:Nat} {m:FSm} (h:Lim k m) {x:Fl} (hx:SzF (4000 * (k+1)) x) (s:Bool):Lim (k+1) (actF m x s).1:=by
  have h':=h.more (Nat.le_succ k)
  have hp:(putF m.files x).length≤k+1:=Nat.le_trans (putF_le _ _) (by have:=h.1;omega)
  unfold actF
  split
  · refine ⟨?_,?_⟩
    · show (if s=true then m.files else putF m.files x).length≤_
      split
      · exact h'.1
      · exact hp
    · show ∀ y ∈ (if s=true then m.files else putF m.files x),_
      split
      · exact h'.2
      · exact put_sz h'.2 hx
  · exact ⟨hp,put_sz h'.2 hx⟩
theorem Lim.get {k:Nat} {m:FSm} (h:Lim k m) (n:Nat):SzF (4000 * k) (getF m.files n):=get_sz h.2 n
theorem lim_create {k:Nat} {m:FSm} (h:Lim k m) (n:Nat):Lim (k+1) (createF m n).1:=by
  unfold createF
  split
  · exact h.more (Nat.le_succ k)
  · split
    · exact h.more (Nat.le_succ k)
    · split
      · exact h.more (Nat.le_succ k)
      · exact h.act ⟨Nat.zero_le _,Nat.zero_le _⟩ _
theorem lim_append {k:Nat} {m:FSm} (h:Lim k m) (n:Nat) (b:ByteArray) (hb:b.size≤4000):Lim (k+1) (appendF m n b).1:=by
  unfold appendF
  split
  · exact h.more (Nat.le_succ k)
  · split
    · exact h.more (Nat.le_succ k)
    · obtain ⟨g1,g2⟩:=h.get n
      refine h.act (x:=appF (getF m.files n) b) ⟨?_,Nat.le_trans g2 (by omega)⟩ _
      show ((getF m.files n).now ++ b).size≤_
      rw [ByteArray.size_append];omega
theorem lim_trunc {k : Nat} {m : FSm} (h : Lim k m) (n : Nat) (s : Int) : Lim (k + 1) (truncF m n s).1 := by
  unfold truncF
  split
  · exact h.more (Nat.le_succ k)
  · split
    · exact h.more (Nat.le_succ k)
    · split
      · exact h.more (Nat.le_succ k)
      · obtain ⟨g1,g2⟩:=h.get n
        refine h.act (x:=cutF (getF m.files n) s.toNat) ⟨?_,Nat.le_trans g2 (by omega)⟩ _
        show ((getF m.files n).now.extract 0 s.toNat).size≤_
        rw [ByteArray.size_extract];omega
theorem lim_sync {k:Nat} {m:FSm} (h:Lim k m) (n:Nat):Lim (k+1) (syncF m n).1:=by
  unfold syncF
  split
  · exact h.more (Nat.le_succ k)
  · split
    · exact h.more (Nat.le_succ k)
    · obtain ⟨g1,g2⟩:=h.get n
      refine h.act (x:=syncedF (getF m.files n)) ⟨Nat.le_trans g1 (by omega),?_⟩ _
      show (if _ then _ else _:ByteArray).size≤_
      split
      · omega
      · exact Nat.zero_le _
theorem lim_remove {k:Nat} {m:FSm} (h:Lim k m) (n:Nat):Lim (k+1) (removeF m n).1:=by
  unfold removeF
  split
  · exact h.more (Nat.le_succ k)
  · split
    · exact h.more (Nat.le_succ k)
    · obtain ⟨g1,g2⟩:=h.get n
      exact h.act (x:=goneF (getF m.files n)) ⟨Nat.zero_le _,Nat.le_trans g2 (by omega)⟩ _
theorem lim_new:Lim 0 newF:=⟨Nat.le_refl _,fun x (hx:x ∈ [])=>(by cases hx)⟩
end Go.Proofs.YtccbpngehedbaaaGreat

namespace Go.Proofs.YtccbpngehedbaaaGreat
open Go Go.RowKit Go.Sort

/-! The chapter's example. -/
end Go.Proofs.YtccbpngehedbaaaGreat

