import Derived.Test.YtccbpngehedbaaaGreatJv
import Derived.Deep.QuietTactic
namespace Go.Proofs.YtccbpngehedbaaaGreat
open Go Go.RowKit Go.Sort

/-! The landed log: its box, its segments' rows. -/
def LB (w:World) (q p K R:Nat) (v:Value) (ov:Bool):Prop:=w.heap[q]?=some (.cells #[.pointer (some ⟨p,0,none⟩),.int .i64 (K:Int),.int .i64 (R:Int),v,.bool ov] 105)
section
variable {w w':World} {q p K R:Nat} {v:Value} {ov:Bool}
theorem LB.lt (h:LB w q p K R v ov):q < w.heap.size:=(Array.getElem?_eq_some_iff.1 h).1
theorem LB.c0 (h:LB w q p K R v ov):w.cell? ⟨q,0,none⟩=some (.pointer (some ⟨p,0,none⟩)):=by unfold LB at h;simp [World.cell?,h]
theorem LB.c1 (h:LB w q p K R v ov):w.cell? ⟨q,1,none⟩=some (.int .i64 (K:Int)):=by unfold LB at h;simp [World.cell?,h]
theorem LB.c2 (h:LB w q p K R v ov):w.cell? ⟨q,2,none⟩=some (.int .i64 (R:Int)):=by unfold LB at h;simp [World.cell?,h]
theorem LB.c3 (h:LB w q p K R v ov):w.cell? ⟨q,3,none⟩=some v:=by unfold LB at h;simp [World.cell?,h]
theorem LB.c4 (h:LB w q p K R v ov):w.cell? ⟨q,4,none⟩=some (.bool ov):=by unfold LB at h;simp [World.cell?,h]
theorem LB.fz (h:LB w q p K R v ov) (i:Nat):w.frozen? ⟨q,i,none⟩=false:=by unfold LB at h;simp [World.frozen?,h]
theorem LB.grown (h:LB w q p K R v ov) {row:Option Nat} (hg:w.grownBy w' row) (hr:some q ≠ row):LB w' q p K R v ov:=(hg.block q h.lt hr).trans h
theorem LB.below (h:LB w q p K R v ov) {B:Nat} (hb:Below B w w') (hB:q < B):LB w' q p K R v ov:=(hb.block q hB).trans h
theorem LB.set3 (h:LB w q p K R v ov) (v':Value):LB (w.setCell ⟨q,3,none⟩ v') q p K R v' ov:=by
  unfold LB at h ⊢;simp [World.setCell,Array.getElem?_modify,h]
theorem LB.set4 (h:LB w q p K R v ov) (b:Bool):LB (w.setCell ⟨q,4,none⟩ (.bool b)) q p K R v b:=by
  unfold LB at h ⊢;simp [World.setCell,Array.getElem?_modify,h]
end
/-- A segment, as the log has it. -/
structure SgR where
  n:Nat
  a:Option Addr
  c:Nat
  xs:List Bod
def SgR.v (r:SgR):Value:=.slice r.a r.xs.length r.c
def SgR.l (r:SgR):List Value:=[.int .u32 (r.n:Int),r.v]
def SgR.m (r:SgR):SgM:=⟨r.n,r.xs.map Bod.b⟩
theorem SgR.len (r:SgR):r.l.length=2:=rfl
theorem SgR.one (r:SgR):∀ u ∈ r.l,u.oneCell'=true:=by
  intro u hu
  simp only [SgR.l,List.mem_cons,List.not_mem_nil,or_false] at hu
  rcases hu with rfl | rfl <;> rfl
/-- Where a value lies is among some blocks. -/
def In (T:Nat→Prop) (v:Value):Prop:=∀ k,v.ownBlock=some k→T k
structure SgAt (w:World) (T:Nat→Prop) (r:SgR):Prop where
  own:w.ownsRow 0 38 1 r.v r.xs.length (r.xs.map Bod.v)
  blk:In T r.v
  bod:∀ x ∈ r.xs,BodAt 0 x w∧In T x.v
  num:r.n < 4294967296
/-- What is owned stays, where its block does. -/
theorem own_stays {w w':World} {base:Nat} {e:TypeId} {size:Nat} {v:Value} {n:Nat} {xs:List Value} (h:w.ownsRow base e size v n xs) (hb:∀ k,v.ownBlock=some k→w'.heap[k]?=w.heap[k]?):w'.ownsRow base e size v n xs:=by
  refine ⟨h.1,?_⟩
  rcases h.2 with h | ⟨g,cap,cur,hv,h2,h3,h4⟩
  · exact .inl h
  · exact .inr ⟨g,cap,cur,hv,h2,(hb g (by rw [hv];rfl)).trans h3,h4⟩
theorem SgAt.move {w w':World} {T T':Nat→Prop} {r:SgR} (h:SgAt w T r) (hb:∀ k,T k→w'.heap[k]?=w.heap[k]?) (ht:∀ k,T k→T' k):SgAt w' T' r :=
  ⟨own_stays h.own fun k hk=>hb k (h.blk k hk),fun k hk=>ht k (h.blk k hk),fun x hx=>⟨own_stays (h.bod x hx).1 fun k hk=>hb k ((h.bod x hx).2 k hk),fun k hk=>ht k ((h.bod x hx).2 k hk)⟩,h.num⟩
/-- The rows of a log's segments. -/
structure RowsAt (w:World) (T:Nat→Prop) (a:Option Addr) (c:Nat) (L:List SgR):Prop where
  own:w.ownsRow 0 115 2 (.slice a L.length c) L.length (flatG SgR.l L)
  blk:In T (.slice a L.length c)
  rows:∀ r ∈ L,SgAt w T r
  apart:L.Pairwise fun r s=>Apart r.v s.v
theorem RowsAt.move {w w':World} {T T':Nat→Prop} {a:Option Addr} {c:Nat} {L:List SgR} (h:RowsAt w T a c L) (hb:∀ k,T k→w'.heap[k]?=w.heap[k]?) (ht:∀ k,T k→T' k):RowsAt w' T' a c L :=
  ⟨own_stays h.own fun k hk=>hb k (h.blk k hk),fun k hk=>ht k (h.blk k hk),fun r hr=>(h.rows r hr).move hb ht,h.apart⟩
structure LgB (w:World) (T:Nat→Prop) (p q:Nat) (g:LgM) (a:Option Addr) (c:Nat) (L:List SgR):Prop where
  box:LB w q p g.keep g.room (.slice a L.length c) g.over
  tq:T q
  low:∀ k,T k→k < w.heap.size
  rows:RowsAt w (fun k=>T k∧k ≠ q) a c L
  segs:g.segs=L.map SgR.m
  k1:1≤g.keep∧g.keep≤16
  r1:1≤g.room∧g.room≤32
  few:L.length≤g.room
  small:∀ r ∈ L,r.xs.length≤g.keep
def LgAt (w:World) (T:Nat→Prop) (p q:Nat) (g:LgM):Prop:=∃ a c L,LgB w T p q g a c L
theorem LgB.move {w w':World} {T:Nat→Prop} {p q:Nat} {g:LgM} {a:Option Addr} {c:Nat} {L:List SgR} (h:LgB w T p q g a c L) (hs:w.heap.size≤w'.heap.size) (hb:∀ k,T k→w'.heap[k]?=w.heap[k]?):LgB w' T p q g a c L :=
  ⟨(hb q h.tq).trans h.box,h.tq,fun k hk=>Nat.lt_of_lt_of_le (h.low k hk) hs,h.rows.move (fun k hk=>hb k hk.1) fun _ h=>h,h.segs,h.k1,h.r1,h.few,h.small⟩
theorem LgAt.move {w w':World} {T:Nat→Prop} {p q:Nat} {g:LgM} (h:LgAt w T p q g) (hs:w.heap.size≤w'.heap.size) (hb:∀ k,T k→w'.heap[k]?=w.heap[k]?):LgAt w' T p q g:=by
  obtain ⟨a,c,L,h⟩:=h;exact ⟨a,c,L,h.move hs hb⟩
theorem LgAt.low {w:World} {T:Nat→Prop} {p q:Nat} {g:LgM} (h:LgAt w T p q g):∀ k,T k→k < w.heap.size:=by
  obtain ⟨a,c,L,h⟩:=h;exact h.low
theorem LgB.below {w w':World} {T:Nat→Prop} {p q:Nat} {g:LgM} {a:Option Addr} {c:Nat} {L:List SgR} (h:LgB w T p q g a c L) (hb:Below w.heap.size w w'):LgB w' T p q g a c L:=h.move hb.size fun k hk=>hb.block k (h.low k hk)
/-- Behind an act on the files the log is as it was. -/
theorem LgB.did {w w':World} {T S R S' R':Nat→Prop} {p q:Nat} {g:LgM} {a:Option Addr} {c:Nat} {L:List SgR} (h:LgB w T p q g a c L) (hd:Dis T S R) (h2:Did S R S' R' w w'):LgB w' T p q g a c L∧Dis T S' R':=by
  refine ⟨h.move h2.off.size fun k hk=>h2.off.block k (h.low k hk) (hd k hk).1,fun k hk=>⟨fun hs=>?_,fun hr=>?_⟩⟩
  · rcases h2.s k hs with e | e
    · exact (hd k hk).1 e
    · have:=h.low k hk;omega
  · rcases h2.r k hr with e | e | e
    · exact (hd k hk).2 e
    · exact (hd k hk).1 e
    · have:=h.low k hk;omega
/-- One segment, of what is read. -/
theorem RowsAt.elem {w:World} {T:Nat→Prop} {a:Option Addr} {c:Nat} {L:List SgR} (h:RowsAt w T a c L) {i:Nat} (hi:i < L.length) :
    ∃ b,a=some ⟨b,0,none⟩∧b < w.heap.size∧L.length≤c∧c≤maxLen∧w.cell? ⟨b,i * 2,none⟩=some (.int .u32 (L[i].n:Int))∧w.cell? ⟨b,i * 2+1,none⟩=some L[i].v:=by
  obtain ⟨a',c',e,h1,h2,h3⟩:=own_slice h.own
  obtain ⟨rfl,rfl⟩:a=a'∧c=c':=by injection e;exact ⟨by assumption,by assumption⟩
  obtain ⟨b,rfl,_,hb⟩:=h3 (by omega)
  obtain ⟨b',off,hab,hb',hc⟩:=Rd.elemG (enc:=SgR.l) (m:=2) SgR.len (by omega) (Rd.own h.own) hi
  obtain ⟨rfl,rfl⟩:b=b'∧0=off:=by injection hab with e;injection e;exact ⟨by assumption,by assumption⟩
  refine ⟨b,rfl,hb,h1,h2,?_,?_⟩
  · have:=hc 0 _ rfl;simpa using this
  · have:=hc 1 _ rfl;simpa using this
theorem RowsAt.cm {w:World} {T:Nat→Prop} {a:Option Addr} {c:Nat} {L:List SgR} (h:RowsAt w T a c L):L.length≤c∧c≤maxLen:=by
  obtain ⟨a',c',e,h1,h2,h3⟩:=own_slice h.own
  obtain ⟨rfl,rfl⟩:a=a'∧c=c':=by injection e;exact ⟨by assumption,by assumption⟩
  exact ⟨h1,h2⟩
theorem LgB.set4 {w:World} {T:Nat→Prop} {p q:Nat} {g:LgM} {a:Option Addr} {c:Nat} {L:List SgR} (h:LgB w T p q g a c L):LgB (w.setCell ⟨q,4,none⟩ (.bool true)) T p q g.down a c L :=
  ⟨h.box.set4 true,h.tq,fun k hk=>by have:=h.low k hk;simpa using this,h.rows.move (fun k hk=>by have:¬ q=k:=fun e=>hk.2 e.symm;simp [World.setCell,Array.getElem?_modify,this]) fun _ h=>h,h.segs,h.k1,h.r1,h.few,h.small⟩
theorem set_off1 (w:World) (q i:Nat) (v:Value):Off (fun k=>k=q) w (w.setCell ⟨q,i,none⟩ v) :=
  ⟨rfl,rfl,rfl,by simp,fun k _ hk=>by have:¬ q=k:=fun e=>hk e.symm;simp [World.setCell,Array.getElem?_modify,this]⟩
theorem Off.more {S S':Nat→Prop} {w w':World} (h:Off S w w') (hs:∀ k,S k→S' k):Off S' w w':=⟨h.os,h.tape,h.output,h.size,fun k hk hn=>h.block k hk fun e=>hn (hs k e)⟩
theorem Off.andThen {S S2:Nat→Prop} {w w1 w2:World} (h1:Off S w w1) (h2:Off S2 w1 w2) (hs:∀ k,S2 k→S k∨w.heap.size≤k):Off S w w2 :=
  ⟨h2.os.trans h1.os,h2.tape.trans h1.tape,h2.output.trans h1.output,Nat.le_trans h1.size h2.size,fun k hk hn=>(h2.block k (Nat.lt_of_lt_of_le hk h1.size) fun e=>by
    rcases hs k e with e | e
    · exact hn e
    · omega).trans (h1.block k hk hn)⟩
theorem info_seg:(Tryz.prog.info? 115).map (fun i=>(i.zero,i.size,i.bytes))=some (some (.agg #[.int .u32 0,.slice none 0 0]),2,32):=by kernel_rfl
end Go.Proofs.YtccbpngehedbaaaGreat

namespace Go.Proofs.YtccbpngehedbaaaGreat
open Go Go.RowKit Go.Sort

/-! The landed log: what only reads. -/
theorem within_is (n m:Int) (r:Bool) (hr:(decide (1≤n) && decide (n≤m))=r) (w:World) :
    Calls Tryz.prog 45 #[.int .i64 n,.int .i64 m] w fun e w'=>e=.returned (.bool r)∧w'=w:=by
  by_cases h:1≤n
  · have HE:Hid (decide (n≤m)=r):=by show _=_;rw [← hr,decide_eq_true h,Bool.true_and]
    clear hr
    go_enter Tryz.func45,Tryz.ntmps45
    go_wp2_with fail
    go_ret
    exact ⟨ret_bool HE.out,rfl⟩
  · have HE:Hid (false=r):=by show _=_;rw [← hr,decide_eq_false h,Bool.false_and]
    clear hr
    go_enter Tryz.func45,Tryz.ntmps45
    go_wp2_with fail
    go_ret
    exact ⟨ret_bool HE.out,rfl⟩
set_option maxHeartbeats 1000000 in
theorem isOurs_is {q p K R:Nat} {v:Value} {ov:Bool} (w:World) (h:LB w q p K R v ov) (N K2 n n0 c0:Nat) (a:Option Addr) (g:Int) (b:Bool) (r:Bool) (hr:(decide (N=n) && decide (K2=K))=r) :
    Calls Tryz.prog 99 #[.pointer (some ⟨q,0,none⟩),.agg #[.int .u32 (N:Int),.int .i64 (K2:Int),.slice a n0 c0,.int .i64 g,.bool b],.int .u32 (n:Int)] w fun e w'=>e=.returned (.bool r)∧Below w.heap.size w w':=by
  have HX:=Lib.hid h
  have k1:∀ w',Below w.heap.size w w'→w'.cell? ⟨q,1,none⟩=some (.int .i64 (K:Int)):=fun w' hb=>(hb.cell (p:=⟨q,1,none⟩) h.lt).trans h.c1
  clear h
  by_cases hN:N=n
  · subst hN
    have HE:Hid (((K2:Int) == (K:Int))=r):=by show _=_;rw [← hr,beqI];simp
    have e1:((N:Int) == (N:Int))=true:=by simp
    clear hr
    go_enter Tryz.func99,Tryz.ntmps99
    have c1:=k1 _ (box1 w (.cells #[.int .u32 (N:Int),.int .i64 (K2:Int),.slice a n0 c0,.int .i64 g,.bool b] 163))
    go_wp2_with fail
    go_quiet (fail)
    go_wp2_with fail
    go_ret
    exact ⟨ret_bool HE.out,Below_drewN (box1 _ _) _⟩
  · have HE:Hid (false=r):=by show _=_;rw [← hr];simp [hN]
    have e1:((N:Int) == (n:Int))=false:=by rw [beqI];simp [hN]
    have e2:decide ((N:Int)=(n:Int))=false:=by simp;omega
    clear hr hN
    go_enter Tryz.func99,Tryz.ntmps99
    have c1:=k1 _ (box1 w (.cells #[.int .u32 (N:Int),.int .i64 (K2:Int),.slice a n0 c0,.int .i64 g,.bool b] 163))
    go_wp2_with fail
    go_quiet (fail)
    go_wp2_with fail
    go_ret
    exact ⟨ret_bool HE.out,Below_drewN (box1 _ _) _⟩
set_option maxHeartbeats 1000000 in
theorem isSealed_is {q p K R:Nat} {v:Value} {ov:Bool} (w:World) (h:LB w q p K R v ov) (N n0 c0:Nat) (a:Option Addr) (r:Bool) (hr:decide (n0=K)=r) :
    Calls Tryz.prog 62 #[.pointer (some ⟨q,0,none⟩),.agg #[.int .u32 (N:Int),.slice a n0 c0]] w fun e w'=>e=.returned (.bool r)∧Below w.heap.size w w':=by
  have HX:=Lib.hid h
  have c1:(w.alloc (.cells #[.int .u32 (N:Int),.slice a n0 c0] 115)).cell? ⟨q,1,none⟩=some (.int .i64 (K:Int)):=((box1 w _).cell (p:=⟨q,1,none⟩) h.lt).trans h.c1
  clear h
  have HE:Hid (((n0:Int) == (K:Int))=r):=by show _=_;rw [← hr,beqI]
  clear hr
  go_enter Tryz.func62,Tryz.ntmps62
  go_wp2_with fail
  go_quiet (fail)
  go_wp2_with fail
  go_ret
  exact ⟨ret_bool HE.out,Below_drewN (box1 _ _) _⟩
theorem segs_is {q p K R:Nat} {a:Option Addr} {n c:Nat} {ov:Bool} (w:World) (h:LB w q p K R (.slice a n c) ov) :
    Calls Tryz.prog 21 #[.pointer (some ⟨q,0,none⟩)] w fun e w'=>e=.returned (.int .i64 (n:Int))∧w'=w:=by
  have c3:=h.c3
  clear h
  go_enter Tryz.func21,Tryz.ntmps21
  go_wp2_with fail
  go_ret
  exact ⟨rfl,rfl⟩
theorem over_is {q p K R:Nat} {v:Value} {ov:Bool} (w:World) (h:LB w q p K R v ov) :
    Calls Tryz.prog 43 #[.pointer (some ⟨q,0,none⟩)] w fun e w'=>e=.returned (.bool ov)∧w'=w:=by
  have c4:=h.c4
  clear h
  go_enter Tryz.func43,Tryz.ntmps43
  go_wp2_with fail
  go_ret
  exact ⟨rfl,rfl⟩
set_option maxHeartbeats 1000000 in
theorem isBatch8_is (a:Option Addr) (n c:Nat) (b:List UInt8) (r:Bool) (w:World) (hn:n=b.length) (hr:Rd w w.heap.size a (bV b)) (hl:b.length≤1000000000000) (hlc:n≤c) (hc:c≤maxLen) (hb:isB b=r) :
    Calls Tryz.prog 55 #[.slice a n c] w fun e w'=>e=.returned (.bool r)∧Below w.heap.size w w':=by
  have HR:=Lib.hid hr;have HN:=Lib.hid hn;have HC:=Lib.hid hc;have HLC:=Lib.hid hlc;have HB:=Lib.hid hb
  clear hr hn hc hlc hb
  go_enter Tryz.func55,Tryz.ntmps55
  go_wp2_with fail
  refine (getW_is a n c b HN.out w HR.out hl HLC.out HC.out).mono ?_;rintro e w1 ⟨a1,c1,rfl,_,_,_,hb1⟩
  have HB1:=Lib.hid hb1;clear hb1
  go_wp2_with fail
  go_ret
  exact ⟨ret_bool ((beqI _ 0).trans HB.out),HB1.out⟩
theorem size_seg:(Tryz.prog.info? 115).map (·.size)=some 2:=by kernel_rfl
def segV (n:Nat) (v:Value):Array Value:=#[.int .u32 (n:Int),v]
theorem load_seg (W:World) (b n:Nat) (v:Value) (ht:W.there b 0 2):(loadVar 115 ⟨b,0,none⟩).run Tryz.prog (W.setCells b 0 (segV n v).toList)=.ok (.agg (segV n v)) (W.setCells b 0 (segV n v).toList) :=
  run_loadVar_mid (P:=Tryz.prog) _ b 0 115 _ _ (World.rangeAt_setCells_same W b 0 (segV n v).toList ht) Tryz.underlying115 rfl size_seg
theorem segV_one (n:Nat) (a:Option Addr) (k c:Nat):(segV n (.slice a k c)).all (·.oneCell')=true:=by simp [segV,Value.oneCell']
set_option maxRecDepth 20000 in
set_option maxHeartbeats 2000000 in
theorem last_is {q p K R k b c:Nat} {ov:Bool} (w:World) (h:LB w q p K R (.slice (some ⟨b,0,none⟩) (k+1) c) ov) (hbl:b < w.heap.size) (_hkc:k+1≤c) (hk:k≤1000) (n n0 c0:Nat) (a:Option Addr)
    (h0:w.cell? ⟨b,k * 2,none⟩=some (.int .u32 (n:Int))) (h1:w.cell? ⟨b,k * 2+1,none⟩=some (.slice a n0 c0)) :
    Calls Tryz.prog 76 #[.pointer (some ⟨q,0,none⟩)] w fun e w'=>e=.returned (.agg (segV n (.slice a n0 c0)))∧Below w.heap.size w w':=by
  obtain ⟨v,hv⟩:∃ v,v=w.alloc (.cells #[.int .u32 0,.slice none 0 0] 115):=⟨_,rfl⟩
  have HBV:Hid (Below w.heap.size w v):=by show Below _ _ _;rw [hv];exact box1 _ _
  have HVS:Hid (v.heap.size=w.heap.size+1):=by show _=_;rw [hv];simp
  have HTV:Hid (v.there w.heap.size 0 2):=by show v.there _ _ _;rw [hv];exact there_last _ _ _ _ _ rfl rfl
  have hq:=h.lt
  have c3:=h.c3
  have hb:∀ (d:Nat) (os:Array Obj),Below w.heap.size w (grow (redrawn v d) os):=fun d os=>HBV.out.trans ((below_regrown v d os).mono (by rw [HVS.out];omega))
  have k3:∀ (d:Nat) (os:Array Obj),(grow (redrawn v d) os).cell? ⟨q,3,none⟩=some (.slice (some ⟨b,0,none⟩) (k+1) c):=fun d os=>((hb d os).cell (p:=⟨q,3,none⟩) hq).trans c3
  have k4:∀ (d:Nat) (os:Array Obj),(grow (redrawn v d) os).cell? ⟨b,k * 2,none⟩=some (.int .u32 (n:Int)):=fun d os=>((hb d os).cell (p:=⟨b,k * 2,none⟩) hbl).trans h0
  have k5:∀ (d:Nat) (os:Array Obj),(grow (redrawn v d) os).cell? ⟨b,k * 2+1,none⟩=some (.slice a n0 c0):=fun d os=>((hb d os).cell (p:=⟨b,k * 2+1,none⟩) hbl).trans h1
  clear h h0 h1 c3 hb
  have i1:(0:Int)≤(k:Int):=by omega
  have i2:(k:Int) < ((k+1:Nat):Int):=by omega
  have i3:(k:Int) < (k:Int)+1:=by omega
  go_enter Tryz.func76,Tryz.ntmps76
  go_wp2_with fail
  rw [← hv]
  clear hv
  refine wp_region_below_tail 12 (by kernel_rfl) (by kernel_rfl) ?_
  simp only [List.take_succ_cons,List.take_zero,List.drop_succ_cons,List.drop_zero]
  iterate 12 (first | go_big_quiet_step (fail) | fail)
  refine wpQuiet_nil ?_
  intro W3 hw'
  obtain ⟨⟨d,os⟩,hw''⟩:=hw'
  have hb3:=below_regrown v d os
  rw [← hw''] at hb3
  clear hw'' k3 k4 k5
  have HB3:=Lib.hid (HBV.out.trans (hb3.mono HBV.out.size))
  have HT3:=Lib.hid (there_below HTV.out hb3 (by rw [HVS.out];omega))
  clear hb3
  go_wp2_with (refine wpList_store_mid rfl 115 (.tmp 2) (.tmp 14) rfl w.heap.size 0 (segV n (.slice a n0 c0)) rfl rfl HT3.out size_seg (segV_one _ _ _ _) ?_)
  refine bodyPost_ret (v:=.agg (segV n (.slice a n0 c0))) (results_cell (p:=2) (ty:=115) (b:=w.heap.size) rfl rfl (load_seg _ _ _ _ HT3.out)) rfl ?_
  exact ⟨rfl,Below_setCells (Nat.le_refl _) _ _ _ HB3.out⟩
end Go.Proofs.YtccbpngehedbaaaGreat

namespace Go.Proofs.YtccbpngehedbaaaGreat
open Go Go.RowKit Go.Sort

/-! The landed log: numbers in a row; whether a number is among some. -/
theorem chain_all : ∀ {N : List Nat}, chainB N = true ↔ ∀ j, j < N.length → N.getD j 0 = N.getD 0 0 + j
  | []=>by simp [chainB]
  | [a]=>by
    refine ⟨fun _ j hj=>?_,fun _=>rfl⟩
    have:j=0:=by simpa using hj
    subst this;rfl
  | a :: b :: r=>by
    simp only [chainB,Bool.and_eq_true,decide_eq_true_eq]
    rw [chain_all (N:=b :: r)]
    refine ⟨fun ⟨h1,h2⟩ j hj=>?_,fun h=>⟨?_,fun j hj=>?_⟩⟩
    · match j with
      | 0=>rfl
      | j+1 =>
        have:=h2 j (by simpa using hj)
        simp only [List.getD_cons_succ,List.getD_cons_zero] at this ⊢
        omega
    · have:=h 1 (by simp)
      simpa using this
    · have h1:=h (j+1) (by simpa using hj)
      have h2:=h 1 (by simp)
      simp only [List.getD_cons_succ,List.getD_cons_zero] at h1 h2 ⊢
      omega
theorem u32V_cell {w:World} {B:Nat} {a:Option Addr} {N:List Nat} (h:Rd w B a (u32V N)) (h0:0 < N.length):∃ b off,a=some ⟨b,off,none⟩∧b < B∧∀ j,j < N.length→w.cell? ⟨b,off+j,none⟩=some (.int .u32 (N.getD j 0:Int)):=by
  obtain ⟨b,off,ha,hb,hc⟩:=h (by rw [u32V_length];exact h0)
  refine ⟨b,off,ha,hb,fun j hj=>hc j _ ?_⟩
  simp [u32V,List.getD,hj]
set_option maxHeartbeats 1000000 in
theorem inARow_is (a : Option Addr) (n c : Nat) (N : List Nat) (r : Bool) (w : World) (hn : n = N.length) (hr : Rd w w.heap.size a (u32V N)) (hs : N.Pairwise (· < ·)) (hx : ∀ x ∈ N, x < 4294967296) (hl : n ≤ 1000) (hc : chainB N = r) :
    Calls Tryz.prog 72 #[.slice a n c] w fun e w'=>e=.returned (.bool r)∧Below w.heap.size w w':=by
  have HN:=Lib.hid hn;have HR:=Lib.hid hr;have HS:=Lib.hid hs;have HX:=Lib.hid hx;have HC:=Lib.hid hc
  clear hn hr hs hx hc
  go_enter Tryz.func72,Tryz.ntmps72
  go_wp2_with fail
  go_loopw [7] (fun i wr=>∃ j:Nat,j≤n∧i=.int .i64 j∧(∀ t,t < j→N.getD t 0=N.getD 0 0+t)∧Below w.heap.size w wr) (fun i _=>n - (intOf i).toNat)
  case atStart=>exact ⟨0,Nat.zero_le _,rfl,fun t h=>absurd h (by omega),Below.refl _ _⟩
  case round =>
    obtain ⟨j,hj,rfl,hall,hb⟩:=hrel
    have HALL:=Lib.hid hall;have HB:=Lib.hid hb
    clear hall
    by_cases hlt:j < n
    · have hjL:j < N.length:=by rw [← HN.out];exact hlt
      obtain ⟨b,off,rfl,hbl,hcell⟩:=u32V_cell (HR.out.below hb) (by omega)
      have q0:=hcell 0 (by omega)
      have qj:=hcell j hjL
      rw [Nat.add_zero] at q0
      obtain ⟨x,hx⟩:∃ x,N.getD j 0=x:=⟨_,rfl⟩
      obtain ⟨y,hy⟩:∃ y,N.getD 0 0=y:=⟨_,rfl⟩
      have hyx:y≤x∧x < 4294967296∧y < 4294967296:=by
        have m1:x ∈ N:=by rw [← hx];simp [List.getD,hjL]
        have m2:y ∈ N:=by rw [← hy];simp [List.getD,show 0 < N.length by omega]
        refine ⟨?_,HX.out _ m1,HX.out _ m2⟩
        rcases Nat.eq_zero_or_pos j with e | e
        · subst e;omega
        · have:=List.pairwise_iff_getElem.1 HS.out 0 j (by omega) hjL e
          simp [List.getD,hjL,show 0 < N.length by omega] at hx hy
          omega
      rw [hx] at qj;rw [hy] at q0
      have HXE:=Lib.hid hx;have HYE:=Lib.hid hy;have HLT:=Lib.hid hlt;have HYX:=Lib.hid hyx
      clear hcell hx hy
      have i1:(0:Int)≤(j:Int):=by omega
      have i2:(j:Int) < (n:Int):=by omega
      have i3:(0:Int) < (n:Int):=by omega
      have hm:((x:Int) - (y:Int)) % 4294967296=((x - y:Nat):Int):=by omega
      have hm2:(j:Int) % 4294967296=(j:Int):=by omega
      by_cases hd:x - y=j
      · have e1:(((x - y:Nat):Int) != (j:Int))=false:=by simp;omega
        have HD:=Lib.hid hd
        clear hd hyx hb
        go_wp2_with fail
        go_roundw
        case rel=>exact ⟨j+1,HLT.out,by go_num,fun t ht=>by
          rcases Nat.lt_or_ge t j with h | h
          · exact HALL.out t h
          · have:t=j:=by omega
            subst this;have h1:=HD.out;have h2:=HXE.out;have h3:=HYE.out;have h4:=HYX.out;omega,HB.out⟩
        case measure=>have:=HLT.out;simp [intOf];omega
      · have e1:(((x - y:Nat):Int) != (j:Int))=true:=by simp;omega
        have HF:Hid (r=false):=by
          show _=_
          rw [← HC.out]
          cases hcc:chainB N
          · rfl
          · have:=chain_all.1 hcc j hjL
            have:=HXE.out;have:=HYE.out;omega
        clear hd hyx hb
        go_wp2_with fail
        go_ret
        exact ⟨ret_bool HF.out.symm,HB.out⟩
    · have:j=n:=by omega
      subst this
      have HF:Hid (r=true):=by
        show _=_
        rw [← HC.out]
        exact chain_all.2 fun t ht=>HALL.out t (by rw [HN.out];exact ht)
      go_wp2_with fail
      go_ret
      exact ⟨ret_bool HF.out.symm,HB.out⟩
set_option maxHeartbeats 1000000 in
theorem index_is (a : Option Addr) (n c m : Nat) (N : List Nat) (w : World) (hn : n = N.length) (hr : Rd w w.heap.size a (u32V N)) (hl : n ≤ 1000000000) :
    Calls Tryz.prog 128 #[.slice a n c,.int .u32 (m:Int)] w fun e w'=>(∃ z:Int,e=.returned (.int .i64 z)∧(0≤z ↔ m ∈ N))∧Below w.heap.size w w':=by
  have HN:=Lib.hid hn;have HR:=Lib.hid hr
  clear hn hr
  go_enter Tryz.func128,Tryz.ntmps128
  go_wp2_with fail
  go_loopw [8] (fun i wr=>∃ j:Nat,j≤n∧i=.int .i64 j∧(∀ t,t < j→N.getD t 0 ≠ m)∧Below w.heap.size w wr) (fun i _=>n - (intOf i).toNat)
  case atStart=>exact ⟨0,Nat.zero_le _,rfl,fun t h=>absurd h (by omega),Below.refl _ _⟩
  case round =>
    obtain ⟨j,hj,rfl,hall,hb⟩:=hrel
    have HALL:=Lib.hid hall;have HB:=Lib.hid hb
    clear hall
    by_cases hlt:j < n
    · have hjL:j < N.length:=by rw [← HN.out];exact hlt
      obtain ⟨b,off,rfl,hbl,hcell⟩:=u32V_cell (HR.out.below hb) (by omega)
      have qj:=hcell j hjL
      obtain ⟨x,hx⟩:∃ x,N.getD j 0=x:=⟨_,rfl⟩
      rw [hx] at qj
      have HXE:=Lib.hid hx;have HLT:=Lib.hid hlt
      have HM:Hid (x ∈ N):=by show x ∈ N;rw [← hx];simp [List.getD,hjL]
      clear hcell hx
      have i1:(0:Int)≤(j:Int):=by omega
      have i2:(j:Int) < (n:Int):=by omega
      by_cases hd:m=x
      · have e1:((m:Int) == (x:Int))=true:=by rw [beqI];simp [hd]
        have HD:=Lib.hid hd
        clear hd hb
        go_wp2_with fail
        go_ret
        exact ⟨⟨(j:Int),rfl,fun _=>by rw [HD.out];exact HM.out,fun _=>by omega⟩,HB.out⟩
      · have e1:((m:Int) == (x:Int))=false:=by rw [beqI];simp [hd]
        have HD:=Lib.hid hd
        clear hd hb
        go_wp2_with fail
        go_roundw
        case rel=>exact ⟨j+1,HLT.out,by go_num,fun t ht=>by
          rcases Nat.lt_or_ge t j with h | h
          · exact HALL.out t h
          · have:t=j:=by omega
            subst this;rw [HXE.out];exact fun e=>HD.out e.symm,HB.out⟩
        case measure=>have:=HLT.out;simp [intOf];omega
    · have:j=n:=by omega
      subst this
      have HF:Hid (m ∉ N):=by
        show ¬ _
        intro hm
        obtain ⟨t,ht,e⟩:=List.getElem_of_mem hm
        exact HALL.out t (by rw [HN.out];exact ht) (by simp [List.getD,ht,e])
      go_wp2_with fail
      go_ret
      exact ⟨⟨-1,rfl,fun h=>absurd h (by decide),fun h=>absurd h HF.out⟩,HB.out⟩
theorem contains_is (a:Option Addr) (n c m:Nat) (N:List Nat) (r:Bool) (w:World) (hn:n=N.length) (hr:Rd w w.heap.size a (u32V N)) (hl:n≤1000000000) (hm:decide (m ∈ N)=r) :
    Calls Tryz.prog 102 #[.slice a n c,.int .u32 (m:Int)] w fun e w'=>e=.returned (.bool r)∧Below w.heap.size w w':=by
  have HN:=Lib.hid hn;have HR:=Lib.hid hr;have HM:=Lib.hid hm
  clear hn hr hm
  go_enter Tryz.func102,Tryz.ntmps102
  go_wp2_with fail
  refine (index_is a n c m N _ HN.out HR.out hl).mono ?_;rintro e w1 ⟨⟨z,rfl,hz⟩,hb1⟩
  have HZ:=Lib.hid hz;have HB1:=Lib.hid hb1
  clear hz hb1
  go_wp2_with fail
  go_ret
  refine ⟨ret_bool ?_,HB1.out⟩
  rw [← HM.out]
  by_cases h:(0:Int)≤z
  · simp [h,HZ.out.1 h]
  · have hm:m ∉ N:=fun hh=>h (HZ.out.2 hh)
    simp [h,hm]
end Go.Proofs.YtccbpngehedbaaaGreat

namespace Go.Proofs.YtccbpngehedbaaaGreat
open Go Go.RowKit Go.Sort

/-! The landed log: acts, one behind the other. -/
/-- Acts, one behind the other, up to the first that answers an error. -/
def runA:List (FSm→FSm × Int)→FSm→FSm × Int
  | [],m=>(m,0)
  | A :: r,m=>if (A m).2 ≠ 0 then A m else runA r (A m).1
/-- What an act's function does, on a number: it reads, besides the files, the blocks of U. -/
structure ActOk (F:FsKit) (p n:Nat) (w0:World) (U:Nat→Prop) (fv:Value) (A:FSm→FSm × Int):Prop where
  fn:∃ (K:FuncId) (fs cs:Array Value),fv=.func (.func K) fs cs∧(∀ args w,(callFunc K args).run Tryz.prog w=.ok (.enter K args) w) ∧
    ∀ (w:World) (S R:Nat→Prop) (m:FSm),F.Fs w S R p m→Bnd m→w0.heap.size≤w.heap.size→(∀ k,U k→¬ S k∧w.heap[k]?=w0.heap[k]?) →
      Calls Tryz.prog K (fs ++ #[.int .u32 (n:Int)] ++ cs) w fun e w'=>∃ S' R',e=.returned (.int .i64 (A m).2)∧F.Fs w' S' R' p (A m).1∧Did S R S' R' w w'
  lim:∀ k m,Lim k m→Lim (k+1) (A m).1
theorem ActOk.more {F:FsKit} {p n:Nat} {w0 w1:World} {U U':Nat→Prop} {fv:Value} {A:FSm→FSm × Int} (h:ActOk F p n w0 U fv A) (hs:w0.heap.size≤w1.heap.size) (hu:∀ k,U k→U' k∧w1.heap[k]?=w0.heap[k]?):ActOk F p n w1 U' fv A:=by
  obtain ⟨⟨K,fs,cs,e,h1,h2⟩,h3⟩:=h
  exact ⟨⟨K,fs,cs,e,h1,fun w S R m hF hb hw hk=>h2 w S R m hF hb (Nat.le_trans hs hw) fun k hkU=>⟨(hk k (hu k hkU).1).1,(hk k (hu k hkU).1).2.trans (hu k hkU).2⟩⟩,h3⟩
/-- What do leaves. -/
structure DoOut (F:FsKit) (w:World) (S R T:Nat→Prop) (p q:Nat) (g:LgM) (a:Option Addr) (c:Nat) (L:List SgR) (r:FSm × Int) (e:Ending) (w':World) (S' R':Nat→Prop):Prop where
  e:e=.returned (.int .i64 r.2)
  fs:F.Fs w' S' R' p r.1
  log:LgB w' T p q (if r.2 ≠ 0 then g.down else g) a c L
  dis:Dis T S' R'
  s:∀ k,S' k→S k∨w.heap.size≤k
  r:∀ k,R' k→R k∨S k∨w.heap.size≤k
  off:Off (fun k=>S k∨k=q) w w'
set_option maxRecDepth 20000 in
set_option maxHeartbeats 4000000 in
theorem do_any (F : FsKit) (w : World) (S R T U : Nat → Prop) (p q n : Nat) (m : FSm) (g : LgM) (a : Option Addr) (c : Nat) (L : List SgR) (k : Nat) (fa : Option Addr) (fc : Nat) (fvs : List Value) (As : List (FSm → FSm × Int)) (nf : Nat)
    (hF:F.Fs w S R p m) (hL:LgB w T p q g a c L) (hd:Dis T S R) (hk:Lim k m) (hk2:k+As.length≤9900) (hr:RdN S w fa fvs) (hnf:nf=fvs.length) (hlen:fvs.length=As.length) (hU:∀ j,U j→¬ S j∧j < w.heap.size)
    (hacts:∀ i (h:i < fvs.length) (h2:i < As.length),ActOk F p n w U fvs[i] As[i]) :
    Calls Tryz.prog 58 #[.pointer (some ⟨q,0,none⟩),.int .u32 (n:Int),.slice fa nf fc] w fun e w'=>∃ S' R',DoOut F w S R T p q g a c L (runA As m) e w' S' R':=by
  have HF:=Lib.hid hF;have HL:=Lib.hid hL;have HD:=Lib.hid hd;have HK:=Lib.hid hk;have HR:=Lib.hid hr;have HNF:=Lib.hid hnf;have HU:=Lib.hid hU;have HA:=Lib.hid hacts;have HLEN:=Lib.hid hlen;have HK2:=Lib.hid hk2
  have hnfl:nf≤9900:=by omega
  clear hF hL hd hk hr hnf hU hacts hlen hk2
  go_enter Tryz.func58,Tryz.ntmps58
  go_wp2_with fail
  go_loopw [12] (fun i wr=>∃ (j:Nat) (S1 R1:Nat→Prop) (mj:FSm),j≤nf∧i=.int .i64 j∧F.Fs wr S1 R1 p mj∧Did S R S1 R1 w wr∧runA As m=runA (As.drop j) mj∧Lim (k+j) mj) (fun i _=>nf - (intOf i).toNat)
  case atStart=>exact ⟨0,S,R,m,Nat.zero_le _,rfl,HF.out,Did.refl _ _ _,rfl,HK.out⟩
  case round =>
    obtain ⟨j,S1,R1,mj,hj,rfl,hF1,hd1,hrun,hlim⟩:=hrel
    have HF1:=Lib.hid hF1;have HD1:=Lib.hid hd1;have HRUN:=Lib.hid hrun;have HLIM:=Lib.hid hlim
    clear hF1 hd1 hrun hlim
    by_cases hlt:j < nf
    · have hjL:j < fvs.length:=by rw [← HNF.out];exact hlt
      have hjA:j < As.length:=by rw [← HLEN.out];exact hjL
      obtain ⟨b,off,rfl,hbl,hnS,hc⟩:=HD1.out.rdn HR.out (by omega)
      obtain ⟨K,fs,cs,hfv,hen,hcall⟩:=(HA.out j hjL hjA).fn
      have hcj:=hc j fvs[j] (by simp [hjL])
      rw [hfv] at hcj
      have HCALL:=Lib.hid (hcall wr S1 R1 mj HF1.out (HLIM.out.bnd (by have:=HK2.out;omega)) HD1.out.off.size fun x hx=>⟨fun hs=>by
        rcases HD1.out.s x hs with h | h
        · exact (HU.out x hx).1 h
        · have:=(HU.out x hx).2;omega,HD1.out.off.block x (HU.out x hx).2 (HU.out x hx).1⟩)
      have HLIM2:=Lib.hid ((HA.out j hjL hjA).lim _ _ HLIM.out)
      have HRUN2:Hid (runA As m=if (As[j] mj).2 ≠ 0 then As[j] mj else runA (As.drop (j+1)) (As[j] mj).1):=by
        show _=_
        rw [HRUN.out,List.drop_eq_getElem_cons hjA];rfl
      have HLT:=Lib.hid hlt
      obtain ⟨r,hr⟩:∃ r,r=As[j] mj:=⟨_,rfl⟩
      rw [← hr] at HCALL HLIM2 HRUN2
      obtain ⟨m2,e2⟩:=r
      clear hr hc hcall hfv
      have i1:(0:Int)≤(j:Int):=by omega
      have i2:(j:Int) < (nf:Int):=by omega
      go_wp2_with fail
      refine HCALL.out.mono ?_
      rintro e w1 ⟨S2,R2,rfl,hF2,hd2⟩
      have HF2:=Lib.hid hF2;have HD2:=Lib.hid (HD1.out.trans hd2)
      clear hF2 hd2
      by_cases h0:e2=0
      · subst h0
        go_wp2_with fail
        go_roundw
        case rel=>exact ⟨j+1,S2,R2,m2,HLT.out,by go_num,HF2.out,HD2.out,by rw [HRUN2.out];simp,HLIM2.out⟩
        case measure=>have:=HLT.out;simp [intOf];omega
      · have hne:(e2 != 0)=true:=by simp [h0]
        have H0:=Lib.hid h0
        obtain ⟨hl2,hdis2⟩:=HL.out.did HD.out HD2.out
        have HL2:=Lib.hid hl2;have HDIS2:=Lib.hid hdis2
        have q4:=hl2.box.c4
        have q4f:=hl2.box.fz 4
        clear h0 hl2 hdis2
        go_wp2_with fail
        go_ret
        refine ⟨S2,R2,by rw [HRUN2.out];simp [H0.out],?_,?_,HDIS2.out,HD2.out.s,HD2.out.r,?_⟩
        · rw [HRUN2.out,if_pos H0.out]
          refine F.move HF2.out (by simp) fun y hy=>?_
          have hy2:¬ y=q:=fun e=>by
            subst e
            have:=HDIS2.out _ HL2.out.tq
            exact hy.elim this.1 this.2
          have:¬ q=y:=fun e=>hy2 e.symm
          simp [World.setCell,Array.getElem?_modify,this]
        · rw [HRUN2.out,if_pos H0.out,if_pos H0.out]
          exact HL2.out.set4
        · exact (HD2.out.off.more fun _ h=>.inl h).andThen (set_off1 _ _ _ _) fun y hy=>.inl (.inr hy)
    · have:j=nf:=by omega
      subst this
      have HE:Hid (runA As m=(mj,0)):=by
        show _=_
        rw [HRUN.out,List.drop_of_length_le (by rw [← HLEN.out,← HNF.out];exact Nat.le_refl _)];rfl
      go_wp2_with fail
      go_ret
      obtain ⟨hl2,hdis2⟩:=HL.out.did HD.out HD1.out
      refine ⟨S1,R1,by rw [HE.out];rfl,by rw [HE.out];exact HF1.out,by rw [HE.out];simpa using hl2,hdis2,HD1.out.s,HD1.out.r,HD1.out.off.more fun _ h=>.inl h⟩
end Go.Proofs.YtccbpngehedbaaaGreat

namespace Go.Proofs.YtccbpngehedbaaaGreat
open Go Go.RowKit Go.Sort

/-! The landed log: the acts' functions; makeSafe. -/
/-- Cells that are read in a block of U. -/
def RdU (U:Nat→Prop) (w:World) (a:Option Addr) (cs:List Value):Prop :=
  0 < cs.length→∃ b off,a=some ⟨b,off,none⟩∧b < w.heap.size∧U b∧∀ j u,cs[j]?=some u→w.cell? ⟨b,off+j,none⟩=some u
theorem RdU.rdn {U S:Nat→Prop} {w w':World} {a:Option Addr} {cs:List Value} (h:RdU U w a cs) (hs:w.heap.size≤w'.heap.size) (hk:∀ k,U k→¬ S k∧w'.heap[k]?=w.heap[k]?):RdN S w' a cs:=fun h0=>by
  obtain ⟨b,off,ha,hb,hu,hc⟩:=h h0
  exact ⟨b,off,ha,Nat.lt_of_lt_of_le hb hs,(hk b hu).1,fun j u hj=>by
    have e:w'.cell? ⟨b,off+j,none⟩=w.cell? ⟨b,off+j,none⟩:=World.cell?_of_block (hk b hu).2
    rw [e];exact hc j u hj⟩
theorem enters_s8:∀ args w,(callFunc 65 args).run Tryz.prog w=.ok (.enter 65 args) w:=enters_of Tryz.func65 (by kernel_rfl) rfl
theorem enters_r8:∀ args w,(callFunc 64 args).run Tryz.prog w=.ok (.enter 64 args) w:=enters_of Tryz.func64 (by kernel_rfl) rfl
theorem enters_cr:∀ args w,(callFunc 9 args).run Tryz.prog w=.ok (.enter 9 args) w:=enters_of Tryz.func9 (by kernel_rfl) rfl
theorem enters_l1:∀ args w,(callFunc 111 args).run Tryz.prog w=.ok (.enter 111 args) w:=enters_of Tryz.func111 (by kernel_rfl) rfl
theorem enters_c1:∀ args w,(callFunc 126 args).run Tryz.prog w=.ok (.enter 126 args) w:=enters_of Tryz.func126 (by kernel_rfl) rfl
def meV (K:FuncId) (p:Nat):Value:=.func (.func K) #[.pointer (some ⟨p,0,none⟩)] #[]
def clV (K:FuncId) (i:Nat):Value:=.func (.func K) #[] #[.pointer (some ⟨i,0,none⟩),.pointer (some ⟨i+1,0,none⟩)]
theorem ok_sync (F:FsKit) (p n:Nat) (hn:n < 4294967296) (w0:World) (U:Nat→Prop):ActOk F p n w0 U (meV 65 p) (fun m=>syncF m n) :=
  ⟨⟨_,_,_,rfl,enters_s8,fun w S R m hF hb _ _=>F.sync w S R p m n hF hb hn⟩,fun _ _ h=>lim_sync h n⟩
theorem ok_remove (F:FsKit) (p n:Nat) (hn:n < 4294967296) (w0:World) (U:Nat→Prop):ActOk F p n w0 U (meV 64 p) (fun m=>removeF m n) :=
  ⟨⟨_,_,_,rfl,enters_r8,fun w S R m hF hb _ _=>F.remove w S R p m n hF hb hn⟩,fun _ _ h=>lim_remove h n⟩
theorem ok_create (F:FsKit) (p n:Nat) (hn:n < 4294967296) (w0:World) (U:Nat→Prop):ActOk F p n w0 U (meV 9 p) (fun m=>createF m n) :=
  ⟨⟨_,_,_,rfl,enters_cr,fun w S R m hF hb _ _=>F.create w S R p m n hF hb hn⟩,fun _ _ h=>lim_create h n⟩
theorem box_c0 {w:World} {i:Nat} {v:Value} {t:TypeId} (h:w.heap[i]?=some (.cells #[v] t)):w.cell? ⟨i,0,none⟩=some v:=by simp [World.cell?,h]
set_option maxHeartbeats 1000000 in
theorem lay1_any (F:FsKit) (w:World) (S R:Nat→Prop) (p q K0 R0 i n:Nat) (v:Value) (ov:Bool) (m:FSm) (a:Option Addr) (c:Nat) (b:List UInt8) (hF:F.Fs w S R p m) (hb:Bnd m) (hn:n < 4294967296) (hB:LB w q p K0 R0 v ov)
    (h1:w.cell? ⟨i,0,none⟩=some (.pointer (some ⟨q,0,none⟩))) (h2:w.cell? ⟨i+1,0,none⟩=some (.slice a b.length c)) (hi:i+1 < w.heap.size) (hr:RdN S w a (bV b)) (hbl:b.length≤1000000000) (hbc:b.length≤c) (hcm:c≤maxLen) :
    Calls Tryz.prog 111 #[.int .u32 (n:Int),.pointer (some ⟨i,0,none⟩),.pointer (some ⟨i+1,0,none⟩)] w fun e w'=>∃ S' R',e=.returned (.int .i64 (appendF m n (bs b)).2)∧F.Fs w' S' R' p (appendF m n (bs b)).1∧Did S R S' R' w w':=by
  have HF:=Lib.hid hF;have HBD:=Lib.hid hb;have HR:=Lib.hid hr;have HBC:=Lib.hid hbc;have HCM:=Lib.hid hcm
  have hq:=hB.lt
  have c0:=hB.c0
  have k0:∀ (d:Nat) (os:Array Obj),(grow (redrawn w d) os).cell? ⟨i,0,none⟩=some (.pointer (some ⟨q,0,none⟩)):=fun d os=>((below_regrown w d os).cell (p:=⟨i,0,none⟩) (by show i < _;omega)).trans h1
  have k1:∀ (d:Nat) (os:Array Obj),(grow (redrawn w d) os).cell? ⟨i+1,0,none⟩=some (.slice a b.length c):=fun d os=>((below_regrown w d os).cell (p:=⟨i+1,0,none⟩) hi).trans h2
  have k2:∀ (d:Nat) (os:Array Obj),(grow (redrawn w d) os).cell? ⟨q,0,none⟩=some (.pointer (some ⟨p,0,none⟩)):=fun d os=>((below_regrown w d os).cell (p:=⟨q,0,none⟩) hq).trans c0
  clear hF hb hB h1 h2 hr hbc hcm c0
  go_enter Tryz.func111,Tryz.ntmps111
  go_wp2_with fail
  refine wp_region_below_tail 6 (by kernel_rfl) (by kernel_rfl) ?_
  simp only [List.take_succ_cons,List.take_zero,List.drop_succ_cons,List.drop_zero]
  iterate 6 (first | go_big_quiet_step (fail) | fail)
  refine wpQuiet_nil ?_
  intro w3 hw'
  obtain ⟨⟨d,os⟩,hw''⟩:=hw'
  have hb3:=below_regrown w d os
  rw [← hw''] at hb3
  clear hw'' k0 k1 k2
  have HB3:=Lib.hid hb3
  clear hb3
  go_wp2_with fail
  refine (F.append w3 S R p m n a c b (F.below HF.out HB3.out) HBD.out hn (HR.out.off (Off.of_below HB3.out) fun _ h=>.inl h) hbl HBC.out HCM.out).mono ?_
  rintro e w4 ⟨S',R',rfl,hF4,hd4⟩
  have HF4:=Lib.hid hF4;have HD4:=Lib.hid (Did.after HB3.out hd4)
  clear hF4 hd4
  go_wp2_with fail
  go_ret
  exact ⟨S',R',rfl,HF4.out,HD4.out⟩
set_option maxHeartbeats 1000000 in
theorem cut1_any (F:FsKit) (w:World) (S R:Nat→Prop) (p q K0 R0 i n:Nat) (v:Value) (ov:Bool) (m:FSm) (z:Int) (hF:F.Fs w S R p m) (hb:Bnd m) (hn:n < 4294967296) (hB:LB w q p K0 R0 v ov)
    (h1:w.cell? ⟨i,0,none⟩=some (.pointer (some ⟨q,0,none⟩))) (h2:w.cell? ⟨i+1,0,none⟩=some (.int .i64 z)) (hi:i+1 < w.heap.size) (hz1:-9223372036854775808≤z) (hz2:z≤9223372036854775807) :
    Calls Tryz.prog 126 #[.int .u32 (n:Int),.pointer (some ⟨i,0,none⟩),.pointer (some ⟨i+1,0,none⟩)] w fun e w'=>∃ S' R',e=.returned (.int .i64 (truncF m n z).2)∧F.Fs w' S' R' p (truncF m n z).1∧Did S R S' R' w w':=by
  have HF:=Lib.hid hF;have HBD:=Lib.hid hb
  have hq:=hB.lt
  have c0:=hB.c0
  have k0:∀ (d:Nat) (os:Array Obj),(grow (redrawn w d) os).cell? ⟨i,0,none⟩=some (.pointer (some ⟨q,0,none⟩)):=fun d os=>((below_regrown w d os).cell (p:=⟨i,0,none⟩) (by show i < _;omega)).trans h1
  have k1:∀ (d:Nat) (os:Array Obj),(grow (redrawn w d) os).cell? ⟨i+1,0,none⟩=some (.int .i64 z):=fun d os=>((below_regrown w d os).cell (p:=⟨i+1,0,none⟩) hi).trans h2
  have k2:∀ (d:Nat) (os:Array Obj),(grow (redrawn w d) os).cell? ⟨q,0,none⟩=some (.pointer (some ⟨p,0,none⟩)):=fun d os=>((below_regrown w d os).cell (p:=⟨q,0,none⟩) hq).trans c0
  clear hF hb hB h1 h2 c0
  go_enter Tryz.func126,Tryz.ntmps126
  go_wp2_with fail
  refine wp_region_below_tail 6 (by kernel_rfl) (by kernel_rfl) ?_
  simp only [List.take_succ_cons,List.take_zero,List.drop_succ_cons,List.drop_zero]
  iterate 6 (first | go_big_quiet_step (fail) | fail)
  refine wpQuiet_nil ?_
  intro w3 hw'
  obtain ⟨⟨d,os⟩,hw''⟩:=hw'
  have hb3:=below_regrown w d os
  rw [← hw''] at hb3
  clear hw'' k0 k1 k2
  have HB3:=Lib.hid hb3
  clear hb3
  go_wp2_with fail
  refine (F.trunc w3 S R p m n z (F.below HF.out HB3.out) HBD.out hn hz1 hz2).mono ?_
  rintro e w4 ⟨S',R',rfl,hF4,hd4⟩
  have HF4:=Lib.hid hF4;have HD4:=Lib.hid (Did.after HB3.out hd4)
  clear hF4 hd4
  go_wp2_with fail
  go_ret
  exact ⟨S',R',rfl,HF4.out,HD4.out⟩
theorem lay_is (q n c:Nat) (a:Option Addr) (w:World):Calls Tryz.prog 82 #[.pointer (some ⟨q,0,none⟩),.slice a n c] w fun e w'=>e=.returned (.func (.func 111) #[] #[.pointer (some ⟨w.heap.size,0,none⟩),.pointer (some ⟨w.heap.size+1,0,none⟩)])∧Below w.heap.size w w' ∧
    w'.heap.size=w.heap.size+2∧w'.heap[w.heap.size]?=some (.cells #[.pointer (some ⟨q,0,none⟩)] 35)∧w'.heap[w.heap.size+1]?=some (.cells #[.slice a n c] 38):=by
  go_enter Tryz.func82,Tryz.ntmps82
  go_wp2_with fail
  go_ret
  refine ⟨by simp,(box1 w _).alloc (by simp) _,by simp,?_,?_⟩
  · rw [(box1 (w.alloc _) _).block w.heap.size (by simp)];exact heap_alloc_new w _
  · have:=heap_alloc_new (w.alloc (.cells #[.pointer (some ⟨q,0,none⟩)] 35)) (.cells #[.slice a n c] 38)
    simpa using this
theorem cut_is (q:Nat) (z:Int) (w:World):Calls Tryz.prog 101 #[.pointer (some ⟨q,0,none⟩),.int .i64 z] w fun e w'=>e=.returned (.func (.func 126) #[] #[.pointer (some ⟨w.heap.size,0,none⟩),.pointer (some ⟨w.heap.size+1,0,none⟩)])∧Below w.heap.size w w' ∧
    w'.heap.size=w.heap.size+2∧w'.heap[w.heap.size]?=some (.cells #[.pointer (some ⟨q,0,none⟩)] 35)∧w'.heap[w.heap.size+1]?=some (.cells #[.int .i64 z] 3):=by
  go_enter Tryz.func101,Tryz.ntmps101
  go_wp2_with fail
  go_ret
  refine ⟨by simp,(box1 w _).alloc (by simp) _,by simp,?_,?_⟩
  · rw [(box1 (w.alloc _) _).block w.heap.size (by simp)];exact heap_alloc_new w _
  · have:=heap_alloc_new (w.alloc (.cells #[.pointer (some ⟨q,0,none⟩)] 35)) (.cells #[.int .i64 z] 3)
    simpa using this
theorem ok_lay (F:FsKit) (p q K0 R0 i n:Nat) (v:Value) (ov:Bool) (hn:n < 4294967296) (w0:World) (U:Nat→Prop) (a:Option Addr) (c:Nat) (b:List UInt8) (hB:LB w0 q p K0 R0 v ov)
    (h1:w0.heap[i]?=some (.cells #[.pointer (some ⟨q,0,none⟩)] 35)) (h2:w0.heap[i+1]?=some (.cells #[.slice a b.length c] 38)) (u1:U i) (u2:U (i+1)) (u3:U q) (hr:RdU U w0 a (bV b)) (hbl:b.length≤4000) (hbc:b.length≤c) (hcm:c≤maxLen) :
    ActOk F p n w0 U (clV 111 i) (fun m=>appendF m n (bs b)) :=
  ⟨⟨_,_,_,rfl,enters_l1,fun w S R m hF hb hs hk=>lay1_any F w S R p q K0 R0 i n v ov m a c b hF hb hn ((hk q u3).2.trans hB) (box_c0 ((hk i u1).2.trans h1)) (box_c0 ((hk (i+1) u2).2.trans h2)) (Nat.lt_of_lt_of_le (Array.getElem?_eq_some_iff.1 h2).1 hs) (hr.rdn hs hk) (by omega) hbc hcm⟩,
    fun _ _ h=>lim_append4 h n hbl⟩
theorem ok_cut (F:FsKit) (p q K0 R0 i n:Nat) (v:Value) (ov:Bool) (hn:n < 4294967296) (w0:World) (U:Nat→Prop) (z:Int) (hB:LB w0 q p K0 R0 v ov)
    (h1:w0.heap[i]?=some (.cells #[.pointer (some ⟨q,0,none⟩)] 35)) (h2:w0.heap[i+1]?=some (.cells #[.int .i64 z] 3)) (u1:U i) (u2:U (i+1)) (u3:U q) (hz1:-9223372036854775808≤z) (hz2:z≤9223372036854775807) :
    ActOk F p n w0 U (clV 126 i) (fun m=>truncF m n z) :=
  ⟨⟨_,_,_,rfl,enters_c1,fun w S R m hF hb hs hk=>cut1_any F w S R p q K0 R0 i n v ov m z hF hb hn ((hk q u3).2.trans hB) (box_c0 ((hk i u1).2.trans h1)) (box_c0 ((hk (i+1) u2).2.trans h2)) (Nat.lt_of_lt_of_le (Array.getElem?_eq_some_iff.1 h2).1 hs) hz1 hz2⟩,
    fun _ _ h=>lim_trunc h n z⟩
end Go.Proofs.YtccbpngehedbaaaGreat

namespace Go.Proofs.YtccbpngehedbaaaGreat
open Go Go.RowKit Go.Sort

/-! The landed log: one segment more. -/
theorem box_cell (w:World) (cs:Array Value) (t:TypeId) {i:Nat} {u:Value} (h:cs.toList[i]?=some u):(w.alloc (.cells cs t)).cell? ⟨w.heap.size,i,none⟩=some u:=by
  have:=lit_cells w cs t i u h
  rwa [add_at,Nat.zero_add] at this
theorem own_tag {w:World} {base:Nat} {e:TypeId} {size:Nat} {v:Value} {n:Nat} {xs:List Value} (h:w.ownsRow base e size v n xs) {k:Nat} (hk:v.ownBlock=some k):∃ cur,w.heap[k]?=some (.cells cur e):=by
  rcases h.2 with ⟨rfl,_⟩ | ⟨g,cap,cur,rfl,_,hg,_⟩
  · cases hk
  · obtain rfl:g=k:=by simpa [Value.ownBlock] using hk
    exact ⟨cur,hg⟩
theorem own_tne {w:World} {base base2:Nat} {e e2:TypeId} {size size2:Nat} {v v2:Value} {n n2:Nat} {xs xs2:List Value} (h:w.ownsRow base e size v n xs) (h2:w.ownsRow base2 e2 size2 v2 n2 xs2) (he:e ≠ e2) {k k2:Nat} (hk:v.ownBlock=some k) (hk2:v2.ownBlock=some k2):k ≠ k2:=fun e'=>by
  subst e'
  obtain ⟨c1,h1⟩:=own_tag h hk
  obtain ⟨c2,h3⟩:=own_tag h2 hk2
  rw [h1] at h3;injection h3 with h3;injection h3 with _ h3;exact he h3
theorem LB.ne {w:World} {q p K R:Nat} {v:Value} {ov:Bool} (h:LB w q p K R v ov) {base:Nat} {e:TypeId} {size:Nat} {v2:Value} {n:Nat} {xs:List Value} (ho:w.ownsRow base e size v2 n xs) (he:e ≠ 105) {k:Nat} (hk:v2.ownBlock=some k):k ≠ q:=fun e'=>by
  subst e'
  obtain ⟨c1,h1⟩:=own_tag ho hk
  unfold LB at h
  rw [h1] at h;injection h with h;injection h with _ h;exact he h
/-- A segment's rows stay where the blocks of rows of bytes, and of bytes, do. -/
theorem SgAt.keep {w w':World} {T T':Nat→Prop} {r:SgR} (h:SgAt w T r) (hb:∀ k cur,(w.heap[k]?=some (.cells cur 38)∨w.heap[k]?=some (.cells cur 5))→T k→w'.heap[k]?=w.heap[k]?) (ht:∀ k,T k→T' k):SgAt w' T' r :=
  ⟨own_stays h.own fun k hk=>by obtain ⟨cur,hc⟩:=own_tag h.own hk;exact hb k cur (.inl hc) (h.blk k hk),fun k hk=>ht k (h.blk k hk),
    fun x hx=>⟨own_stays (h.bod x hx).1 fun k hk=>by obtain ⟨cur,hc⟩:=own_tag (h.bod x hx).1 hk;exact hb k cur (.inr hc) ((h.bod x hx).2 k hk),fun k hk=>ht k ((h.bod x hx).2 k hk)⟩,h.num⟩
theorem flat_snoc (L:List SgR) (r:SgR):flatG SgR.l (L ++ [r])=flatG SgR.l L ++ [.int .u32 (r.n:Int),r.v]:=by rw [flatG_append,flatG_one];rfl
theorem heap_set_ne (w:World) (q i:Nat) (v:Value) {k:Nat} (h:k ≠ q):(w.setCell ⟨q,i,none⟩ v).heap[k]?=w.heap[k]?:=by
  have:¬ q=k:=fun e=>h e.symm
  simp [World.setCell,Array.getElem?_modify,this]
/-- What there is, with one segment more, stored. -/
theorem LgB.next {w w7 w8 : World} {T : Nat → Prop} {p q : Nat} {g : LgM} {a : Option Addr} {c : Nat} {L : List SgR} (h : LgB w T p q g a c L) {B k g8 c8 : Nat} (r : SgR) (hk : k = L.length) (hT : ∀ k, T k → k < B) (_hB : B ≤ w.heap.size) (hb7 : Below w.heap.size w w7)
    (hown8:w8.ownsRow 0 115 2 (.slice (some ⟨g8,0,none⟩) (k+1) c8) (k+1) (flatG SgR.l L ++ [.int .u32 (r.n:Int),r.v])) (hg8:w7.grownBy w8 (Value.slice a k c).ownBlock) (hnew:(Value.slice a k c).ownBlock=some g8∨B≤g8) (hlt:g8 < w8.heap.size)
    (ho:w.ownsRow B 38 1 r.v r.xs.length (r.xs.map Bod.v)) (hbod:∀ x ∈ r.xs,BodAt B x w) (hN:r.n < 4294967296) (hroom:L.length < g.room) (hsm:r.xs.length≤g.keep) :
    LgB (w8.setCell ⟨q,3,none⟩ (.slice (some ⟨g8,0,none⟩) (k+1) c8)) (fun j=>T j∨(B≤j∧j < (w8.setCell ⟨q,3,none⟩ (.slice (some ⟨g8,0,none⟩) (k+1) c8)).heap.size)) p q { g with segs:=g.segs ++ [r.m] } (some ⟨g8,0,none⟩) c8 (L ++ [r])∧Off T w (w8.setCell ⟨q,3,none⟩ (.slice (some ⟨g8,0,none⟩) (k+1) c8)):=by
  subst hk
  have hS9:(w8.setCell ⟨q,3,none⟩ (.slice (some ⟨g8,0,none⟩) (L.length+1) c8)).heap.size=w8.heap.size:=World.size_setCell _ _ _
  rw [hS9]
  have hrows:=h.rows
  have hqb:some q ≠ (Value.slice a L.length c).ownBlock:=fun e=>h.box.ne hrows.own (by decide) e.symm rfl
  have hq7:q < w7.heap.size:=Nat.lt_of_lt_of_le h.box.lt hb7.size
  have box8:LB w8 q p g.keep g.room (.slice a L.length c) g.over:=(h.box.below hb7 h.box.lt).grown hg8 hqb
  have hs8:w.heap.size≤w8.heap.size:=Nat.le_trans hb7.size hg8.size
  have hg8q:g8 ≠ q:=box8.ne hown8 (by decide) rfl
  have keep:∀ j (cur:Array Value),(w.heap[j]?=some (Obj.cells cur 38)∨w.heap[j]?=some (Obj.cells cur 5))→w8.heap[j]?=w.heap[j]?:=fun j cur hj=>by
    have hjl:j < w.heap.size:=by
      rcases hj with hj | hj <;> exact (Array.getElem?_eq_some_iff.1 hj).1
    rw [hg8.block j (Nat.lt_of_lt_of_le hjl hb7.size) fun e=>?_,hb7.block j hjl]
    obtain ⟨c1,h1⟩:=own_tag hrows.own e.symm
    rcases hj with hj | hj
    · rw [h1] at hj;simp at hj
    · rw [h1] at hj;simp at hj
  have keep9:∀ j (cur:Array Value),(w.heap[j]?=some (Obj.cells cur 38)∨w.heap[j]?=some (Obj.cells cur 5))→(w8.setCell ⟨q,3,none⟩ (.slice (some ⟨g8,0,none⟩) (L.length+1) c8)).heap[j]?=w.heap[j]?:=fun j cur hj=>by
    rw [heap_set_ne]
    · exact keep j cur hj
    · intro e
      subst e
      have hb:=h.box
      unfold LB at hb
      rcases hj with hj | hj
      · rw [hb] at hj;simp at hj
      · rw [hb] at hj;simp at hj
  have hlen:(L ++ [r]).length=L.length+1:=by simp
  have hv:∀ j,r.v.ownBlock=some j→B≤j∧j < w.heap.size:=fun j hj=>⟨(own_shape ho hj).1,(own_shape ho hj).2.1⟩
  refine ⟨⟨?_,.inl h.tq,fun j hj=>?_,⟨?_,?_,?_,?_⟩,?_,h.k1,h.r1,?_,?_⟩,?_⟩
  · rw [hlen];exact box8.set3 _
  · rw [hS9]
    rcases hj with hj | hj
    · exact Nat.lt_of_lt_of_le (h.low j hj) hs8
    · exact hj.2
  · rw [hlen,flat_snoc]
    exact own_stays hown8 fun j hj=>heap_set_ne _ _ _ _ fun e=>by
      have:g8=j:=by simpa [Value.ownBlock] using hj
      exact hg8q (this.trans e)
  · intro j hj
    have hj:g8=j:=by simpa [Value.ownBlock] using hj
    subst hj
    rcases hnew with hnew | hnew
    · exact ⟨.inl (hrows.blk _ hnew).1,hg8q⟩
    · exact ⟨.inr ⟨hnew,hlt⟩,hg8q⟩
  · intro s hs
    rcases List.mem_append.1 hs with hs | hs
    · exact (hrows.rows s hs).keep (fun j cur hj _=>keep9 j cur hj) fun j hj=>⟨.inl hj.1,hj.2⟩
    · have hs:s=r:=by simpa using hs
      subst hs
      have hBq:∀ j,B≤j→j ≠ q:=fun j hj e=>by have:=hT q h.tq;omega
      refine ⟨own_base (own_stays ho fun j hj=>?_) (Nat.zero_le _),fun j hj=>⟨.inr ⟨(hv j hj).1,Nat.lt_of_lt_of_le (hv j hj).2 hs8⟩,hBq j (hv j hj).1⟩,fun x hx=>⟨own_base (own_stays (hbod x hx) fun j hj=>?_) (Nat.zero_le _),fun j hj=>?_⟩,hN⟩
      · obtain ⟨cur,hc⟩:=own_tag ho hj;exact keep9 j cur (.inl hc)
      · obtain ⟨cur,hc⟩:=own_tag (hbod x hx) hj;exact keep9 j cur (.inr hc)
      · have:=own_shape (hbod x hx) hj
        exact ⟨.inr ⟨this.1,Nat.lt_of_lt_of_le this.2.1 hs8⟩,hBq j this.1⟩
  · rw [List.pairwise_append]
    refine ⟨hrows.apart,by simp,fun s hs t ht=>?_⟩
    have ht:t=r:=by simpa using ht
    subst ht
    unfold Apart
    cases hsb:s.v.ownBlock with
    | none=>exact .inl rfl
    | some j =>
      cases htb:t.v.ownBlock with
      | none=>exact .inr (.inl rfl)
      | some i =>
        refine .inr (.inr fun e=>?_)
        injection e with e
        subst e
        have h1:=hT j ((hrows.rows s hs).blk j hsb).1
        have h2:=(hv j htb).1
        omega
  · show g.segs ++ [r.m]=_;rw [h.segs,List.map_append];rfl
  · rw [hlen];exact hroom
  · intro s hs
    rcases List.mem_append.1 hs with hs | hs
    · exact h.small s hs
    · have hs:s=r:=by simpa using hs
      subst hs;exact hsm
  · refine (Off.andThen (S:=T) (S2:=T) (w1:=w8) ⟨?_,?_,?_,hs8,fun j hj hn=>?_⟩ ((set_off1 w8 q 3 _).more fun j e=>by subst e;exact h.tq) fun j hj=>.inl hj)
    · exact hg8.os.trans hb7.os
    · exact hg8.tape.trans hb7.tape
    · exact hg8.output.trans hb7.output
    · rw [hg8.block j (Nat.lt_of_lt_of_le hj hb7.size) fun e=>hn (hrows.blk j e.symm).1,hb7.block j hj]
set_option maxRecDepth 20000 in
set_option maxHeartbeats 2000000 in
theorem take_any (w:World) (T:Nat→Prop) (p q:Nat) (g:LgM) (a:Option Addr) (c:Nat) (L:List SgR) (hL:LgB w T p q g a c L) (B N K2:Nat) (va:Option Addr) (vc:Nat) (xs:List Bod) (n:Nat) (hn:n=xs.length) (gd:Int) (bo:Bool) (hT:∀ k,T k→k < B) (hB:B≤w.heap.size)
    (ho:w.ownsRow B 38 1 (.slice va n vc) n (xs.map Bod.v)) (hbod:∀ x ∈ xs,BodAt B x w) (hN:N < 4294967296) (hroom:L.length < g.room) (hsm:xs.length≤g.keep) :
    Calls Tryz.prog 100 #[.pointer (some ⟨q,0,none⟩),.agg #[.int .u32 (N:Int),.int .i64 (K2:Int),.slice va n vc,.int .i64 gd,.bool bo]] w fun e w'=>e=.returned (.tuple #[]) ∧
      (∃ a' c',LgB w' (fun k=>T k∨(B≤k∧k < w'.heap.size)) p q { g with segs:=g.segs ++ [⟨N,xs.map Bod.b⟩] } a' c' (L ++ [⟨N,va,vc,xs⟩]))∧Off T w w':=by
  obtain ⟨i0,hi0,hz0,hz1,hz2⟩:=info_parts info_seg
  have HZ2:=Lib.hid hz2;clear hz2
  have HL:=Lib.hid hL;have HN:=Lib.hid hn;have HT:=Lib.hid hT;have HO:=Lib.hid ho;have HBD:=Lib.hid hbod;have HROOM:=Lib.hid hroom;have HSM:=Lib.hid hsm;have HR1:=Lib.hid hL.r1;have HNN:=Lib.hid hN
  clear hL hn hT ho hbod hroom hsm
  obtain ⟨k,hk⟩:∃ k,k=L.length:=⟨_,rfl⟩
  have HK:=Lib.hid hk
  have hk32:k≤32:=by have:=HROOM.out;have:=HR1.out;omega
  have hcm:=HL.out.rows.cm
  rw [← hk] at hcm
  obtain ⟨w7,hw7⟩:∃ w7,w7=w.alloc (.cells #[.int .u32 (N:Int),.int .i64 (K2:Int),.slice va n vc,.int .i64 gd,.bool bo] 163):=⟨_,rfl⟩
  have HB7:Hid (Below w.heap.size w w7):=by show Below _ _ _;rw [hw7];exact box1 _ _
  have hs7:w7.heap.size=w.heap.size+1:=by rw [hw7];simp
  have HS7:=Lib.hid hs7
  have HBOX7:=Lib.hid (HL.out.box.below HB7.out HL.out.box.lt)
  have X7:=HBOX7.out
  have d3:=X7.c3
  rw [← hk] at d3
  have d3a:∀ o:Obj,(w7.alloc o).cell? ⟨q,3,none⟩=some (.slice a k c):=fun o=>((box1 w7 o).cell (p:=⟨q,3,none⟩) X7.lt).trans d3
  have s0:w7.cell? ⟨w.heap.size,0,none⟩=some (.int .u32 (N:Int)):=by rw [hw7];exact box_cell w _ _ rfl
  have s2:w7.cell? ⟨w.heap.size,2,none⟩=some (.slice va n vc):=by rw [hw7];exact box_cell w _ _ rfl
  have HO7:Hid (w7.drew.ownsRow 0 115 2 (.slice a k c) k (flatG SgR.l L)):=by
    show World.ownsRow _ _ _ _ _ _ _
    rw [hk];exact own_below (own_below HL.out.rows.own HB7.out) (Below_drew (Below.refl _ _))
  clear hk X7 hcm hs7
  go_enter Tryz.func100,Tryz.ntmps100
  go_wp2_with fail
  rw [← hw7]
  clear hw7
  go_region_law
    ((refine step_append_lies _ (by rfl) (.tmp 8) (.tmp 14) 103 (by rfl) 0 115 i0 _ 2 32 Tryz.underlying103 hi0 hz0 hz1 HZ2.out rfl (by omega) (.slice a k c) k _ (by rfl) (HO7.out.alloc (.cells #[.int .u32 (N:Int),.slice va n vc] 115)) ⟨w7.heap.size,0,none⟩ 1 1 [.int .u32 (N:Int),.slice va n vc] (by rfl) rfl (lit_cells w7.drew #[.int .u32 (N:Int),.slice va n vc] _) (by simp [Value.oneCell']) (by omega) (by unfold maxLen;omega) (by omega) (by omega) (w7.heap.size+1) (by simp) ?_
      intro g8 c8 w8 hown8 hg8 hnew hlt8
      have hne8:some q ≠ (Value.slice a k c).ownBlock:=fun e=>HBOX7.out.ne HO7.out (by decide) e.symm rfl
      have X8:LB w8 q p g.keep g.room (.slice a L.length c) g.over:=LB.grown (LB.below HBOX7.out ((Below_drew (Below.refl w7.heap.size w7)).alloc (Nat.le_refl _) _) HBOX7.out.lt) hg8 hne8
      have c8':=X8.c3
      have f8':=X8.fz 3))
  all_goals
    have HX8:=Lib.hid hown8;have HG8:=Lib.hid hg8;have HNEW:=Lib.hid hnew;have HLT8:=Lib.hid hlt8
    clear hown8 hg8 hnew hlt8 X8 c8' f8' hne8 s0 s2 d3 d3a
    go_wp2_with fail
    go_end0
    have hfin:=LgB.next (w7:=w7.drew.alloc (.cells #[.int .u32 (N:Int),.slice va n vc] 115)) (w8:=w8) HL.out (B:=B) (k:=k) (g8:=g8) (c8:=c8) ⟨N,va,vc,xs⟩ HK.out HT.out hB ((Below_drew HB7.out).alloc (by have:=HB7.out.size;simpa using this) _)
      (by show World.ownsRow _ _ _ _ _ _ (_ ++ [_,.slice va xs.length vc]);rw [← HN.out];exact HX8.out) HG8.out (HNEW.out.imp id fun e=>by have:=HS7.out;omega) HLT8.out (by show World.ownsRow _ _ _ _ (.slice va xs.length vc) _ _;rw [← HN.out];exact HO.out) HBD.out HNN.out HROOM.out HSM.out
    exact ⟨rfl,⟨_,_,hfin.1⟩,hfin.2⟩
end Go.Proofs.YtccbpngehedbaaaGreat

namespace Go.Proofs.YtccbpngehedbaaaGreat
open Go Go.RowKit Go.Sort

/-! The landed log: makeSafe, takeWhole. -/
theorem DoOut.after {F:FsKit} {w w1 w':World} {S R S1 R1 S' R' T:Nat→Prop} {p q:Nat} {g:LgM} {a:Option Addr} {c:Nat} {L:List SgR} {r:FSm × Int} {e:Ending} (h0:Did S R S1 R1 w w1) (h:DoOut F w1 S1 R1 T p q g a c L r e w' S' R'):DoOut F w S R T p q g a c L r e w' S' R':=by
  have hs:=h0.off.size
  refine ⟨h.e,h.fs,h.log,h.dis,fun k hk=>?_,fun k hk=>?_,(h0.off.more fun _ h=>.inl h).andThen h.off fun k hk=>?_⟩
  · rcases h.s k hk with e | e
    · exact h0.s k e
    · exact .inr (by omega)
  · rcases h.r k hk with e | e | e
    · exact h0.r k e
    · exact .inr (h0.s k e)
    · exact .inr (.inr (by omega))
  · rcases hk with e | e
    · rcases h0.s k e with e | e
      · exact .inl (.inl e)
      · exact .inr e
    · exact .inl (.inr e)
theorem DoOut.of_did {F:FsKit} {w w':World} {S R S' R' T:Nat→Prop} {p q:Nat} {m:FSm} {g:LgM} {a:Option Addr} {c:Nat} {L:List SgR} (hF:F.Fs w' S' R' p m) (hL:LgB w T p q g a c L) (hd:Dis T S R) (h0:Did S R S' R' w w'):DoOut F w S R T p q g a c L (m,0) (.returned (.int .i64 0)) w' S' R':=by
  obtain ⟨h1,h2⟩:=hL.did hd h0
  exact ⟨rfl,hF,by simpa using h1,h2,h0.s,h0.r,h0.off.more fun _ h=>.inl h⟩
/-- Behind what lays new blocks alone. -/
theorem Did.of_below {S R:Nat→Prop} {w w':World} (h:Below w.heap.size w w'):Did S R S R w w':=Did.after h (Did.refl _ _ _)
theorem by_le {m:FSm} (h:Bnd m) (n:Nat):(byF m n).length≤1000000000:=by
  unfold byF readF
  rw [data_length]
  split
  · exact (get_sz h.2 n).1
  · exact Nat.zero_le _
theorem NewBytes.rdb {w w':World} {S R:Nat→Prop} {a:Option Addr} {l:List UInt8} (h:NewBytes w w' S R a l):Rd w' w'.heap.size a (bV l):=fun h0=>by
  obtain ⟨g,off,ha,_,hg,_,_,hr,_⟩:=h (by rwa [bV_length] at h0)
  exact ⟨g,off,ha,hg,hr⟩
theorem rdn_lit (w:World) (cs:Array Value) (t:TypeId) {S:Nat→Prop} (hS:∀ k,S k→k < w.heap.size):RdN S (w.alloc (.cells cs t)) (some ⟨w.heap.size,0,none⟩) cs.toList:=fun h0=>by
  obtain ⟨b,off,ha,hb,hc⟩:=lit_rd w cs t h0
  have hbw:b=w.heap.size:=by injection ha with e;injection e with e;exact e.symm
  exact ⟨b,off,ha,by simp;omega,fun hs=>by have:=hS b hs;omega,hc⟩
def safeF (m:FSm) (n:Nat):FSm × Int:=if n ∈ numsF true m.files then syncF m n else (m,0)
set_option maxRecDepth 20000 in
set_option maxHeartbeats 2000000 in
theorem makeSafe_any (F : FsKit) (w : World) (S R T : Nat → Prop) (p q n : Nat) (m : FSm) (g : LgM) (a : Option Addr) (c : Nat) (L : List SgR) (k : Nat) (hF : F.Fs w S R p m) (hL : LgB w T p q g a c L) (hd : Dis T S R) (hk : Lim k m) (hk2 : k ≤ 9800) (hn : n < 4294967296) :
    Calls Tryz.prog 75 #[.pointer (some ⟨q,0,none⟩),.int .u32 (n:Int)] w fun e w'=>∃ S' R',DoOut F w S R T p q g a c L (safeF m n) e w' S' R':=by
  have HF:=Lib.hid hF;have HL:=Lib.hid hL;have HD:=Lib.hid hd;have HK:=Lib.hid hk;have HB:=Lib.hid (hk.bnd (by omega))
  have c0:=hL.box.c0
  clear hF hL hd hk
  go_enter Tryz.func75,Tryz.ntmps75
  go_wp2_with fail
  refine (F.unsafe_ w S R p m HF.out HB.out).mono ?_
  rintro e w1 ⟨S1,R1,ua,uc,rfl,hu1,hu2,hur,hF1,hd1⟩
  have HF1:=Lib.hid hF1;have HD1:=Lib.hid hd1;have HUR:=Lib.hid hur;have HU1:=Lib.hid hu1;have HU2:=Lib.hid hu2
  have hul:(numsF true m.files).length≤1000000000:=Nat.le_trans (numsF_le _ _) (Nat.le_trans HB.out.1 (by omega))
  obtain ⟨un,hun⟩:∃ un,un=(numsF true m.files).length:=⟨_,rfl⟩
  have HUN:=Lib.hid hun
  rw [← hun] at hul ⊢
  clear hF1 hd1 hur hu1 hu2 hun
  by_cases hin:n ∈ numsF true m.files
  · have HIN:=Lib.hid (decide_eq_true hin)
    have HE:Hid (safeF m n=syncF m n):=by show _=_;unfold safeF;rw [if_pos hin]
    clear hin
    go_wp2_with fail
    refine (contains_is ua un uc n (numsF true m.files) true w1 HUN.out HUR.out.rd hul HIN.out).mono ?_;rintro e w2 ⟨rfl,hb2⟩
    have HD2:=Lib.hid (HD1.out.trans (Did.of_below hb2));have HF2:=Lib.hid (F.below HF1.out hb2)
    clear hb2
    have hL2:=HL.out.did HD.out HD2.out
    have HL2:=Lib.hid hL2.1;have HDIS2:=Lib.hid hL2.2
    have c02:=hL2.1.box.c0
    clear hL2
    go_wp2_with fail
    have hb3:=box1 w2 (.cells #[.func (.func 65) #[.pointer (some ⟨p,0,none⟩)] #[]] 146)
    have hL3:=HL2.out.did HDIS2.out (Did.of_below hb3)
    refine (do_any F _ S1 R1 T (fun _=>False) p q n m g a c L k (some ⟨w2.heap.size,0,none⟩) 1 [meV 65 p] [fun m=>syncF m n] 1 (F.below HF2.out hb3) hL3.1 hL3.2 HK.out (by simp;omega)
      (rdn_lit w2 #[meV 65 p] _ (F.low HF2.out).1) rfl rfl (fun _ h=>h.elim) (fun i h h2=>?_)).mono ?_
    · have hi:i=0:=by simpa using h
      subst hi
      exact ok_sync F p n hn _ _
    · rintro e w4 ⟨S4,R4,h4⟩
      have H4:=Lib.hid ((h4.after (Did.of_below hb3)).after HD2.out)
      obtain ⟨e4,hr4⟩:∃ e4,e4=(runA [fun m=>syncF m n] m).2:=⟨_,rfl⟩
      have he:=h4.e
      have HR4:=Lib.hid hr4
      rw [← hr4] at he
      subst he
      clear h4 hr4 hL3 hb3
      go_wp2_with fail
      go_ret
      have hrun:runA [fun m=>syncF m n] m=syncF m n:=by
        show (if (syncF m n).2 ≠ 0 then syncF m n else ((syncF m n).1,0))=_
        split
        · rfl
        · rename_i h;exact Prod.ext rfl (by simpa using (Classical.not_not.1 h).symm)
      have h5:=H4.out
      rw [hrun] at h5
      refine ⟨S4,R4,?_⟩
      rw [HE.out]
      refine ⟨?_,h5.fs,h5.log,h5.dis,h5.s,h5.r,h5.off⟩
      rw [HR4.out,hrun];rfl
  · have HIN:=Lib.hid (decide_eq_false hin)
    have HE:Hid (safeF m n=(m,0)):=by show _=_;unfold safeF;rw [if_neg hin]
    clear hin
    go_wp2_with fail
    refine (contains_is ua un uc n (numsF true m.files) false w1 HUN.out HUR.out.rd hul HIN.out).mono ?_;rintro e w2 ⟨rfl,hb2⟩
    have HD2:=Lib.hid (HD1.out.trans (Did.of_below hb2));have HF2:=Lib.hid (F.below HF1.out hb2)
    clear hb2
    go_wp2_with fail
    go_ret
    refine ⟨S1,R1,?_⟩
    rw [HE.out]
    exact DoOut.of_did HF2.out HL.out HD.out HD2.out
end Go.Proofs.YtccbpngehedbaaaGreat

namespace Go.Proofs.YtccbpngehedbaaaGreat
open Go Go.RowKit Go.Sort

/-! The landed log: takeWhole. -/
theorem DidL.trans {S R T S1 R1 T1 S2 R2 T2:Nat→Prop} {w w1 w2:World} (h1:DidL S R T S1 R1 T1 w w1) (h2:DidL S1 R1 T1 S2 R2 T2 w1 w2):DidL S R T S2 R2 T2 w w2:=by
  have hs:=h1.off.size
  refine ⟨fun k hk=>?_,fun k hk=>?_,fun k hk=>?_,h2.dis,h1.off.andThen h2.off fun k hk=>?_⟩
  · rcases h2.s k hk with e | e
    · exact h1.s k e
    · exact .inr (by omega)
  · rcases h2.r k hk with e | e | e
    · exact h1.r k e
    · exact .inr (h1.s k e)
    · exact .inr (.inr (by omega))
  · rcases h2.t k hk with e | e
    · exact h1.t k e
    · exact .inr (by omega)
  · rcases hk with e | e
    · rcases h1.s k e with e | e
      · exact .inl (.inl e)
      · exact .inr e
    · rcases h1.t k e with e | e
      · exact .inl (.inr e)
      · exact .inr e
theorem DidL.of_did {S R T S1 R1:Nat→Prop} {w w1:World} (hlow:∀ k,T k→k < w.heap.size) (hd:Dis T S R) (h:Did S R S1 R1 w w1):DidL S R T S1 R1 T w w1 :=
  ⟨h.s,h.r,fun _ h=>.inl h,fun k hk=>⟨fun e=>by
    rcases h.s k e with e | e
    · exact (hd k hk).1 e
    · have:=hlow k hk;omega,fun e=>by
    rcases h.r k e with e | e | e
    · exact (hd k hk).2 e
    · exact (hd k hk).1 e
    · have:=hlow k hk;omega⟩,h.off.more fun _ h=>.inl h⟩
/-- What a call on the log leaves. -/
def LgO (F:FsKit) (w:World) (S R T:Nat→Prop) (p q:Nat) (m:FSm) (g:LgM) (w':World):Prop:=∃ S' R' T',F.Fs w' S' R' p m∧LgAt w' T' p q g∧DidL S R T S' R' T' w w'
theorem LgO.of_did {F:FsKit} {w w':World} {S R S' R' T:Nat→Prop} {p q:Nat} {m:FSm} {g:LgM} {a:Option Addr} {c:Nat} {L:List SgR} (hF:F.Fs w' S' R' p m) (hL:LgB w T p q g a c L) (hd:Dis T S R) (h0:Did S R S' R' w w'):LgO F w S R T p q m g w' :=
  ⟨S',R',T,hF,⟨a,c,L,(hL.did hd h0).1⟩,DidL.of_did hL.low hd h0⟩
theorem take_facts {F:FsKit} {w w1 w5 w':World} {S R S1 R1 T:Nat→Prop} {p q:Nat} {m:FSm} {g:LgM} {a:Option Addr} {c:Nat} {L:List SgR} (hL:LgB w T p q g a c L) (hd:Dis T S R) (h1:Did S R S1 R1 w w1) (hF1:F.Fs w1 S1 R1 p m) (hb5:Below w1.heap.size w1 w5) (ho:Off T w5 w') :
    F.Fs w' S1 R1 p m∧DidL S R T S1 R1 (fun k=>T k∨(w1.heap.size≤k∧k < w'.heap.size)) w w':=by
  obtain ⟨hlow1,hlow2⟩:=F.low hF1
  have hdis1:=(hL.did hd h1).2
  have hs1:=h1.off.size
  have hF5:=F.below hF1 hb5
  refine ⟨F.move hF5 ho.size fun k hk=>ho.block k (Nat.lt_of_lt_of_le (hk.elim (hlow1 k) (hlow2 k)) hb5.size) fun ht=>hk.elim (hdis1 k ht).1 (hdis1 k ht).2,h1.s,h1.r,fun k hk=>?_,fun k hk=>?_,?_⟩
  · rcases hk with hk | hk
    · exact .inl hk
    · exact .inr (by omega)
  · rcases hk with hk | hk
    · exact hdis1 k hk
    · exact ⟨fun e=>by have:=hlow1 k e;omega,fun e=>by have:=hlow2 k e;omega⟩
  · have o1:Off (fun k=>S k∨T k) w w5:=((h1.trans (Did.of_below hb5)).off).more fun _ h=>.inl h
    exact o1.andThen ho fun k hk=>.inl (.inr hk)
/-- Behind take, what is known of the files and the log. -/
theorem LgO.of_take {F:FsKit} {w w1 w5 w':World} {S R S1 R1 T:Nat→Prop} {p q:Nat} {m:FSm} {g g':LgM} {a a':Option Addr} {c c':Nat} {L L':List SgR} (hL:LgB w T p q g a c L) (hd:Dis T S R) (h1:Did S R S1 R1 w w1) (hF1:F.Fs w1 S1 R1 p m) (hb5:Below w1.heap.size w1 w5)
    (hL':LgB w' (fun k=>T k∨(w1.heap.size≤k∧k < w'.heap.size)) p q g' a' c' L') (ho:Off T w5 w'):LgO F w S R T p q m g' w':=by
  obtain ⟨h2,h3⟩:=take_facts hL hd h1 hF1 hb5 ho
  exact ⟨S1,R1,_,h2,⟨a',c',L',hL'⟩,h3⟩
set_option maxRecDepth 20000 in
set_option maxHeartbeats 4000000 in
theorem takeWhole_any (F : FsKit) (w : World) (S R T : Nat → Prop) (p q n : Nat) (m : FSm) (g : LgM) (a : Option Addr) (c : Nat) (L : List SgR) (hF : F.Fs w S R p m) (hL : LgB w T p q g a c L) (hd : Dis T S R) (hb : Bnd m) (hn : n < 4294967296) (hroom : L.length < g.room) (r : Bool) (hr : wholeF m g.keep n = r) (g' : LgM) (hg' : (if r = true then { g with segs := g.segs ++ [sgOf m g.keep n] } else g) = g') :
    Calls Tryz.prog 74 #[.pointer (some ⟨q,0,none⟩),.int .u32 (n:Int)] w fun e w'=>e=.returned (.bool r)∧LgO F w S R T p q m g' w':=by
  have HRES:=Lib.hid hr;have HGN:=Lib.hid hg'
  clear hr hg'
  have HF:=Lib.hid hF;have HL:=Lib.hid hL;have HD:=Lib.hid hd;have HB:=Lib.hid hb;have HROOM:=Lib.hid hroom;have HK1:=Lib.hid hL.k1
  have c0:=hL.box.c0
  have hbl:=by_le hb n
  clear hF hL hd hb hroom
  go_enter Tryz.func74,Tryz.ntmps74
  go_wp2_with fail
  refine (F.read w S R p m n HF.out HB.out hn).mono ?_
  rintro e w1 ⟨S1,R1,ra,rc,rfl,hr1,hr2,hnb,hF1,hd1⟩
  obtain ⟨b,hbe⟩:∃ b,b=byF m n:=⟨_,rfl⟩
  have HBE:=Lib.hid hbe
  have hsz:(readF m n).1.size=b.length:=by rw [hbe];unfold byF;rw [data_length]
  have hrb:Rd w1 w1.heap.size ra (bV b):=by rw [hbe];exact hnb.rdb
  rw [hsz] at hr1 ⊢
  rw [← hbe] at hbl
  have HF1:=Lib.hid hF1;have HD1:=Lib.hid hd1;have HR1:=Lib.hid hr1;have HR2:=Lib.hid hr2;have HRB:=Lib.hid hrb
  have HW:Hid (wholeF m g.keep n=(headIs b n g.keep && (decide ((segB b g.keep).length=g.keep) && decide (goodOf b g.keep=b.length)))):=by show _=_;unfold wholeF;rw [hbe]
  have HSG:Hid (sgOf m g.keep n=⟨n,segB b g.keep⟩):=by show _=_;unfold sgOf;rw [hbe]
  obtain ⟨bl,hble⟩:∃ bl,bl=b.length:=⟨_,rfl⟩
  have HBL:=Lib.hid hble
  rw [← hble] at hbl ⊢
  clear hF1 hd1 hr1 hr2 hrb hnb hsz hbe hble
  have hseg1:=read_any ra rc b w1 HRB.out (by have:=HBL.out;omega) HR1.out HR2.out
  rw [← HBL.out] at hseg1
  have HSEG1:=Lib.hid hseg1
  clear hseg1
  go_wp2_with fail
  refine HSEG1.out.mono ?_
  rintro e w2 ⟨hb2,(⟨n',hh,rfl⟩ | ⟨N,K,v,xs,hh,rfl,ho,hbod,hseg⟩)⟩
  · have HB2:=Lib.hid hb2
    have hn0:((n':Int) != 0)=true:=by have:=headOf_err hh;simp;omega
    have HE:Hid (wholeF m g.keep n=false):=by show _=_;rw [HW.out];unfold headIs;rw [hh];rfl
    unfold sgV
    clear hb2 hh
    go_wp2_with fail
    go_ret
    have hrf:=HRES.out
    rw [HE.out] at hrf
    subst hrf
    have hgf:=HGN.out
    simp only [Bool.false_eq_true,if_false] at hgf
    subst hgf
    refine ⟨rfl,?_⟩
    exact LgO.of_did (F.below HF1.out ((HB2.out).alloc HB2.out.size _)) HL.out HD.out (HD1.out.trans (Did.of_below (HB2.out.alloc HB2.out.size _)))
  · have HB2:=Lib.hid hb2;have HH:=Lib.hid hh;have HO:=Lib.hid ho;have HBD:=Lib.hid hbod;have HSG2:=Lib.hid hseg
    obtain ⟨va,vc,rfl,_,_,_⟩:=own_slice ho
    obtain ⟨hN32,hK1,hK16,h14⟩:=headOf_range hh
    obtain ⟨G,hG⟩:∃ G,G=goodOf b K:=⟨_,rfl⟩
    have hgl:G≤bl:=by rw [hG,HBL.out];exact good_le h14
    have HG:=Lib.hid hG
    rw [good_end,← hG]
    obtain ⟨xn,hxn⟩:∃ xn,xn=xs.length:=⟨_,rfl⟩
    have HXN:=Lib.hid hxn
    have hxl:(segB b K).length=xn:=by rw [← hseg,List.length_map,hxn]
    rw [hxl,← hxn]
    have HXL:=Lib.hid hxl
    unfold sgV
    clear hb2 hh ho hbod hseg hG hxn hxl h14
    obtain ⟨se,hse⟩:∃ se,decide (xn=K)=se:=⟨_,rfl⟩
    have HSE:=Lib.hid hse
    rw [hse]
    clear hse
    obtain ⟨ou,hou⟩:∃ ou,(decide (N=n) && decide (K=g.keep))=ou:=⟨_,rfl⟩
    have HOU:=Lib.hid hou
    clear hou
    have HHI:Hid (headIs b n g.keep=ou):=by show _=_;unfold headIs;rw [HH.out];exact HOU.out
    have HB3:=Lib.hid (HB2.out.alloc HB2.out.size (.cells #[.int .u32 (N:Int),.int .i64 (K:Int),.slice va xn vc,.int .i64 (G:Int),.bool se] 163))
    have hL3:=HL.out.did HD.out (HD1.out.trans (Did.of_below HB3.out))
    have HL3:=Lib.hid hL3.1
    clear hL3
    obtain ⟨w3,hw3⟩:∃ w3,w3=w2.alloc (.cells #[.int .u32 (N:Int),.int .i64 (K:Int),.slice va xn vc,.int .i64 (G:Int),.bool se] 163):=⟨_,rfl⟩
    rw [← hw3] at HB3 HL3
    have hs3:w2.heap.size < w3.heap.size:=by rw [hw3];simp
    have HRG3:Hid (w3.rangeAt w2.heap.size 0 [.int .u32 (N:Int),.int .i64 (K:Int),.slice va xn vc,.int .i64 (G:Int),.bool se]):=by show World.rangeAt _ _ _ _;rw [hw3];exact rangeAt_last w2 _ _ _ rfl
    have HS3:=Lib.hid hs3
    have HB23:Hid (Below w2.heap.size w2 w3):=by show Below _ _ _;rw [hw3];exact box1 _ _
    cases ou
    · go_wp2_with fail
      rw [← hw3]
      refine (isOurs_is w3 HL3.out.box N K n xn vc va G se false HOU.out).mono ?_;rintro e w4 ⟨rfl,hb4⟩
      have HB4:=Lib.hid (HB3.out.trans (hb4.mono HB3.out.size))
      clear hb4 hw3
      go_wp2_with fail
      go_ret
      have hrf:=HRES.out
      rw [HW.out,HHI.out,Bool.false_and] at hrf
      subst hrf
      have hgf:=HGN.out
      simp only [Bool.false_eq_true,if_false] at hgf
      subst hgf
      refine ⟨rfl,?_⟩
      exact LgO.of_did (F.below HF1.out HB4.out) HL.out HD.out (HD1.out.trans (Did.of_below HB4.out))
    · have HNK:Hid (N=n∧K=g.keep):=by show _∧_;have:=HOU.out;simpa using this
      have HR3:Hid (r=(se && decide (G=bl))):=by
        show _=_
        rw [← HRES.out,HW.out,HHI.out,Bool.true_and,← HNK.out.2,HXL.out,HSE.out,← HG.out,← HBL.out]
      cases se
      · go_wp2_with fail
        rw [← hw3]
        refine (isOurs_is w3 HL3.out.box N K n xn vc va G false true HOU.out).mono ?_;rintro e w4 ⟨rfl,hb4⟩
        have HB4:=Lib.hid (HB3.out.trans (hb4.mono HB3.out.size))
        have hr4:=range_below HRG3.out hb4 HS3.out 4 (.bool false) rfl
        rw [Nat.zero_add] at hr4
        clear hb4 hw3
        go_wp2_with fail
        go_ret
        have hrf:=HR3.out
        rw [Bool.false_and] at hrf
        subst hrf
        have hgf:=HGN.out
        simp only [Bool.false_eq_true,if_false] at hgf
        subst hgf
        refine ⟨rfl,?_⟩
        exact LgO.of_did (F.below HF1.out HB4.out) HL.out HD.out (HD1.out.trans (Did.of_below HB4.out))
      · by_cases hgb:G=bl
        · have e1:((G:Int) != (bl:Int))=false:=by simp;omega
          have HGB:=Lib.hid hgb
          clear hgb
          go_wp2_with fail
          rw [← hw3]
          refine (isOurs_is w3 HL3.out.box N K n xn vc va G true true HOU.out).mono ?_;rintro e w4 ⟨rfl,hb4⟩
          have HB4:=Lib.hid (HB3.out.trans (hb4.mono HB3.out.size))
          have HB24:=Lib.hid (HB23.out.trans (hb4.mono HB23.out.size))
          have hrg4:=range_below HRG3.out hb4 HS3.out
          have HRG4:=Lib.hid hrg4
          have hr3:=hrg4 3 (.int .i64 (G:Int)) rfl
          have hr4:=hrg4 4 (.bool true) rfl
          rw [Nat.zero_add] at hr3 hr4
          have HL4:=Lib.hid (HL.out.did HD.out (HD1.out.trans (Did.of_below HB4.out))).1
          have hr0:=hrg4 0 (.int .u32 (N:Int)) rfl
          have hr1:=hrg4 1 (.int .i64 (K:Int)) rfl
          have hr2:=hrg4 2 (.slice va xn vc) rfl
          rw [Nat.zero_add] at hr0 hr1 hr2
          clear hb4 hw3 hrg4
          go_wp2_with fail
          have hbase:w1.heap.size≤w4.heap.size:=Nat.le_trans HB2.out.size HB24.out.size
          refine (take_any w4 T p q g a c L HL4.out w1.heap.size N K va vc xs xn HXN.out G true (fun k hk=>Nat.lt_of_lt_of_le (HL.out.low k hk) HD1.out.off.size) hbase
            (by rw [HXN.out];exact own_below HO.out HB24.out) (fun x hx=>(HBD.out x hx).below HB24.out) hN32 HROOM.out (by have h1:=seg_few b K;have h2:=HXL.out;have h3:=HXN.out;have h4:=HNK.out.2;omega)).mono ?_
          rintro e w5 ⟨rfl,⟨a5,c5,hL5⟩,ho5⟩
          have HL5:=Lib.hid hL5;have HO5:=Lib.hid ho5
          clear hL5 ho5
          go_wp2_with fail
          go_ret
          have hrf:=HR3.out
          rw [decide_eq_true HGB.out] at hrf
          subst hrf
          have hgf:=HGN.out
          simp only [Bool.and_self,if_true] at hgf
          subst hgf
          refine ⟨rfl,?_⟩
          have hfin:=LgO.of_take HL.out HD.out HD1.out HF1.out HB4.out HL5.out HO5.out
          rw [HSG.out]
          have e2:(⟨N,xs.map Bod.b⟩:SgM)=⟨n,segB b g.keep⟩:=by rw [HSG2.out,HNK.out.1,HNK.out.2]
          rw [e2] at hfin
          exact hfin
        · have e1:((G:Int) != (bl:Int))=true:=by simp;omega
          have HGB:=Lib.hid hgb
          clear hgb
          go_wp2_with fail
          rw [← hw3]
          refine (isOurs_is w3 HL3.out.box N K n xn vc va G true true HOU.out).mono ?_;rintro e w4 ⟨rfl,hb4⟩
          have HB4:=Lib.hid (HB3.out.trans (hb4.mono HB3.out.size))
          have hrg4:=range_below HRG3.out hb4 HS3.out
          have hr3:=hrg4 3 (.int .i64 (G:Int)) rfl
          have hr4:=hrg4 4 (.bool true) rfl
          rw [Nat.zero_add] at hr3 hr4
          clear hb4 hw3 hrg4
          go_wp2_with fail
          go_ret
          have hrf:=HR3.out
          rw [decide_eq_false HGB.out] at hrf
          subst hrf
          have hgf:=HGN.out
          simp only [Bool.and_false,Bool.false_eq_true,if_false] at hgf
          subst hgf
          refine ⟨rfl,?_⟩
          exact LgO.of_did (F.below HF1.out HB4.out) HL.out HD.out (HD1.out.trans (Did.of_below HB4.out))
end Go.Proofs.YtccbpngehedbaaaGreat

