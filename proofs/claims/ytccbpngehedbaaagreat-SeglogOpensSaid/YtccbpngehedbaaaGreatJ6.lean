import Derived.Test.YtccbpngehedbaaaGreatJ5
import Derived.Test.YtccbpngehedbaaaGreatJ2
import Derived.Test.YtccbpngehedbaaaGreatJu
import Derived.Test.YtccbpngehedbaaaGreatJy
import Derived.Test.YtccbpngehedbaaaGreatJ3
namespace Go.Proofs.YtccbpngehedbaaaGreat
open Go Go.RowKit Go.Sort
set_option linter.unusedVariables false

/-! The document's log: Bodies. -/
theorem rs_l4:∀ x:RS,x.l.length=4:=fun _=>rfl
theorem sV_append (L M:List (List UInt8)):sV (L ++ M)=sV L ++ sV M:=by simp [sV]
theorem sV_one (L:List (List UInt8)):∀ u ∈ sV L,u.oneCell'=true:=fun u hu=>by
  unfold sV at hu
  obtain ⟨b,_,rfl⟩:=List.mem_map.1 hu
  rfl
def bodR (Ls:List RS):List (List UInt8):=Ls.flatMap RS.L
theorem bodR_take {Ls:List RS} {j:Nat} (h:j < Ls.length):bodR (Ls.take (j+1))=bodR (Ls.take j) ++ Ls[j].L:=by
  unfold bodR
  rw [List.take_succ_eq_append_getElem h,List.flatMap_append]
  simp
theorem bodR_len {Ls:List RS} (h:∀ x ∈ Ls,x.L.length≤1000) (j:Nat):(bodR (Ls.take j)).length≤j * 1000:=by
  induction j with
  | zero=>simp [bodR]
  | succ j ih =>
    rcases Nat.lt_or_ge j Ls.length with hj | hj
    · rw [bodR_take hj,List.length_append]
      have:=h _ (List.getElem_mem hj);omega
    · rw [List.take_of_length_le (show Ls.length≤j by omega)] at ih
      rw [List.take_of_length_le (show Ls.length≤j+1 by omega)]
      exact Nat.le_trans ih (Nat.mul_le_mul_right _ (Nat.le_succ j))
set_option maxRecDepth 20000 in
set_option maxHeartbeats 4000000 in
theorem bodiesR_any (fa : Option Addr) (fn fc : Nat) (fu : Int) (dn : Bool) (K M : Int) (sa : Option Addr) (sc n : Nat) (ov : Bool) (Ls : List RS) (w : World) (hn : n = Ls.length) (hsg : Rd w w.heap.size sa (flatG RS.l Ls)) (hat : ∀ x ∈ Ls, RsAt w x) (hl : Ls.length ≤ 1000) (hb : ∀ x ∈ Ls, x.L.length ≤ 1000) :
    Calls Tryz.prog 42 #[.agg (lgA fa fn fc fu dn K M sa n sc ov)] w fun e w'=>∃ a c,e=.returned (.slice a (bodR Ls).length c)∧(bodR Ls).length≤c∧c≤maxLen∧Rd w' w'.heap.size a (sV (bodR Ls))∧Below w.heap.size w w':=by
  unfold lgA
  have HN:=Lib.hid hn;have HSG:=Lib.hid hsg;have HAT:=Lib.hid hat;have HB:=Lib.hid hb
  rw [← hn] at hl
  clear hn hsg hat hb
  obtain ⟨i0,hi0,hz0,hz1,hz2⟩:=info_parts info_str
  have HZ2:=Lib.hid hz2;clear hz2
  obtain ⟨w2,hw2⟩:∃ w2,w2=(w.alloc (.cells #[.slice fa fn fc,.int .i64 fu,.bool dn,.int .i64 K,.int .i64 M,.slice sa n sc,.bool ov] 34)).alloc (.cells #[] 9):=⟨_,rfl⟩
  have HB2:Hid (Below w.heap.size w w2):=by show Below _ _ _;rw [hw2];exact (box1 _ _).alloc (by simp) _
  have HS2:Hid (w2.heap.size=w.heap.size+2):=by show _=_;rw [hw2];simp
  have HC2:Hid (RLB w2 w.heap.size fa fn fc fu dn K M sa n sc ov):=by
    show RLB _ _ _ _ _ _ _ _ _ _ _ _ _
    rw [hw2]
    exact ((box1 _ _).block _ (by simp)).trans (heap_alloc_new w _)
  have HO2:Hid (w2.ownsRow (w.heap.size+1) 9 1 (.slice (some ⟨w.heap.size+1,0,none⟩) 0 0) 0 []):=by
    show World.ownsRow _ _ _ _ _ _ _
    rw [hw2]
    refine own_nil ?_ (Nat.le_refl _)
    exact alloc2_new _ _ _

  go_enter Tryz.func42,Tryz.ntmps42
  go_upto_region 2 with fail
  rw [← hw2]
  clear hw2
  go_wp2_with fail
  go_loopw [3,4] (fun v i wr=>∃ j:Nat,j≤n∧i=.int .i64 (j:Int)∧wr.ownsRow (w.heap.size+1) 9 1 v (bodR (Ls.take j)).length (sV (bodR (Ls.take j)))∧RLB wr w.heap.size fa fn fc fu dn K M sa n sc ov∧w.heap.size+1≤wr.heap.size∧Below w.heap.size w wr) (fun _ i _=>n - (intOf i).toNat)
  case atStart=>exact ⟨0,Nat.zero_le _,rfl,HO2.out,HC2.out,by rw [HS2.out];omega,HB2.out⟩
  case round =>
    obtain ⟨j,hj,rfl,ho,hc,hs,hbel⟩:=hrel
    obtain ⟨va,vc,rfl,hv1,hv2,_⟩:=own_slice ho
    have HO:=Lib.hid ho;have HC:=Lib.hid hc;have HS:=Lib.hid hs;have HBE:=Lib.hid hbel
    have c5:=hc.cell 5 (u:=.slice sa n sc) rfl
    clear ho hc hs hbel
    by_cases hlt:j < n
    · have hjL:j < Ls.length:=by rw [← HN.out];exact hlt
      obtain ⟨b,off,hsa,hbl,hcell⟩:=Rd.elemG (enc:=RS.l) (m:=4) rs_l4 (by omega) (HSG.out.below HBE.out) hjL
      have HSA:=Lib.hid hsa
      subst hsa
      have q2:=hcell 2 (.slice Ls[j].a Ls[j].L.length Ls[j].c) rfl
      obtain ⟨x,hx⟩:∃ x,x=Ls[j]:=⟨_,rfl⟩
      rw [← hx] at q2
      have HXL:Hid (x.L.length≤1000):=by show _≤_;rw [hx];exact HB.out _ (List.getElem_mem hjL)
      have HXR:Hid (Rd wr wr.heap.size x.a (sV x.L)):=by
        have:=HAT.out x (by rw [hx];exact List.getElem_mem hjL)
        exact (this.below HBE.out).1
      have HTK:Hid (bodR (Ls.take (j+1))=bodR (Ls.take j) ++ x.L):=by show _=_;rw [hx];exact bodR_take hjL
      have HTL:=Lib.hid (bodR_len HB.out j)
      have HLT:=Lib.hid hlt
      have i1:(0:Int)≤(j:Int):=by omega
      have i2:(j:Int) < (n:Int):=by omega
      clear hcell hx hlt
      go_wp2_with (refine wpList_append_rd _ rfl (.tmp 13) (.tmp 19) 62 rfl (w.heap.size+1) 9 i0 _ 1 16 Tryz.underlying62 hi0 hz0 hz1 HZ2.out rfl (by omega) (.slice va (bodR (Ls.take j)).length vc) (bodR (Ls.take j)).length (sV (bodR (Ls.take j))) rfl HO.out _ x.a x.L.length x.c (sV x.L) rfl (by rw [sV_length,Nat.mul_one]) HXR.out (sV_one _) (by have:=HXL.out;have:=HTL.out;unfold maxLen;omega) (by have:=HXL.out;have:=HTL.out;omega) HS.out ?_)
      intro v9 w9 hown9 hg9 _
      have HO9:Hid (w9.ownsRow (w.heap.size+1) 9 1 v9 (bodR (Ls.take (j+1))).length (sV (bodR (Ls.take (j+1))))):=by
        show World.ownsRow _ _ _ _ _ _ _
        rw [HTK.out,List.length_append,sV_append];exact hown9
      have HB9:Hid (Below w.heap.size w w9):=Below.of_grown HBE.out hg9 HBE.out.size fun g e=>by have:=(own_shape HO.out e).1;omega
      have HC9:Hid (RLB w9 w.heap.size fa fn fc fu dn K M (some ⟨b,off,none⟩) n sc ov):=HC.out.grown hg9 (own_ne HO.out (.inr (by omega)))
      have HS9:Hid (w.heap.size+1≤w9.heap.size):=Nat.le_trans HS.out hg9.size
      clear hown9 hg9
      go_wp2_with fail
      go_roundw
      case rel=>exact ⟨j+1,HLT.out,by go_num,HO9.out,HC9.out,HS9.out,HB9.out⟩
      case measure=>have:=HLT.out;simp [intOf];omega
    · have hjn:j=n:=by omega
      have hi2:¬ (j:Int) < (n:Int):=by omega
      have HJN:=Lib.hid hjn
      clear hjn hlt
      go_wp2_with fail
      go_ret
      have e:Ls.take j=Ls:=List.take_of_length_le (by rw [HJN.out,HN.out];exact Nat.le_refl _)
      have ho:=HO.out
      rw [e] at hv1 ho ⊢
      exact ⟨va,vc,rfl,hv1,hv2,Rd.own ho,HBE.out⟩
end Go.Proofs.YtccbpngehedbaaaGreat

namespace Go.Proofs.YtccbpngehedbaaaGreat
open Go Go.RowKit Go.Sort
set_option linter.unusedVariables false

/-! The law's 'reopen': the landed log and the document's, side by side. -/
/-- The law's two logs, as one value. -/
def bthA (p:Nat) (v:Option Addr) (fa:Option Addr) (fn fc:Nat) (fu:Int) (dn:Bool) (K M:Int) (sa:Option Addr) (sn sc:Nat) (o:Bool):Array Value :=
  #[.pointer (some ⟨p,0,none⟩),.pointer v,.slice fa fn fc,.int .i64 fu,.bool dn,.int .i64 K,.int .i64 M,.slice sa sn sc,.bool false,.bool o]
/-- The document's log stands. -/
def RLAt (w:World) (m:FSm) (fa:Option Addr) (fc:Nat) (sa:Option Addr) (sc:Nat) (Ls:List RS):Prop :=
  m.files.length≤fc∧fc≤maxLen∧Rd w w.heap.size fa (flF m.files)∧Ls.length≤sc∧sc≤maxLen∧Rd w w.heap.size sa (flatG RS.l Ls)∧∀ x ∈ Ls,RsAt w x
/-- What reopen leaves. -/
def ReO {F:FsKit} (LK:LogKit F) (w:World) (S R:Nat→Prop) (p:Nat) (m:FSm) (K M:Int) (r:Int × FSm × List SgM) (e:Ending) (w':World):Prop :=
  ∃ (S' R':Nat→Prop) (v fa sa:Option Addr) (fc sc:Nat) (Ls:List RS),e=.returned (.tuple #[.agg (bthA p v fa r.2.1.files.length fc r.2.1.fuse r.2.1.down K M sa Ls.length sc (decide (r.1=0))),.bool true]) ∧
    F.Fs w' S' R' p r.2.1∧Did S R S' R' w w'∧RLAt w' r.2.1 fa fc sa sc Ls∧(r.1=0→Ls.map RS.sg=r.2.2∧(∀ x ∈ Ls,(x.k:Int)=K)∧∃ q T,v=some ⟨q,0,none⟩∧LK.At w' T p q ⟨K.toNat,M.toNat,r.2.2,false⟩∧(∀ k,T k→w.heap.size≤k)∧Dis T S' R')
/-- No cell of the block holds a number of 32 bits or a text. -/
def NoKey (w:World) (B:Nat):Prop:=∀ off u,w.cell? ⟨B,off,none⟩=some u→(∀ x,u ≠ .int .u32 x)∧∀ x,u ≠ .string x
theorem noKey_of {w:World} {B:Nat} {C:Array Value} {t:TypeId} (h:w.heap[B]?=some (.cells C t)) (hc:∀ u ∈ C.toList,(∀ x,u ≠ .int .u32 x)∧∀ x,u ≠ .string x):NoKey w B:=fun off u hu=>by
  simp only [World.cell?,h] at hu
  have hu':C[off]?=some u:=by simpa using hu
  exact hc u (by simpa using Array.mem_of_getElem? hu')
theorem Rd.off_key {w:World} {a:Option Addr} {cs us:List Value} {B i:Nat} (h:Rd w w.heap.size a cs) (hz:NoKey w B) (h0:∀ u,cs[0]?=some u→(∃ x,u=.int .u32 x)∨∃ x,u=.string x):Rd (w.setCells B i us) (w.setCells B i us).heap.size a cs:=fun hl=>by
  obtain ⟨b,off,ha,hlt,hc⟩:=h hl
  have ho:=off_cells (w:=w) (B:=B) us i
  have hne:¬ b=B:=fun e=>by
    subst e
    have q:=hc 0 cs[0] (by simp [hl])
    obtain ⟨z1,z2⟩:=hz _ _ q
    rcases h0 cs[0] (by simp [hl]) with ⟨x,hx⟩ | ⟨x,hx⟩
    · exact z1 x hx
    · exact z2 x hx
  exact ⟨b,off,ha,Nat.lt_of_lt_of_le hlt ho.size,fun j u hu=>by rw [ho.cell (p:=⟨b,off+j,none⟩) hlt hne];exact hc j u hu⟩
section
variable {w w':World} {m:FSm} {fa sa:Option Addr} {fc sc:Nat} {Ls:List RS}
theorem RLAt.below (h:RLAt w m fa fc sa sc Ls) (hb:Below w.heap.size w w'):RLAt w' m fa fc sa sc Ls :=
  ⟨h.1,h.2.1,(h.2.2.1.below hb).more hb.size,h.2.2.2.1,h.2.2.2.2.1,(h.2.2.2.2.2.1.below hb).more hb.size,fun x hx=>(h.2.2.2.2.2.2 x hx).below hb⟩
theorem RLAt.cells (h:RLAt w m fa fc sa sc Ls) {B:Nat} (hz:NoKey w B) (i:Nat) (us:List Value):RLAt (w.setCells B i us) m fa fc sa sc Ls :=
  ⟨h.1,h.2.1,h.2.2.1.off_key hz (flF_zero _),h.2.2.2.1,h.2.2.2.2.1,h.2.2.2.2.2.1.off_key hz (flG_zero _),fun x hx=>⟨(h.2.2.2.2.2.2 x hx).1.off_key hz (sV_zero _),(h.2.2.2.2.2.2 x hx).2⟩⟩
end
theorem size_both:(Tryz.prog.info? 37).map (·.size)=some 10:=by kernel_rfl
set_option maxRecDepth 20000 in
set_option maxHeartbeats 4000000 in
theorem reopen_any (F : FsKit) (LK : LogKit F) (w : World) (S R : Nat → Prop) (p : Nat) (m : FSm) (K M : Int) (fa : Option Addr) (fc : Nat) (hF : F.Fs w S R p m) (hfl : RdN S w fa (flF m.files)) (hf1 : m.files.length ≤ fc) (hf2 : fc ≤ maxLen) (hfit : FitR m) (k1 : -9223372036854775808 ≤ K) (k2 : K ≤ 9223372036854775807) (k3 : -9223372036854775808 ≤ M) (k4 : M ≤ 9223372036854775807) (r : Int × FSm × List SgM) (hr : openF m K M = r) :
    Calls Tryz.prog 13 #[.agg (bthA p none fa m.files.length fc m.fuse m.down 0 0 none 0 0 false),.int .i64 K,.int .i64 M] w (ReO LK w S R p m K M r):=by
  have HFL:=Lib.hid hfl;have HF:=Lib.hid hF;have HFIT:=Lib.hid hfit;have HR:=Lib.hid hr
  have HK:=Lib.hid (show (-9223372036854775808≤K∧K≤9223372036854775807)∧-9223372036854775808≤M∧M≤9223372036854775807 from ⟨⟨k1,k2⟩,k3,k4⟩)
  obtain ⟨w2,hw2⟩:∃ w2,w2=(w.alloc (.cells #[.pointer (some ⟨p,0,none⟩),.pointer none,.slice fa m.files.length fc,.int .i64 m.fuse,.bool m.down,.int .i64 0,.int .i64 0,.slice none 0 0,.bool false,.bool false] 37)).alloc (.cells #[.pointer none,.pointer none,.slice none 0 0,.int .i64 0,.bool false,.int .i64 0,.int .i64 0,.slice none 0 0,.bool false,.bool false] 37):=⟨_,rfl⟩
  have HB2:Hid (Below w.heap.size w w2):=by show Below _ _ _;rw [hw2];exact (box1 w _).alloc (by simp) _
  have HS2:Hid (w2.heap.size=w.heap.size+2):=by show _=_;rw [hw2];simp
  have HX2:Hid (w2.heap[w.heap.size]?=some (.cells #[.pointer (some ⟨p,0,none⟩),.pointer none,.slice fa m.files.length fc,.int .i64 m.fuse,.bool m.down,.int .i64 0,.int .i64 0,.slice none 0 0,.bool false,.bool false] 37)):=by show _=_;rw [hw2];exact ((box1 _ _).block _ (by simp)).trans (heap_alloc_new w _)
  have HY2:Hid (w2.heap[w.heap.size+1]?=some (.cells #[.pointer none,.pointer none,.slice none 0 0,.int .i64 0,.bool false,.int .i64 0,.int .i64 0,.slice none 0 0,.bool false,.bool false] 37)):=by show _=_;rw [hw2];exact alloc2_new _ _ _
  have HOK:Hid m.Ok:=F.ok hF
  have HLOW:Hid ((∀ k,S k→k < w.heap.size)∧∀ k,R k→k < w.heap.size):=F.low hF
  clear hfl hF hfit hr k1 k2 k3 k4
  unfold bthA
  go_enter Tryz.func13,Tryz.ntmps13
  go_wp2_with fail
  rw [← hw2]
  clear hw2
  refine (LK.open_ w2 S R p m K M (F.below HF.out HB2.out) HFIT.out.1 HK.out.1.1 HK.out.1.2 HK.out.2.1 HK.out.2.2).mono ?_
  rintro e w3 ⟨S3,R3,v,rfl,hF3,hd3,hlog⟩
  have HF3:=Lib.hid hF3;have HD3:=Lib.hid hd3;have HLOG:=Lib.hid hlog
  have HX3:Hid (w3.heap[w.heap.size]?=some (.cells #[.pointer (some ⟨p,0,none⟩),.pointer none,.slice fa m.files.length fc,.int .i64 m.fuse,.bool m.down,.int .i64 0,.int .i64 0,.slice none 0 0,.bool false,.bool false] 37)):=(hd3.off.block _ (by rw [HS2.out];omega) (fun h=>by have:=HLOW.out.1 _ h;omega)).trans HX2.out
  have HY3:Hid (w3.heap[w.heap.size+1]?=some (.cells #[.pointer none,.pointer none,.slice none 0 0,.int .i64 0,.bool false,.int .i64 0,.int .i64 0,.slice none 0 0,.bool false,.bool false] 37)):=(hd3.off.block _ (by rw [HS2.out];omega) (fun h=>by have:=HLOW.out.1 _ h;omega)).trans HY2.out
  have HFL3:Hid (RdN S3 w3 fa (flF m.files)):=(HFL.out.off (Off.of_below HB2.out) fun k h=>.inl h).off hd3.off hd3.s
  rw [HR.out]
  obtain ⟨c4,m4,L4⟩:=r
  obtain ⟨d2,d3,d4⟩:w3.cell? ⟨w.heap.size,2,none⟩=some (.slice fa m.files.length fc)∧w3.cell? ⟨w.heap.size,3,none⟩=some (.int .i64 m.fuse)∧w3.cell? ⟨w.heap.size,4,none⟩=some (.bool m.down):=by
    have:=HX3.out
    simp [World.cell?,this]
  clear hF3 hd3 hlog
  go_wp2_with fail
  refine (openR_any fa fc m K M w3 HFL3.out.rd hf1 hf2 HOK.out HFIT.out _ HR.out).mono ?_
  rintro e w4 ⟨Ls,ho,hz⟩
  have HO:=Lib.hid ho;have HZ:=Lib.hid hz
  obtain ⟨fa4,fc4,sa4,sc4,rfl,r1,r2,r3,r4,r5,r6,r7,hb4⟩:=ho
  have hrl4:RLAt w4 m4 fa4 fc4 sa4 sc4 Ls:=⟨r1,r2,r3,r4,r5,r6,r7⟩
  obtain ⟨w5,hw5⟩:∃ w5,w5=w4.alloc (.cells #[.slice fa4 m4.files.length fc4,.int .i64 m4.fuse,.bool m4.down,.int .i64 K,.int .i64 M,.slice sa4 Ls.length sc4,.bool false] 34):=⟨_,rfl⟩
  have HB5:Hid (Below w3.heap.size w3 w5):=by show Below _ _ _;rw [hw5];exact bel2 hb4 (box1 _ _)
  have HLG5:Hid (RLB w5 w4.heap.size fa4 m4.files.length fc4 m4.fuse m4.down K M sa4 Ls.length sc4 false):=by
    show RLB _ _ _ _ _ _ _ _ _ _ _ _ _
    rw [hw5];exact heap_alloc_new _ _
  have HLT3:Hid (w.heap.size+2≤w3.heap.size):=by show _≤_;rw [← HS2.out];exact HD3.out.off.size
  have HX5:Hid (w5.heap[w.heap.size]?=some (.cells #[.pointer (some ⟨p,0,none⟩),.pointer none,.slice fa m.files.length fc,.int .i64 m.fuse,.bool m.down,.int .i64 0,.int .i64 0,.slice none 0 0,.bool false,.bool false] 37)):=(HB5.out.block _ (by have:=HLT3.out;omega)).trans HX3.out
  have HY5:Hid (w5.heap[w.heap.size+1]?=some (.cells #[.pointer none,.pointer none,.slice none 0 0,.int .i64 0,.bool false,.int .i64 0,.int .i64 0,.slice none 0 0,.bool false,.bool false] 37)):=(HB5.out.block _ (by have:=HLT3.out;omega)).trans HY3.out
  have HRL5:Hid (RLAt w5 m4 fa4 fc4 sa4 sc4 Ls):=by show RLAt _ _ _ _ _ _ _;rw [hw5];exact hrl4.below (box1 _ _)
  have HGE:Hid (w.heap.size+2≤w4.heap.size):=by show _≤_;have:=HLT3.out;have:=hb4.size;omega
  clear hz hb4 d2 d3 d4 r1 r2 r3 r4 r5 r6 r7 hrl4
  unfold lgA
  go_upto_region 3 with fail
  rw [← hw5]
  clear hw5
  have q0:w5.cell? ⟨w.heap.size,0,none⟩=some (.pointer (some ⟨p,0,none⟩)):=by have:=HX5.out;simp [World.cell?,this]
  have f0:w5.frozen? ⟨w.heap.size,0,none⟩=false:=by have:=HX5.out;simp [World.frozen?,this]
  have q1:w5.cell? ⟨w.heap.size,1,none⟩=some (.pointer none):=by have:=HX5.out;simp [World.cell?,this]
  have f1:w5.frozen? ⟨w.heap.size,1,none⟩=false:=by have:=HX5.out;simp [World.frozen?,this]
  have q2:w5.cell? ⟨w.heap.size,2,none⟩=some (.slice fa m.files.length fc):=by have:=HX5.out;simp [World.cell?,this]
  have f2:w5.frozen? ⟨w.heap.size,2,none⟩=false:=by have:=HX5.out;simp [World.frozen?,this]
  have q3:w5.cell? ⟨w.heap.size,3,none⟩=some (.int .i64 m.fuse):=by have:=HX5.out;simp [World.cell?,this]
  have f3:w5.frozen? ⟨w.heap.size,3,none⟩=false:=by have:=HX5.out;simp [World.frozen?,this]
  have q4:w5.cell? ⟨w.heap.size,4,none⟩=some (.bool m.down):=by have:=HX5.out;simp [World.cell?,this]
  have f4:w5.frozen? ⟨w.heap.size,4,none⟩=false:=by have:=HX5.out;simp [World.frozen?,this]
  have q5:w5.cell? ⟨w.heap.size,5,none⟩=some (.int .i64 0):=by have:=HX5.out;simp [World.cell?,this]
  have f5:w5.frozen? ⟨w.heap.size,5,none⟩=false:=by have:=HX5.out;simp [World.frozen?,this]
  have q6:w5.cell? ⟨w.heap.size,6,none⟩=some (.int .i64 0):=by have:=HX5.out;simp [World.cell?,this]
  have f6:w5.frozen? ⟨w.heap.size,6,none⟩=false:=by have:=HX5.out;simp [World.frozen?,this]
  have q7:w5.cell? ⟨w.heap.size,7,none⟩=some (.slice none 0 0):=by have:=HX5.out;simp [World.cell?,this]
  have f7:w5.frozen? ⟨w.heap.size,7,none⟩=false:=by have:=HX5.out;simp [World.frozen?,this]
  have q8:w5.cell? ⟨w.heap.size,8,none⟩=some (.bool false):=by have:=HX5.out;simp [World.cell?,this]
  have f8:w5.frozen? ⟨w.heap.size,8,none⟩=false:=by have:=HX5.out;simp [World.frozen?,this]
  have q9:w5.cell? ⟨w.heap.size,9,none⟩=some (.bool false):=by have:=HX5.out;simp [World.cell?,this]
  have f9:w5.frozen? ⟨w.heap.size,9,none⟩=false:=by have:=HX5.out;simp [World.frozen?,this]
  have g0:w5.cell? ⟨w4.heap.size,0,none⟩=some (.slice fa4 m4.files.length fc4):=HLG5.out.cell 0 rfl
  have g1:w5.cell? ⟨w4.heap.size,1,none⟩=some (.int .i64 m4.fuse):=HLG5.out.cell 1 rfl
  have g2:w5.cell? ⟨w4.heap.size,2,none⟩=some (.bool m4.down):=HLG5.out.cell 2 rfl
  have g3:w5.cell? ⟨w4.heap.size,3,none⟩=some (.int .i64 K):=HLG5.out.cell 3 rfl
  have g4:w5.cell? ⟨w4.heap.size,4,none⟩=some (.int .i64 M):=HLG5.out.cell 4 rfl
  have g5:w5.cell? ⟨w4.heap.size,5,none⟩=some (.slice sa4 Ls.length sc4):=HLG5.out.cell 5 rfl
  have g6:w5.cell? ⟨w4.heap.size,6,none⟩=some (.bool false):=HLG5.out.cell 6 rfl
  have hne:¬ w4.heap.size=w.heap.size:=by have:=HGE.out;omega
  have hne2:¬ w.heap.size=w4.heap.size:=by have:=HGE.out;omega
  go_region
  obtain ⟨w6,hw6⟩:∃ w6,w6=(w5.setCells w.heap.size 1 [.pointer v,.slice fa4 m4.files.length fc4,.int .i64 m4.fuse,.bool m4.down,.int .i64 K,.int .i64 M,.slice sa4 Ls.length sc4,.bool false,.bool (c4 == 0)]).drew:=⟨_,rfl⟩
  have HX6:Hid (w6.heap[w.heap.size]?=some (.cells #[.pointer (some ⟨p,0,none⟩),.pointer v,.slice fa4 m4.files.length fc4,.int .i64 m4.fuse,.bool m4.down,.int .i64 K,.int .i64 M,.slice sa4 Ls.length sc4,.bool false,.bool (c4 == 0)] 37)):=by
    show _=_
    rw [hw6]
    have:=HX5.out
    simp [World.drew,World.setCells,World.setCell,Array.getElem?_modify,this]
  have hoff:Off (fun k=>k=w.heap.size) w5 w6:=by rw [hw6];exact (off_cells _ _).andThen (Off.of_below (drew1 _)) fun k h=>.inl h
  have HOF6:=Lib.hid hoff
  have HY6:Hid (w6.heap[w.heap.size+1]?=some (.cells #[.pointer none,.pointer none,.slice none 0 0,.int .i64 0,.bool false,.int .i64 0,.int .i64 0,.slice none 0 0,.bool false,.bool false] 37)):=(hoff.block _ (by have:=HB5.out.size;have:=HLT3.out;omega) (by omega)).trans HY5.out
  have HRL6:Hid (RLAt w6 m4 fa4 fc4 sa4 sc4 Ls):=by
    show RLAt _ _ _ _ _ _ _
    rw [hw6]
    exact (HRL5.out.cells (noKey_of HX5.out (by simp)) _ _).below (drew1 _)
  unfold World.setCells at hw6
  simp only [World.setCells] at hw6
  rw [← hw6]
  clear hw6 hoff q0 q1 q2 q3 q4 q5 q6 q7 q8 q9 f0 f1 f2 f3 f4 f5 f6 f7 f8 f9 g0 g1 g2 g3 g4 g5 g6 hne hne2
  have HT9:Hid (w6.there (w.heap.size+1) 0 10):=by
    intro j hj
    have h:=HY6.out
    have hj':∃ u,(#[.pointer none,.pointer none,.slice none 0 0,.int .i64 0,.bool false,.int .i64 0,.int .i64 0,.slice none 0 0,.bool false,.bool false]:Array Value)[j]?=some u:=⟨_,Array.getElem?_eq_getElem (by simpa using hj)⟩
    obtain ⟨u,hu⟩:=hj'
    simp [World.cell?,World.frozen?,h,hu]
  have HKEEP:Hid (∀ k,(S3 k∨R3 k)∨w2.heap.size≤k∧k < w3.heap.size→w6.heap[k]?=w3.heap[k]?):=fun k hk=>by
    have h1:=HLOW.out;have h2:=HS2.out;have h3:=HB5.out.size;have h4:=F.low HF3.out;have h5:=HD3.out
    have hk3:k < w3.heap.size∧k ≠ w.heap.size:=by
      rcases hk with (e | e) | ⟨e,e'⟩
      · refine ⟨h4.1 k e,fun e2=>?_⟩
        rcases h5.s k e with e3 | e3
        · have:=h1.1 k e3;omega
        · omega
      · refine ⟨h4.2 k e,fun e2=>?_⟩
        rcases h5.r k e with e3 | e3 | e3
        · have:=h1.2 k e3;omega
        · have:=h1.1 k e3;omega
        · omega
      · exact ⟨e',by omega⟩
    exact (HOF6.out.block k (by omega) hk3.2).trans (HB5.out.block k hk3.1)
  have HEND:Hid (∀ us,(∀ k,(S3 k∨R3 k)∨w2.heap.size≤k∧k < w3.heap.size→(w6.setCells (w.heap.size+1) 0 us).heap[k]?=w3.heap[k]?)∧w3.heap.size≤(w6.setCells (w.heap.size+1) 0 us).heap.size∧Did S R S3 R3 w (w6.setCells (w.heap.size+1) 0 us)∧RLAt (w6.setCells (w.heap.size+1) 0 us) m4 fa4 fc4 sa4 sc4 Ls):=fun us=>by
    have ho7:=off_cells (w:=w6) (B:=w.heap.size+1) us 0
    have h1:=HLOW.out;have h2:=HS2.out;have h3:=HB5.out.size;have h4:=F.low HF3.out;have h5:=HD3.out;have h6:=HOF6.out.size
    refine ⟨fun k hk=>?_,Nat.le_trans h3 (Nat.le_trans h6 ho7.size),⟨fun k hk=>?_,fun k hk=>?_,?_⟩,HRL6.out.cells (noKey_of HY6.out (by simp)) 0 us⟩
    · have hk3:k < w3.heap.size∧k ≠ w.heap.size+1:=by
        rcases hk with (e | e) | ⟨e,e'⟩
        · refine ⟨h4.1 k e,fun e2=>?_⟩
          rcases h5.s k e with e3 | e3
          · have:=h1.1 k e3;omega
          · omega
        · refine ⟨h4.2 k e,fun e2=>?_⟩
          rcases h5.r k e with e3 | e3 | e3
          · have:=h1.2 k e3;omega
          · have:=h1.1 k e3;omega
          · omega
        · exact ⟨e',by omega⟩
      exact (ho7.block k (by omega) hk3.2).trans (HKEEP.out k hk)
    · rcases h5.s k hk with e | e
      · exact .inl e
      · exact .inr (by omega)
    · rcases h5.r k hk with e | e | e
      · exact .inl e
      · exact .inr (.inl e)
      · exact .inr (.inr (by omega))
    · have o1:Off S w w3:=(Off.of_below HB2.out).andThen h5.off fun k h=>.inl h
      have o2:Off S w w5:=o1.andThen (Off.of_below HB5.out) fun k h=>.inl h
      have o3:Off S w w6:=o2.andThen HOF6.out fun k h=>.inr (by omega)
      exact o3.andThen ho7 fun k h=>.inr (by omega)
  by_cases hc:c4=0
  · obtain ⟨q,T,hv,hat,hT,hdis⟩:=HLOG.out (by rw [HR.out];exact hc)
    subst hv
    have b1:(c4 == 0)=true:=by simp [hc]
    have b2:(c4 != 0)=false:=by simp [hc]
    have HAT:=Lib.hid hat;have HTT:=Lib.hid hT;have HDIS:=Lib.hid hdis
    clear hat hT hdis
    have HX6:Hid (w6.heap[w.heap.size]?=some (.cells #[.pointer (some ⟨p,0,none⟩),.pointer (some ⟨q,0,none⟩),.slice fa4 m4.files.length fc4,.int .i64 m4.fuse,.bool m4.down,.int .i64 K,.int .i64 M,.slice sa4 Ls.length sc4,.bool false,.bool true] 37)):=by
      show _=_
      rw [HX6.out];simp [hc]
    have HRG9:Hid (w6.rangeAt w.heap.size 0 [.pointer (some ⟨p,0,none⟩),.pointer (some ⟨q,0,none⟩),.slice fa4 m4.files.length fc4,.int .i64 m4.fuse,.bool m4.down,.int .i64 K,.int .i64 M,.slice sa4 Ls.length sc4,.bool false,.bool true]):=fun j u hu=>by
      rw [Nat.zero_add];have:=HX6.out;simp [World.cell?,this,hu]
    go_wp2_with (first
      | (refine wpList_load_mid rfl 37 (.tmp 3) rfl w.heap.size 0 rfl [.pointer (some ⟨p,0,none⟩),.pointer (some ⟨q,0,none⟩),.slice fa4 m4.files.length fc4,.int .i64 m4.fuse,.bool m4.down,.int .i64 K,.int .i64 M,.slice sa4 Ls.length sc4,.bool false,.bool true] _ HRG9.out Tryz.underlying37 rfl size_both ?_)
      | (refine wpList_store_mid rfl 37 (.tmp 6) (.tmp 36) rfl (w.heap.size+1) 0 #[.pointer (some ⟨p,0,none⟩),.pointer (some ⟨q,0,none⟩),.slice fa4 m4.files.length fc4,.int .i64 m4.fuse,.bool m4.down,.int .i64 K,.int .i64 M,.slice sa4 Ls.length sc4,.bool false,.bool true] rfl rfl HT9.out size_both (by simp [Value.oneCell']) ?_))
    refine bodyPost_ret (v:=.tuple #[.agg #[.pointer (some ⟨p,0,none⟩),.pointer (some ⟨q,0,none⟩),.slice fa4 m4.files.length fc4,.int .i64 m4.fuse,.bool m4.down,.int .i64 K,.int .i64 M,.slice sa4 Ls.length sc4,.bool false,.bool true],.bool true]) (results_cell_two (p:=6) (u:=7) (ty:=37) (b:=w.heap.size+1) (x:=.bool true) rfl rfl rfl (run_loadVar_mid (P:=Tryz.prog) _ (w.heap.size+1) 0 37 _ _ (World.rangeAt_setCells_same _ (w.heap.size+1) 0 _ HT9.out) Tryz.underlying37 rfl size_both)) rfl ?_
    obtain ⟨h1,h2,h3,h4⟩:=HEND.out _
    have hF:=HF3.out;have hA:=HAT.out
    rw [HR.out] at hF hA
    have hlt:=HTT.out;have hS2:=HS2.out
    exact ⟨S3,R3,_,fa4,sa4,fc4,sc4,Ls,by simp [bthA,hc],F.move hF h2 fun k hk=>h1 k (.inl hk),h3,h4,fun h0=>⟨(HZ.out h0).1,(HZ.out h0).2,q,T,rfl,LK.move hA h2 fun k hk=>h1 k (.inr ⟨hlt k hk,LK.low hA k hk⟩),fun k hk=>by have:=hlt k hk;omega,HDIS.out⟩⟩
  · have b1:(c4 == 0)=false:=by simp [hc]
    have b2:(c4 != 0)=true:=by simp [hc]
    have HX6:Hid (w6.heap[w.heap.size]?=some (.cells #[.pointer (some ⟨p,0,none⟩),.pointer v,.slice fa4 m4.files.length fc4,.int .i64 m4.fuse,.bool m4.down,.int .i64 K,.int .i64 M,.slice sa4 Ls.length sc4,.bool false,.bool false] 37)):=by
      show _=_
      rw [HX6.out];simp [hc]
    have HRG9:Hid (w6.rangeAt w.heap.size 0 [.pointer (some ⟨p,0,none⟩),.pointer v,.slice fa4 m4.files.length fc4,.int .i64 m4.fuse,.bool m4.down,.int .i64 K,.int .i64 M,.slice sa4 Ls.length sc4,.bool false,.bool false]):=fun j u hu=>by
      rw [Nat.zero_add];have:=HX6.out;simp [World.cell?,this,hu]
    go_wp2_with (first
      | (refine wpList_load_mid rfl 37 (.tmp 3) rfl w.heap.size 0 rfl [.pointer (some ⟨p,0,none⟩),.pointer v,.slice fa4 m4.files.length fc4,.int .i64 m4.fuse,.bool m4.down,.int .i64 K,.int .i64 M,.slice sa4 Ls.length sc4,.bool false,.bool false] _ HRG9.out Tryz.underlying37 rfl size_both ?_)
      | (refine wpList_store_mid rfl 37 (.tmp 6) (.tmp 36) rfl (w.heap.size+1) 0 #[.pointer (some ⟨p,0,none⟩),.pointer v,.slice fa4 m4.files.length fc4,.int .i64 m4.fuse,.bool m4.down,.int .i64 K,.int .i64 M,.slice sa4 Ls.length sc4,.bool false,.bool false] rfl rfl HT9.out size_both (by simp [Value.oneCell']) ?_))
    refine bodyPost_ret (v:=.tuple #[.agg #[.pointer (some ⟨p,0,none⟩),.pointer v,.slice fa4 m4.files.length fc4,.int .i64 m4.fuse,.bool m4.down,.int .i64 K,.int .i64 M,.slice sa4 Ls.length sc4,.bool false,.bool false],.bool true]) (results_cell_two (p:=6) (u:=7) (ty:=37) (b:=w.heap.size+1) (x:=.bool true) rfl rfl rfl (run_loadVar_mid (P:=Tryz.prog) _ (w.heap.size+1) 0 37 _ _ (World.rangeAt_setCells_same _ (w.heap.size+1) 0 _ HT9.out) Tryz.underlying37 rfl size_both)) rfl ?_
    obtain ⟨h1,h2,h3,h4⟩:=HEND.out _
    have hF:=HF3.out
    rw [HR.out] at hF
    exact ⟨S3,R3,v,fa4,sa4,fc4,sc4,Ls,by simp [bthA,hc],F.move hF h2 fun k hk=>h1 k (.inl hk),h3,h4,fun h0=>absurd h0 hc⟩
end Go.Proofs.YtccbpngehedbaaaGreat

namespace Go.Proofs.YtccbpngehedbaaaGreat
open Go Go.RowKit Go.Sort
set_option linter.unusedVariables false

/-! SeglogOpens: the two file systems, filled side by side. -/
structure OI (w1 wr:World) (bb p:Nat) (S R:Nat→Prop) (m m2:FSm) (fa:Option Addr) (fc k:Nat):Prop where
  fs:kit.Fs wr S R p m
  box:wr.heap[bb]?=some (.cells #[.pointer (some ⟨p,0,none⟩),.pointer none,.slice fa m2.files.length fc,.int .i64 m2.fuse,.bool m2.down,.int .i64 0,.int .i64 0,.slice none 0 0,.bool false,.bool false] 37)
  nb:¬ S bb∧¬ R bb
  hb:w1.heap.size≤bb∧bb < wr.heap.size
  x:RdN (fun j=>S j∨j=bb) wr fa (flF m2.files)
  f1:m2.files.length≤fc∧fc≤maxLen
  lim:Lim k m
  lim2:Lim k m2
  num:NumOk m
  fu:m.fuse=-1
  fu2:m2.fuse=-1
  hs:∀ j,S j→w1.heap.size≤j
  bel:Below w1.heap.size w1 wr
theorem rdn_cells1 {U:Nat→Prop} {w:World} {a:Option Addr} {cs us:List Value} {B i:Nat} (h:RdN U w a cs) (hB:U B):RdN U (w.setCells B i us) a cs:=fun h0=>by
  obtain ⟨b,off,ha,hlt,hn,hc⟩:=h h0
  have ho:=off_cells (w:=w) (B:=B) us i
  have hne:¬ b=B:=fun e=>by subst e;exact hn hB
  exact ⟨b,off,ha,Nat.lt_of_lt_of_le hlt ho.size,hn,fun j u hu=>by rw [ho.cell (p:=⟨b,off+j,none⟩) hlt hne];exact hc j u hu⟩
section
variable {w1 wr w':World} {bb p:Nat} {S R S' R':Nat→Prop} {m m2 m':FSm} {fa a':Option Addr} {fc c' k:Nat}
theorem OI.did (h:OI w1 wr bb p S R m m2 fa fc k) (hF:kit.Fs w' S' R' p m') (hd:Did S R S' R' wr w') (hl:Lim k m') (hn:NumOk m') (hf:m'.fuse=-1):OI w1 w' bb p S' R' m' m2 fa fc k:=by
  have hb:=h.hb
  have hoff:Off (fun j=>S j∨j=bb) wr w':=⟨hd.off.os,hd.off.tape,hd.off.output,hd.off.size,fun j hj hn=>hd.off.block j hj fun e=>hn (.inl e)⟩
  refine ⟨hF,(hd.off.block bb hb.2 h.nb.1).trans h.box,⟨fun e=>?_,fun e=>?_⟩,⟨hb.1,Nat.lt_of_lt_of_le hb.2 hd.off.size⟩,h.x.off hoff fun j hj=>?_,h.f1,hl,h.lim2,hn,hf,h.fu2,fun j hj=>?_,?_⟩
  · rcases hd.s bb e with e | e
    · exact h.nb.1 e
    · omega
  · rcases hd.r bb e with e | e | e
    · exact h.nb.2 e
    · exact h.nb.1 e
    · omega
  · rcases hj with e | e
    · exact (hd.s j e).imp .inl id
    · exact .inl (.inr e)
  · rcases hd.s j hj with e | e
    · exact h.hs j e
    · omega
  · have hbl:=h.bel
    exact ⟨hd.off.os.trans hbl.os,hd.off.tape.trans hbl.tape,hd.off.output.trans hbl.output,Nat.le_trans hbl.size hd.off.size,fun j hj=>(hd.off.block j (by have:=hbl.size;omega) fun e=>by have:=h.hs j e;omega).trans (hbl.block j hj)⟩
theorem OI.below (h:OI w1 wr bb p S R m m2 fa fc k) (hb:Below wr.heap.size wr w'):OI w1 w' bb p S R m m2 fa fc k:=h.did (kit.below h.fs hb) (Did.below hb) h.lim h.num h.fu
theorem OI.more (h:OI w1 wr bb p S R m m2 fa fc k) {k':Nat} (hk:k≤k'):OI w1 wr bb p S R m m2 fa fc k':={ h with lim:=h.lim.more hk,lim2:=h.lim2.more hk }
theorem OI.ref (h : OI w1 wr bb p S R m m2 fa fc k) (h1 : m'.files.length ≤ c') (h2 : c' ≤ maxLen) (h3 : Rd w' w'.heap.size a' (flF m'.files)) (h4 : From wr fa m2.files a' m'.files) (hb : Below wr.heap.size wr w') (hl : Lim k m') (hf : m'.fuse = -1) :
    OI w1 (w'.setCells bb 2 [.slice a' m'.files.length c',.int .i64 m'.fuse,.bool m'.down]) bb p S R m m' a' c' k:=by
  have h':=h.below hb
  have ho:=off_cells (w:=w') (B:=bb) [.slice a' m'.files.length c',.int .i64 m'.fuse,.bool m'.down] 2
  have hlow:=kit.low h.fs
  refine ⟨kit.move h'.fs ho.size fun j hj=>ho.block j ?_ fun e=>?_,?_,h.nb,⟨h.hb.1,Nat.lt_of_lt_of_le h'.hb.2 ho.size⟩,?_,⟨h1,h2⟩,h.lim,hl,h.num,h.fu,hf,h.hs,Below_setCells h.hb.1 _ _ _ h'.bel⟩
  · have:=hb.size
    rcases hj with e | e
    · have:=hlow.1 j e;omega
    · have:=hlow.2 j e;omega
  · subst e
    rcases hj with e | e
    · exact h.nb.1 e
    · exact h.nb.2 e
  · have:=h'.box
    simp [World.setCells,World.setCell,Array.getElem?_modify,this]
  · refine rdn_cells1 ?_ (.inr rfl)
    rcases h4 with ⟨e1,e2⟩ | hf
    · rw [e1,e2];exact h'.x
    · intro h0
      obtain ⟨b,off,ha,hlt,hc⟩:=h3 h0
      have:=hf b off none (by rw [ha])
      exact ⟨b,off,ha,hlt,fun hk=>by
        rcases hk with e | e
        · have:=hlow.1 b e;omega
        · have:=h.hb.2;omega,hc⟩
theorem OI.c (h:OI w1 wr bb p S R m m2 fa fc k):wr.cell? ⟨bb,0,none⟩=some (.pointer (some ⟨p,0,none⟩))∧wr.cell? ⟨bb,2,none⟩=some (.slice fa m2.files.length fc)∧wr.cell? ⟨bb,3,none⟩=some (.int .i64 m2.fuse)∧wr.cell? ⟨bb,4,none⟩=some (.bool m2.down)∧wr.frozen? ⟨bb,2,none⟩=false∧wr.frozen? ⟨bb,3,none⟩=false∧wr.frozen? ⟨bb,4,none⟩=false:=by
  have:=h.box
  simp [World.cell?,World.frozen?,this]
end
theorem open_fine {m : FSm} {keep room : Int} (h0 : (openF m keep room).1 = 0) : (1 ≤ keep ∧ keep ≤ 16 ∧ 1 ≤ room ∧ room ≤ 32) ∧ (openF m keep room).2.2.length ≤ 32 ∧ ∀ s ∈ (openF m keep room).2.2, s.L.length ≤ 16 := by
  have hg:1≤keep∧keep≤16∧1≤room∧room≤32:=by
    by_cases h:1≤keep∧keep≤16∧1≤room∧room≤32
    · exact h
    · unfold openF at h0
      rw [if_pos h] at h0
      exact absurd h0 (show ¬ ((1:Int)=0) by decide)
  have k:=hg
  have r:=hg.2.2
  have hseg:∀ s ∈ (openF m keep room).2.2,∃ n,s=sgOf m keep.toNat n:=fun s hs=>by
    have hm:∀ n,s ∈ (mendF m keep.toNat n).2.2→∃ n,s=sgOf m keep.toNat n:=fun n hs=>by
      unfold mendF at hs
      repeat' split at hs
      all_goals first
        | (simp at hs;done)
        | (simp at hs;exact ⟨n,hs⟩)
    unfold openF at hs
    split at hs
    · cases hs
    split at hs
    · cases hs
    split at hs
    · cases hs
    split at hs
    · cases hs
    split at hs
    · cases hs
    split at hs
    · cases hs
    rcases List.mem_append.1 hs with hs | hs
    · obtain ⟨n,_,rfl⟩:=List.mem_map.1 hs;exact ⟨n,rfl⟩
    · exact hm _ hs
  have hlen:(openF m keep room).2.2.length≤32:=by
    have hm:∀ n,(mendF m keep.toNat n).2.2.length≤1:=fun n=>by
      unfold mendF
      repeat' split
      all_goals simp
    unfold openF
    split
    · exact Nat.zero_le _
    split
    · exact Nat.zero_le _
    split
    · exact Nat.zero_le _
    rename_i h3
    split
    · exact Nat.zero_le _
    split
    · exact Nat.zero_le _
    split
    · exact Nat.zero_le _
    rename_i n hn
    obtain ⟨A,hA⟩:=List.getLast?_eq_some_iff.1 hn
    show (List.map _ _ ++ _).length≤32
    rw [List.length_append,List.length_map]
    have:=hm n
    rw [hA,List.length_append] at h3
    rw [hA,List.dropLast_concat]
    simp at h3
    omega
  refine ⟨hg,hlen,fun s hs=>?_⟩
  obtain ⟨n,rfl⟩:=hseg s hs
  have:=seg_few (byF m n) keep.toNat
  show (segB _ _).length≤16
  omega
theorem fuse_act {m:FSm} (h:m.fuse=-1) (x:Fl) (s:Bool):(actF m x s).1.fuse=-1:=by
  unfold actF
  rw [if_neg (by omega),if_neg (by omega)]
  exact h
theorem fuse_create {m:FSm} (h:m.fuse=-1) (n:Nat):(createF m n).1.fuse=-1:=by
  unfold createF
  repeat' split
  all_goals first | exact h | exact fuse_act h _ _
theorem fuse_append {m:FSm} (h:m.fuse=-1) (n:Nat) (b:ByteArray):(appendF m n b).1.fuse=-1:=by
  unfold appendF
  repeat' split
  all_goals first | exact h | exact fuse_act h _ _
end Go.Proofs.YtccbpngehedbaaaGreat

