import Derived.Test.YtccbpngehedbaaaGreatJ3
import Derived.Test.YtccbpngehedbaaaGreatJj
import Derived.Test.YtccbpngehedbaaaGreatJm
import Derived.Test.YtccbpngehedbaaaGreatJv
import Derived.Deep.DeepCutAuto
import Derived.Lib.SliceRun
import Derived.Deep.RegionLaw
import Derived.Test.YtccbpngehedbaaaGreatJx
namespace Go.Proofs.YtccbpngehedbaaaGreat
open Go Go.RowKit Go.Sort

/-! The document's log: its values. -/
/-- A segment, as the document has it. -/
structure RS where
  n:Nat
  k:Nat
  a:Option Addr
  c:Nat
  L:List (List UInt8)
  g:Int
def RS.l (x:RS):List Value:=[.int .u32 (x.n:Int),.int .i64 (x.k:Int),.slice x.a x.L.length x.c,.int .i64 x.g]
def RsAt (w:World) (x:RS):Prop:=Rd w w.heap.size x.a (sV x.L)∧x.L.length≤x.c∧x.c≤maxLen
theorem RsAt.below {w w':World} {x:RS} (h:RsAt w x) (hb:Below w.heap.size w w'):RsAt w' x:=⟨(h.1.below hb).more hb.size,h.2⟩
set_option maxRecDepth 20000 in
set_option maxHeartbeats 1000000 in
theorem sealed_is (n k l c:Nat) (a:Option Addr) (g:Int) (r:Bool) (hr:(decide (0 < k) && decide (l=k))=r) (w:World) :
    Calls Tryz.prog 70 #[.agg #[.int .u32 (n:Int),.int .i64 (k:Int),.slice a l c,.int .i64 g]] w fun e w'=>e=.returned (.bool r)∧Below w.heap.size w w':=by
  by_cases h0:0 < k
  · have HE:Hid (((l:Int) == (k:Int))=r):=by show _=_;rw [← hr,decide_eq_true h0,Bool.true_and,beqI]
    have h0':(0:Int) < (k:Int):=by omega
    clear hr
    go_enter Tryz.func70,Tryz.ntmps70
    go_wp2_with fail
    go_ret
    exact ⟨ret_bool HE.out,box1 _ _⟩
  · have HE:Hid (false=r):=by show _=_;rw [← hr,decide_eq_false h0,Bool.false_and]
    have h0':¬ (0:Int) < (k:Int):=by omega
    clear hr
    go_enter Tryz.func70,Tryz.ntmps70
    go_wp2_with fail
    go_ret
    exact ⟨ret_bool HE.out,box1 _ _⟩
theorem u32_cell {w:World} {B:Nat} {a:Option Addr} {N:List Nat} (h:Rd w B a (u32V N)) {j:Nat} (hj:j < N.length):∃ b off,a=some ⟨b,off,none⟩∧b < B∧w.cell? ⟨b,off+j,none⟩=some (.int .u32 (N[j]:Int)):=by
  obtain ⟨b,off,ha,hb,hc⟩:=h (by unfold u32V;rw [List.length_map];omega)
  exact ⟨b,off,ha,hb,hc j _ (by unfold u32V;rw [List.getElem?_map,List.getElem?_eq_getElem hj];rfl)⟩
set_option maxHeartbeats 1000000 in
theorem in_is (a : Option Addr) (c m : Nat) (N : List Nat) (r : Bool) (w : World) (hr : Rd w w.heap.size a (u32V N)) (hl : N.length ≤ 1000000000) (hm : decide (m ∈ N) = r) :
    Calls Tryz.prog 97 #[.slice a N.length c,.int .u32 (m:Int)] w fun e w'=>e=.returned (.bool r)∧w=w':=by
  have HR:=Lib.hid hr;have HM:=Lib.hid hm
  obtain ⟨n,hn⟩:∃ n,n=N.length:=⟨_,rfl⟩
  have HN:=Lib.hid hn
  rw [← hn] at hl ⊢
  clear hr hm hn
  go_enter Tryz.func97,Tryz.ntmps97
  go_wp2_with fail
  go_loop [5] (fun i=>∃ j:Nat,j≤n∧i=.int .i64 j∧∀ x ∈ N.take j,x ≠ m) (fun i=>n - (intOf i).toNat)
  case atStart=>exact ⟨0,Nat.zero_le _,rfl,by simp⟩
  case round =>
    obtain ⟨j,hj,rfl,hne⟩:=hrel
    have HNE:=Lib.hid hne
    clear hne
    by_cases hlt:j < n
    · have hjN:j < N.length:=by rw [← HN.out];exact hlt
      obtain ⟨b,off,rfl,hbl,q⟩:=u32_cell HR.out hjN
      have i1:(0:Int)≤(j:Int):=by omega
      have i2:(j:Int) < (n:Int):=by omega
      have HLT:=Lib.hid hlt
      by_cases hx:N[j]=m
      · have hxb:((N[j]:Int) == (m:Int))=true:=by simp [hx]
        have HT:Hid (true=r):=by
          show _=_
          rw [← HM.out,decide_eq_true]
          rw [← hx];exact List.getElem_mem _
        clear hx hlt
        go_wp2_with fail
        go_ret
        exact ⟨ret_bool HT.out,rfl⟩
      · have hxb:((N[j]:Int) == (m:Int))=false:=beq_eq_false_iff_ne.2 (by omega)
        have HT:Hid (∀ y ∈ N.take (j+1),y ≠ m):=by
          intro y hy
          rw [List.take_succ_eq_append_getElem hjN] at hy
          rcases List.mem_append.1 hy with h | h
          · exact HNE.out y h
          · rw [List.mem_singleton.1 h];exact hx
        clear hx hlt
        go_wp2_with fail
        go_round
        case rel=>exact ⟨j+1,HLT.out,by go_num,HT.out⟩
        case measure=>have:=HLT.out;simp [intOf];omega
    · have:n=j:=by omega
      subst this
      have HF:Hid (false=r):=by
        show _=_
        rw [← HM.out,decide_eq_false]
        intro h
        have:=HNE.out m (by rw [List.take_of_length_le (by rw [HN.out];exact Nat.le_refl _)];exact h)
        exact this rfl
      go_wp2_with fail
      go_ret
      exact ⟨ret_bool HF.out,rfl⟩
end Go.Proofs.YtccbpngehedbaaaGreat

namespace Go.Proofs.YtccbpngehedbaaaGreat
open Go Go.RowKit Go.Sort
set_option linter.unusedVariables false

/-! The document's log: how the last file is mended. -/
def lgA (fa:Option Addr) (fn fc:Nat) (fu:Int) (dn:Bool) (K M:Int) (sa:Option Addr) (sn sc:Nat) (ov:Bool):Array Value:=#[.slice fa fn fc,.int .i64 fu,.bool dn,.int .i64 K,.int .i64 M,.slice sa sn sc,.bool ov]
def RLB (w:World) (b:Nat) (fa:Option Addr) (fn fc:Nat) (fu:Int) (dn:Bool) (K M:Int) (sa:Option Addr) (sn sc:Nat) (ov:Bool):Prop:=w.heap[b]?=some (.cells (lgA fa fn fc fu dn K M sa sn sc ov) 34)
section
variable {w w':World} {b:Nat} {fa:Option Addr} {fn fc:Nat} {fu:Int} {dn:Bool} {K M:Int} {sa:Option Addr} {sn sc:Nat} {ov:Bool}
theorem RLB.lt (h:RLB w b fa fn fc fu dn K M sa sn sc ov):b < w.heap.size:=(Array.getElem?_eq_some_iff.1 h).1
theorem RLB.cell (h:RLB w b fa fn fc fu dn K M sa sn sc ov) (i:Nat) {u:Value} (hu:(lgA fa fn fc fu dn K M sa sn sc ov)[i]?=some u):w.cell? ⟨b,i,none⟩=some u:=by unfold RLB at h;simp [World.cell?,h,hu]
theorem RLB.fz (h:RLB w b fa fn fc fu dn K M sa sn sc ov) (i:Nat):w.frozen? ⟨b,i,none⟩=false:=by unfold RLB at h;simp [World.frozen?,h]
theorem RLB.below (h:RLB w b fa fn fc fu dn K M sa sn sc ov) {B:Nat} (hb:Below B w w') (hB:b < B):RLB w' b fa fn fc fu dn K M sa sn sc ov:=(hb.block b hB).trans h
theorem RLB.grown (h:RLB w b fa fn fc fu dn K M sa sn sc ov) {row:Option Nat} (hg:w.grownBy w' row) (hr:some b ≠ row):RLB w' b fa fn fc fu dn K M sa sn sc ov:=(hg.block b h.lt hr).trans h
theorem RLB.range (h:RLB w b fa fn fc fu dn K M sa sn sc ov):w.rangeAt b 0 [.slice fa fn fc,.int .i64 fu,.bool dn,.int .i64 K,.int .i64 M,.slice sa sn sc,.bool ov]:=fun j u hu=>by
  rw [Nat.zero_add];exact h.cell j (by simpa [lgA] using hu)
theorem RLB.setFS (h:RLB w b fa fn fc fu dn K M sa sn sc ov) (fa2:Option Addr) (fn2 fc2:Nat) (fu2:Int) (dn2:Bool):RLB (w.setCells b 0 [.slice fa2 fn2 fc2,.int .i64 fu2,.bool dn2]) b fa2 fn2 fc2 fu2 dn2 K M sa sn sc ov:=by
  unfold RLB at h ⊢
  simp [World.setCells,World.setCell,Array.getElem?_modify,h,lgA]
theorem RLB.set5 (h:RLB w b fa fn fc fu dn K M sa sn sc ov) (sa2:Option Addr) (sn2 sc2:Nat):RLB (w.setCell ⟨b,5,none⟩ (.slice sa2 sn2 sc2)) b fa fn fc fu dn K M sa2 sn2 sc2 ov:=by
  unfold RLB at h ⊢
  simp [World.setCell,Array.getElem?_modify,h,lgA]
end
theorem size_rlog:(Tryz.prog.info? 34).map (·.size)=some 7:=by kernel_rfl
/-- What a call on the document's log leaves. -/
def RLOut (w:World) (m':FSm) (K M:Int) (Ls:List RS) (code:Int) (e:Ending) (w':World):Prop :=
  ∃ (fa:Option Addr) (fc:Nat) (sa:Option Addr) (sc:Nat),e=.returned (.tuple #[.agg (lgA fa m'.files.length fc m'.fuse m'.down K M sa Ls.length sc false),.int .i64 code])∧m'.files.length≤fc∧fc≤maxLen∧Rd w' w'.heap.size fa (flF m'.files) ∧
    Ls.length≤sc∧sc≤maxLen∧Rd w' w'.heap.size sa (flatG RS.l Ls)∧(∀ x ∈ Ls,RsAt w' x)∧Below w.heap.size w w'
/-- The boxes of mend: three blocks. -/
def Bx (n:Nat) (k:Nat):Prop:=n≤k∧k < n+3
structure MendI (w wr:World) (m:FSm) (K M:Int) (fa:Option Addr) (fc:Nat) (sa:Option Addr) (sc:Nat) (Ls:List RS):Prop where
  box:RLB wr w.heap.size fa m.files.length fc m.fuse m.down K M sa Ls.length sc false
  res:wr.there (w.heap.size+2) 0 7
  sz:w.heap.size+3≤wr.heap.size
  fl:RdN (Bx w.heap.size) wr fa (flF m.files)
  f1:m.files.length≤fc∧fc≤maxLen
  sg:RdN (Bx w.heap.size) wr sa (flatG RS.l Ls)
  s1:Ls.length≤sc∧sc≤maxLen
  at_:∀ x ∈ Ls,RdN (Bx w.heap.size) wr x.a (sV x.L)∧x.L.length≤x.c∧x.c≤maxLen
  bel:Below w.heap.size w wr
theorem rdn_below {U:Nat→Prop} {w w':World} {a:Option Addr} {cs:List Value} (h:RdN U w a cs) (hb:Below w.heap.size w w') (hU:∀ k,U k→k < w.heap.size):RdN U w' a cs:=fun h0=>by
  obtain ⟨b,off,ha,hlt,hn,hc⟩:=h h0
  have _:=hU
  exact ⟨b,off,ha,Nat.lt_of_lt_of_le hlt hb.size,hn,fun j u hu=>by rw [hb.cell (p:=⟨b,off+j,none⟩) hlt];exact hc j u hu⟩
theorem MendI.below {w wr w':World} {m:FSm} {K M:Int} {fa:Option Addr} {fc:Nat} {sa:Option Addr} {sc:Nat} {Ls:List RS} (h:MendI w wr m K M fa fc sa sc Ls) (hb:Below wr.heap.size wr w'):MendI w w' m K M fa fc sa sc Ls:=by
  have hU:∀ k,Bx w.heap.size k→k < wr.heap.size:=fun k hk=>by have:=h.sz;have:=hk.2;omega
  exact ⟨h.box.below hb h.box.lt,there_below h.res hb (by have:=h.sz;omega),Nat.le_trans h.sz hb.size,rdn_below h.fl hb hU,h.f1,rdn_below h.sg hb hU,h.s1,fun x hx=>⟨rdn_below (h.at_ x hx).1 hb hU,(h.at_ x hx).2⟩,bel2 h.bel hb⟩
theorem off_cells {w:World} {B:Nat} (cs:List Value):∀ (i:Nat),Off (fun k=>k=B) w (w.setCells B i cs):=by
  induction cs generalizing w with
  | nil=>intro i;exact Off.refl _ _
  | cons u us ih =>
    intro i
    have h1:Off (fun k=>k=B) w (w.setCell ⟨B,i,none⟩ u):=⟨rfl,rfl,rfl,by simp,fun k _ hk=>by have:¬ B=k:=fun e=>hk e.symm;simp [World.setCell,Array.getElem?_modify,this]⟩
    have h2:=ih (w:=w.setCell ⟨B,i,none⟩ u) (i+1)
    exact ⟨h2.os.trans h1.os,h2.tape.trans h1.tape,h2.output.trans h1.output,Nat.le_trans h1.size h2.size,fun k hk hn=>(h2.block k (Nat.lt_of_lt_of_le hk h1.size) hn).trans (h1.block k hk hn)⟩
theorem rdn_cells {n:Nat} {w:World} {a:Option Addr} {cs us:List Value} {B i:Nat} (h:RdN (Bx n) w a cs) (hB:Bx n B):RdN (Bx n) (w.setCells B i us) a cs:=fun h0=>by
  obtain ⟨b,off,ha,hlt,hn,hc⟩:=h h0
  have ho:=off_cells (w:=w) (B:=B) us i
  have hne:¬ b=B:=fun e=>by subst e;exact hn hB
  exact ⟨b,off,ha,Nat.lt_of_lt_of_le hlt ho.size,hn,fun j u hu=>by rw [ho.cell (p:=⟨b,off+j,none⟩) hlt hne];exact hc j u hu⟩
/-- Behind a call on the files, and its answer stored. -/
theorem MendI.fs {w wr w':World} {m m2:FSm} {K M:Int} {fa fa2:Option Addr} {fc fc2:Nat} {sa:Option Addr} {sc:Nat} {Ls:List RS} (h:MendI w wr m K M fa fc sa sc Ls) (h1:m2.files.length≤fc2) (h2:fc2≤maxLen) (h3:Rd w' w'.heap.size fa2 (flF m2.files)) (h4:From wr fa m.files fa2 m2.files) (hb:Below wr.heap.size wr w') :
    MendI w (w'.setCells w.heap.size 0 [.slice fa2 m2.files.length fc2,.int .i64 m2.fuse,.bool m2.down]) m2 K M fa2 fc2 sa sc Ls:=by
  have hh:=h.below hb
  have hB:Bx w.heap.size w.heap.size:=⟨Nat.le_refl _,by omega⟩
  have ho:=off_cells (w:=w') (B:=w.heap.size) [.slice fa2 m2.files.length fc2,.int .i64 m2.fuse,.bool m2.down] 0
  have hfl:RdN (Bx w.heap.size) w' fa2 (flF m2.files):=by
    rcases h4 with ⟨e1,e2⟩ | hf
    · rw [e1,e2];exact hh.fl
    · intro h0
      obtain ⟨b,off,ha,hlt,hc⟩:=h3 h0
      have:=hf b off none (by rw [ha])
      exact ⟨b,off,ha,hlt,fun hk=>by have:=h.sz;have:=hk.2;omega,hc⟩
  refine ⟨hh.box.setFS _ _ _ _ _,World.there_setCells hh.res _ _ _,Nat.le_trans hh.sz ho.size,rdn_cells hfl hB,⟨h1,h2⟩,rdn_cells hh.sg hB,hh.s1,fun x hx=>⟨rdn_cells (hh.at_ x hx).1 hB,(hh.at_ x hx).2⟩,Below_setCells (Nat.le_refl _) _ _ _ hh.bel⟩
/-- The three cells of the files, in the log's box. -/
theorem MendI.c {w wr:World} {m:FSm} {K M:Int} {fa:Option Addr} {fc:Nat} {sa:Option Addr} {sc:Nat} {Ls:List RS} (h:MendI w wr m K M fa fc sa sc Ls) :
    wr.cell? ⟨w.heap.size,0,none⟩=some (.slice fa m.files.length fc)∧wr.cell? ⟨w.heap.size,1,none⟩=some (.int .i64 m.fuse)∧wr.cell? ⟨w.heap.size,2,none⟩=some (.bool m.down)∧wr.frozen? ⟨w.heap.size,0,none⟩=false∧wr.frozen? ⟨w.heap.size,1,none⟩=false∧wr.frozen? ⟨w.heap.size,2,none⟩=false :=
  ⟨h.box.cell 0 rfl,h.box.cell 1 rfl,h.box.cell 2 rfl,h.box.fz 0,h.box.fz 1,h.box.fz 2⟩
theorem mendI_start {w:World} {m:FSm} {K M:Int} {fa:Option Addr} {fc:Nat} {sa:Option Addr} {sc:Nat} {Ls:List RS} (o:Obj) (hfl:Rd w w.heap.size fa (flF m.files)) (hf1:m.files.length≤fc) (hf2:fc≤maxLen)
    (hsg:Rd w w.heap.size sa (flatG RS.l Ls)) (hs1:Ls.length≤sc) (hs2:sc≤maxLen) (hat:∀ x ∈ Ls,RsAt w x) {v:World}
    (hv:v=((w.alloc (.cells (lgA fa m.files.length fc m.fuse m.down K M sa Ls.length sc false) 34)).alloc o).alloc (.cells #[.slice none 0 0,.int .i64 0,.bool false,.int .i64 0,.int .i64 0,.slice none 0 0,.bool false] 34)):MendI w v m K M fa fc sa sc Ls:=by
  have hb:Below w.heap.size w v:=by rw [hv];exact ((box1 w _).alloc (by simp) _).alloc (by simp;omega) _
  have hr:∀ {a:Option Addr} {cs:List Value},Rd w w.heap.size a cs→RdN (Bx w.heap.size) v a cs:=fun h=>RdN.of (h.below hb) hb.size fun k hk=>hk.1
  refine ⟨?_,?_,by rw [hv];simp,hr hfl,⟨hf1,hf2⟩,hr hsg,⟨hs1,hs2⟩,fun x hx=>⟨hr (hat x hx).1,(hat x hx).2⟩,hb⟩
  · have h0:RLB (w.alloc (.cells (lgA fa m.files.length fc m.fuse m.down K M sa Ls.length sc false) 34)) w.heap.size fa m.files.length fc m.fuse m.down K M sa Ls.length sc false:=heap_alloc_new w _
    rw [hv]
    exact (h0.below (box1 _ o) h0.lt).below (box1 _ _) (by simp;omega)
  · rw [hv]
    exact there_last _ _ _ _ _ rfl (by simp)
/-- The answer, laid. -/
theorem MendI.out {w wr:World} {m:FSm} {K M:Int} {fa:Option Addr} {fc:Nat} {sa:Option Addr} {sc:Nat} {Ls:List RS} (h:MendI w wr m K M fa fc sa sc Ls) (us:List Value) (code:Int) :
    RLOut w m K M Ls code (.returned (.tuple #[.agg (lgA fa m.files.length fc m.fuse m.down K M sa Ls.length sc false),.int .i64 code])) (wr.setCells (w.heap.size+2) 0 us):=by
  have hB:Bx w.heap.size (w.heap.size+2):=⟨by omega,by omega⟩
  refine ⟨fa,fc,sa,sc,rfl,h.f1.1,h.f1.2,(rdn_cells h.fl hB).rd,h.s1.1,h.s1.2,(rdn_cells h.sg hB).rd,fun x hx=>⟨(rdn_cells (h.at_ x hx).1 hB).rd,(h.at_ x hx).2⟩,Below_setCells (by omega) _ _ _ h.bel⟩
theorem takeL_eq (m:FSm) (n:Nat):takeL m n=if (removeF m n).2=0 then syncF (removeF m n).1 n else removeF m n:=by
  unfold takeL
  by_cases h:(removeF m n).2=0 <;> simp [h]
/-- What the files are to mend's calls. -/
structure FsMay (m:FSm):Prop where
  few:m.files.length≤1000000
  f1:-9223372036854775808≤m.fuse
  f2:m.fuse≤9223372036854775807
set_option maxRecDepth 20000 in
set_option maxHeartbeats 4000000 in
theorem mendR_err (fa:Option Addr) (fc:Nat) (m:FSm) (K M:Int) (sa:Option Addr) (sc n:Nat) (bt:ByteArray) (x:RS) (e:Int) (Ls:List RS) (w:World) (he:e ≠ 0) (hm:FsMay m) (hm2:FsMay (removeF m n).1) (hfl:Rd w w.heap.size fa (flF m.files)) (hf1:m.files.length≤fc) (hf2:fc≤maxLen)
    (hsg:Rd w w.heap.size sa (flatG RS.l Ls)) (hs1:Ls.length≤sc) (hs2:sc≤maxLen) (hat:∀ x ∈ Ls,RsAt w x) (r:FSm × Int) (hr:takeL m n=r) :
    Calls Tryz.prog 71 #[.agg (lgA fa m.files.length fc m.fuse m.down K M sa Ls.length sc false),.int .u32 (n:Int),.string bt,.agg #[.int .u32 (x.n:Int),.int .i64 (x.k:Int),.slice x.a x.L.length x.c,.int .i64 x.g],.int .i64 e] w (RLOut w r.1 K M Ls r.2):=by
  have h0:(e != 0)=true:=by simp [he]
  have HR:=Lib.hid hr;have HM:=Lib.hid hm;have HM2:=Lib.hid hm2
  obtain ⟨w3,hw3⟩:∃ w3,w3=((w.alloc (.cells (lgA fa m.files.length fc m.fuse m.down K M sa Ls.length sc false) 34)).alloc (.cells #[.int .u32 (x.n:Int),.int .i64 (x.k:Int),.slice x.a x.L.length x.c,.int .i64 x.g] 133)).alloc (.cells #[.slice none 0 0,.int .i64 0,.bool false,.int .i64 0,.int .i64 0,.slice none 0 0,.bool false] 34):=⟨_,rfl⟩
  have HI:Hid (MendI w w3 m K M fa fc sa sc Ls):=mendI_start _ hfl hf1 hf2 hsg hs1 hs2 hat hw3
  clear he hr hm hm2 hfl hf1 hf2 hsg hs1 hs2 hat
  unfold lgA at hw3 ⊢
  go_enter Tryz.func71,Tryz.ntmps71
  go_wp2_with fail
  rw [← hw3]
  clear hw3
  refine (remove_fs fa fc m n w3 HI.out.fl.rd (by have:=HM.out.few;omega) HI.out.f1.1 HI.out.f1.2 HM.out.f1 HM.out.f2).mono ?_
  rintro e1 w4 ⟨fa4,fc4,rfl,g1,g2,g3,g4,hb4⟩
  have HI4:=Lib.hid (HI.out.fs g1 g2 g3 g4 hb4)
  obtain ⟨y0,y1,y2,z0,z1,z2⟩:=(HI.out.below hb4).c
  obtain ⟨m2,c2,hm2⟩:∃ m2 c2,removeF m n=(m2,c2):=⟨_,_,rfl⟩
  have HRM:=Lib.hid hm2
  rw [hm2] at HI4 HM2 ⊢
  clear g1 g2 g3 g4 hb4 hm2
  dsimp only at HI4 HM2
  obtain ⟨w5,hw5⟩:∃ w5,w5=((w4.setCell ⟨w.heap.size,0,none⟩ (.slice fa4 m2.files.length fc4)).setCell ⟨w.heap.size,1,none⟩ (.int .i64 m2.fuse)).setCell ⟨w.heap.size,2,none⟩ (.bool m2.down):=⟨_,rfl⟩
  have HI5:Hid (MendI w w5 m2 K M fa4 fc4 sa sc Ls):=by show MendI _ _ _ _ _ _ _ _ _ _;rw [hw5];exact HI4.out
  unfold fsv
  by_cases hz:c2=0
  · have hzb:(c2 == 0)=true:=by simp [hz]
    have HZ:=Lib.hid hz
    clear hz HI4
    go_upto_region 4 with fail
    rw [← hw5]
    clear hw5 y0 y1 y2 z0 z1 z2
    obtain ⟨v0,v1,v2,_,_,_⟩:=HI5.out.c
    go_wp2_with fail
    refine (sync_fs fa4 fc4 m2 n w5 HI5.out.fl.rd (by have:=HM2.out.few;omega) HI5.out.f1.1 HI5.out.f1.2 HM2.out.f1 HM2.out.f2).mono ?_
    rintro e1 w6 ⟨fa6,fc6,rfl,g1,g2,g3,g4,hb6⟩
    have HI6:=Lib.hid (HI5.out.fs g1 g2 g3 g4 hb6)
    obtain ⟨y0,y1,y2,z0,z1,z2⟩:=(HI5.out.below hb6).c
    obtain ⟨m3,c3,hm3⟩:∃ m3 c3,syncF m2 n=(m3,c3):=⟨_,_,rfl⟩
    have HSM:=Lib.hid hm3
    rw [hm3] at HI6 ⊢
    clear g1 g2 g3 g4 hb6 hm3 v0 v1 v2
    dsimp only at HI6
    obtain ⟨w7,hw7⟩:∃ w7,w7=((w6.setCell ⟨w.heap.size,0,none⟩ (.slice fa6 m3.files.length fc6)).setCell ⟨w.heap.size,1,none⟩ (.int .i64 m3.fuse)).setCell ⟨w.heap.size,2,none⟩ (.bool m3.down):=⟨_,rfl⟩
    have HI7:Hid (MendI w w7 m3 K M fa6 fc6 sa sc Ls):=by show MendI _ _ _ _ _ _ _ _ _ _;rw [hw7];exact HI6.out
    unfold fsv
    go_upto_region 5 with fail
    rw [← hw7]
    clear hw7 y0 y1 y2 z0 z1 z2 HI6
    have HRG9:=Lib.hid HI7.out.box.range
    have HT9:=Lib.hid HI7.out.res
    go_wp2_with (first
      | (refine wpList_load_mid rfl 34 (.tmp 5) rfl w.heap.size 0 rfl [.slice fa6 m3.files.length fc6,.int .i64 m3.fuse,.bool m3.down,.int .i64 K,.int .i64 M,.slice sa Ls.length sc,.bool false] _ HRG9.out Tryz.underlying34 rfl size_rlog ?_)
      | (refine wpList_store_mid rfl 34 (.tmp 10) (.tmp 32) rfl (w.heap.size+2) 0 #[.slice fa6 m3.files.length fc6,.int .i64 m3.fuse,.bool m3.down,.int .i64 K,.int .i64 M,.slice sa Ls.length sc,.bool false] rfl rfl HT9.out size_rlog (by simp [Value.oneCell']) ?_))
    refine bodyPost_ret (v:=.tuple #[.agg (lgA fa6 m3.files.length fc6 m3.fuse m3.down K M sa Ls.length sc false),.int .i64 c3]) (results_cell_two (p:=10) (u:=11) (ty:=34) (b:=w.heap.size+2) (x:=.int .i64 c3) rfl rfl rfl (run_loadVar_mid (P:=Tryz.prog) _ (w.heap.size+2) 0 34 _ _ (World.rangeAt_setCells_same _ (w.heap.size+2) 0 _ HT9.out) Tryz.underlying34 rfl size_rlog)) rfl ?_
    have hr:=HR.out
    rw [takeL_eq,HRM.out,if_pos HZ.out,HSM.out] at hr
    subst hr
    exact HI7.out.out _ _
  · have hzb:(c2 == 0)=false:=by simp [hz]
    have HZ:=Lib.hid hz
    clear hz HI4
    go_upto_region 5 with fail
    rw [← hw5]
    clear hw5 y0 y1 y2 z0 z1 z2
    have HRG9:=Lib.hid HI5.out.box.range
    have HT9:=Lib.hid HI5.out.res
    go_wp2_with (first
      | (refine wpList_load_mid rfl 34 (.tmp 5) rfl w.heap.size 0 rfl [.slice fa4 m2.files.length fc4,.int .i64 m2.fuse,.bool m2.down,.int .i64 K,.int .i64 M,.slice sa Ls.length sc,.bool false] _ HRG9.out Tryz.underlying34 rfl size_rlog ?_)
      | (refine wpList_store_mid rfl 34 (.tmp 10) (.tmp 32) rfl (w.heap.size+2) 0 #[.slice fa4 m2.files.length fc4,.int .i64 m2.fuse,.bool m2.down,.int .i64 K,.int .i64 M,.slice sa Ls.length sc,.bool false] rfl rfl HT9.out size_rlog (by simp [Value.oneCell']) ?_))
    refine bodyPost_ret (v:=.tuple #[.agg (lgA fa4 m2.files.length fc4 m2.fuse m2.down K M sa Ls.length sc false),.int .i64 c2]) (results_cell_two (p:=10) (u:=11) (ty:=34) (b:=w.heap.size+2) (x:=.int .i64 c2) rfl rfl rfl (run_loadVar_mid (P:=Tryz.prog) _ (w.heap.size+2) 0 34 _ _ (World.rangeAt_setCells_same _ (w.heap.size+2) 0 _ HT9.out) Tryz.underlying34 rfl size_rlog)) rfl ?_
    have hr:=HR.out
    rw [takeL_eq,HRM.out,if_neg HZ.out] at hr
    subst hr
    exact HI5.out.out _ _
end Go.Proofs.YtccbpngehedbaaaGreat

namespace Go.Proofs.YtccbpngehedbaaaGreat
open Go Go.RowKit Go.Sort
set_option linter.unusedVariables false

/-! The document's log: how the last file is mended, where it is the log's. -/
/-- The segment's box. -/
def SB (w wr:World) (x:RS):Prop:=wr.heap[w.heap.size+1]?=some (.cells #[.int .u32 (x.n:Int),.int .i64 (x.k:Int),.slice x.a x.L.length x.c,.int .i64 x.g] 133)
theorem SB.below {w wr w':World} {x:RS} (h:SB w wr x) (hs:w.heap.size+3≤wr.heap.size) (hb:Below wr.heap.size wr w'):SB w w' x:=(hb.block _ (by omega)).trans h
theorem SB.cells {w wr:World} {x:RS} (h:SB w wr x) (i:Nat) (us:List Value):SB w (wr.setCells w.heap.size i us) x :=
  ((off_cells (w:=wr) (B:=w.heap.size) us i).block _ (Array.getElem?_eq_some_iff.1 h).1 (by omega)).trans h
theorem SB.c {w wr:World} {x:RS} (h:SB w wr x):wr.cell? ⟨w.heap.size+1,0,none⟩=some (.int .u32 (x.n:Int))∧wr.cell? ⟨w.heap.size+1,1,none⟩=some (.int .i64 (x.k:Int))∧wr.cell? ⟨w.heap.size+1,2,none⟩=some (.slice x.a x.L.length x.c)∧wr.cell? ⟨w.heap.size+1,3,none⟩=some (.int .i64 x.g):=by
  unfold SB at h
  simp [World.cell?,h]
theorem sb_start {w v:World} {x:RS} (o:Obj) (o2:Obj) (hv:v=((w.alloc o).alloc (.cells #[.int .u32 (x.n:Int),.int .i64 (x.k:Int),.slice x.a x.L.length x.c,.int .i64 x.g] 133)).alloc o2):SB w v x:=by
  have h:=heap_alloc_new (w.alloc o) (.cells #[.int .u32 (x.n:Int),.int .i64 (x.k:Int),.slice x.a x.L.length x.c,.int .i64 x.g] 133)
  rw [show (w.alloc o).heap.size=w.heap.size+1 by simp] at h
  rw [hv]
  exact ((box1 _ o2).block _ (by simp)).trans h
theorem info_rseg:(Tryz.prog.info? 133).map (fun i=>(i.zero,i.size,i.bytes))=some (some (.agg #[.int .u32 0,.int .i64 0,.slice none 0 0,.int .i64 0]),4,48):=by kernel_rfl
theorem own_nil {W:World} {base b:Nat} {e:TypeId} {size:Nat} (hc:W.heap[b]?=some (.cells #[] e)) (hb:base≤b):W.ownsRow base e size (.slice (some ⟨b,0,none⟩) 0 0) 0 [] :=
  ⟨by simp,.inr ⟨b,0,#[],rfl,hb,hc,Nat.le_refl _,Nat.zero_le _,by simp,by simp⟩⟩
theorem rd_block {W:World} {b:Nat} {x:RS} {e:TypeId} (h:W.heap[b]?=some (.cells x.l.toArray e)):Rd W W.heap.size (some ⟨b,0,none⟩) x.l:=fun _ =>
  ⟨b,0,rfl,(Array.getElem?_eq_some_iff.1 h).1,fun j u hu=>by simp [World.cell?,h,hu]⟩
theorem hg_block {W w7:World} {row:Option Nat} {b:Nat} {o:Obj} (hg:W.grownBy w7 row) (h:W.heap[b]?=some o) (hb:b < W.heap.size) (hr:some b ≠ row):w7.heap[b]?=some o:=(hg.block b hb hr).trans h
theorem alloc2_new (w:World) (o o2:Obj):((w.alloc o).alloc o2).heap[w.heap.size+1]?=some o2:=by
  have h:=heap_alloc_new (w.alloc o) o2
  rwa [show (w.alloc o).heap.size=w.heap.size+1 by simp] at h
theorem rs_len (L:List RS):(flatG RS.l L).length=L.length * 4:=flatG_length (enc:=RS.l) (m:=4) (fun _=>rfl) L
theorem rs_one (L:List RS):∀ u ∈ flatG RS.l L,u.oneCell'=true:=flatG_all (fun x u hu=>by
  simp [RS.l] at hu
  rcases hu with rfl | rfl | rfl | rfl <;> rfl) L
theorem step_append_rd_here {P:Program} (w:World) {ops:Array Oper} {o:Oper} {ac:Act} {K:Act→World→Prop} {Q:Exit→Act→World→Prop} {E:Prop} (hgd:o.guard=none) (s x:Operand) (t:TypeId)
    (ho:o.op=.call { callee:=.builtin .append,args:=#[s,x],argTypes:=#[t,t] })
    (base:Nat) (e:TypeId) (i:TypeInfo) (z:Value) (size bytes:Nat) (ht:P.underlying t=some (.slice e)) (hi:P.info? e=some i) (hz:i.zero=some z)
    (hsize:i.size=size) (hby:i.bytes=bytes) (hzs:z.cells.size=size) (hsz:0 < size)
    (v:Value) (n:Nat) (xs:List Value) (hs:ac.eval s=v) (hown:w.ownsRow base e size v n xs)
    (a:Option Addr) (m c:Nat) (news:List Value) (hx:ac.eval x=.slice a m c) (hl:news.length=m * size) (hr:Rd w w.heap.size a news) (h1:∀ u ∈ news,u.oneCell'=true)
    (h63:n+m≤maxLen) (hbytes:(n+m) * bytes≤140737488355328) (hbase:base≤w.heap.size)
    (h:∀ v' w',w'.ownsRow base e size v' (n+m) (xs ++ news)→w.grownBy w' v.ownBlock→(v'.ownBlock=v.ownBlock∨v'.ownBlock=some w.heap.size)→K (ac.put o.dst v') w') :
    if Region.wanted o (yielded ops ac.tmps)=true then Oper.wp P o ac w K Q else E :=
  step_append_rd w hgd s x t ho base e i z size bytes ht hi hz hsize hby hzs hsz v n xs hs hown w.heap.size a m c news hx hl hr h1 h63 hbytes hbase h
set_option maxRecDepth 20000 in
set_option maxHeartbeats 4000000 in
theorem mendR_other
    (fa:Option Addr) (fc:Nat) (m:FSm) (K M:Int) (sa:Option Addr) (sc n:Nat) (bt:ByteArray) (x:RS) (Ls:List RS) (w:World) (hm:FsMay m) (hfl:Rd w w.heap.size fa (flF m.files)) (hf1:m.files.length≤fc) (hf2:fc≤maxLen)
    (hsg:Rd w w.heap.size sa (flatG RS.l Ls)) (hs1:Ls.length≤sc) (hs2:sc≤maxLen) (hat:∀ x ∈ Ls,RsAt w x) (hx:¬ (x.n=n∧(x.k:Int)=K)) :
    Calls Tryz.prog 71 #[.agg (lgA fa m.files.length fc m.fuse m.down K M sa Ls.length sc false),.int .u32 (n:Int),.string bt,.agg #[.int .u32 (x.n:Int),.int .i64 (x.k:Int),.slice x.a x.L.length x.c,.int .i64 x.g],.int .i64 0] w (RLOut w m K M Ls 3):=by
  obtain ⟨w3,hw3⟩:∃ w3,w3=((w.alloc (.cells (lgA fa m.files.length fc m.fuse m.down K M sa Ls.length sc false) 34)).alloc (.cells #[.int .u32 (x.n:Int),.int .i64 (x.k:Int),.slice x.a x.L.length x.c,.int .i64 x.g] 133)).alloc (.cells #[.slice none 0 0,.int .i64 0,.bool false,.int .i64 0,.int .i64 0,.slice none 0 0,.bool false] 34):=⟨_,rfl⟩
  have HI:Hid (MendI w w3 m K M fa fc sa sc Ls):=mendI_start _ hfl hf1 hf2 hsg hs1 hs2 hat hw3
  clear hfl hf1 hf2 hsg hs1 hs2 hat hm
  unfold lgA at hw3 ⊢
  by_cases hxn:x.n=n
  · have b1:((x.n:Int) != (n:Int))=false:=by simp [hxn]
    have b2:((x.k:Int) != K)=true:=by simp;exact fun e=>hx ⟨hxn,e⟩
    clear hxn hx
    go_enter Tryz.func71,Tryz.ntmps71
    go_upto_region 7 with fail
    rw [← hw3]
    clear hw3
    have HRG9:=Lib.hid HI.out.box.range
    have HT9:=Lib.hid HI.out.res
    go_wp2_with (first
      | (refine wpList_load_mid rfl 34 (.tmp 5) rfl w.heap.size 0 rfl [.slice fa m.files.length fc,.int .i64 m.fuse,.bool m.down,.int .i64 K,.int .i64 M,.slice sa Ls.length sc,.bool false] _ HRG9.out Tryz.underlying34 rfl size_rlog ?_)
      | (refine wpList_store_mid rfl 34 (.tmp 10) (.tmp 45) rfl (w.heap.size+2) 0 #[.slice fa m.files.length fc,.int .i64 m.fuse,.bool m.down,.int .i64 K,.int .i64 M,.slice sa Ls.length sc,.bool false] rfl rfl HT9.out size_rlog (by simp [Value.oneCell']) ?_))
    refine bodyPost_ret (v:=.tuple #[.agg (lgA fa m.files.length fc m.fuse m.down K M sa Ls.length sc false),.int .i64 3]) (results_cell_two (p:=10) (u:=11) (ty:=34) (b:=w.heap.size+2) (x:=.int .i64 3) rfl rfl rfl (run_loadVar_mid (P:=Tryz.prog) _ (w.heap.size+2) 0 34 _ _ (World.rangeAt_setCells_same _ (w.heap.size+2) 0 _ HT9.out) Tryz.underlying34 rfl size_rlog)) rfl ?_
    exact HI.out.out _ _
  · have b1:((x.n:Int) != (n:Int))=true:=by simp;omega
    clear hxn hx
    go_enter Tryz.func71,Tryz.ntmps71
    go_upto_region 7 with fail
    rw [← hw3]
    clear hw3
    have HRG9:=Lib.hid HI.out.box.range
    have HT9:=Lib.hid HI.out.res
    go_wp2_with (first
      | (refine wpList_load_mid rfl 34 (.tmp 5) rfl w.heap.size 0 rfl [.slice fa m.files.length fc,.int .i64 m.fuse,.bool m.down,.int .i64 K,.int .i64 M,.slice sa Ls.length sc,.bool false] _ HRG9.out Tryz.underlying34 rfl size_rlog ?_)
      | (refine wpList_store_mid rfl 34 (.tmp 10) (.tmp 45) rfl (w.heap.size+2) 0 #[.slice fa m.files.length fc,.int .i64 m.fuse,.bool m.down,.int .i64 K,.int .i64 M,.slice sa Ls.length sc,.bool false] rfl rfl HT9.out size_rlog (by simp [Value.oneCell']) ?_))
    refine bodyPost_ret (v:=.tuple #[.agg (lgA fa m.files.length fc m.fuse m.down K M sa Ls.length sc false),.int .i64 3]) (results_cell_two (p:=10) (u:=11) (ty:=34) (b:=w.heap.size+2) (x:=.int .i64 3) rfl rfl rfl (run_loadVar_mid (P:=Tryz.prog) _ (w.heap.size+2) 0 34 _ _ (World.rangeAt_setCells_same _ (w.heap.size+2) 0 _ HT9.out) Tryz.underlying34 rfl size_rlog)) rfl ?_
    exact HI.out.out _ _
/-- What is done to the last file, where it is the log's. -/
def mendT (m:FSm) (n:Nat) (g:Int) (bl:Nat) (se:Bool):FSm × Int :=
  if g < (bl:Int) then (if (truncF m n g).2=0 then syncF (truncF m n g).1 n else truncF m n g)
  else if se=true∧n ∈ numsF true m.files then syncF m n else (m,0)
theorem mend_push {w wc w8:World} {m:FSm} {K M:Int} {fa sa a8:Option Addr} {fc sc c8:Nat} {Ls:List RS} {x:RS} (h:MendI w wc m K M fa fc sa sc Ls) (hx:RsAt w x) (hw:Below wc.heap.size wc w8) (ho:w8.ownsRow wc.heap.size 133 4 (.slice a8 (Ls ++ [x]).length c8) (Ls ++ [x]).length ([] ++ flatG RS.l Ls ++ x.l)) :
    MendI w (w8.setCell ⟨w.heap.size,5,none⟩ (.slice a8 (Ls.length+1) c8)) m K M fa fc a8 c8 (Ls ++ [x]):=by
  have h8:=h.below hw
  have hB:Bx w.heap.size w.heap.size:=⟨Nat.le_refl _,by omega⟩
  have hl:(Ls ++ [x]).length=Ls.length+1:=by simp
  obtain ⟨a,c,he,q1,q2,_⟩:=own_slice ho
  injection he with e1 e2 e3
  subst e1 e3
  have hset:w8.setCell ⟨w.heap.size,5,none⟩ (.slice a8 (Ls.length+1) c8)=w8.setCells w.heap.size 5 [.slice a8 (Ls.length+1) c8]:=rfl
  refine ⟨?_,?_,?_,?_,h.f1,?_,⟨q1,q2⟩,fun y hy=>?_,?_⟩
  · rw [hl];exact h8.box.set5 a8 (Ls.length+1) c8
  · rw [hset];exact World.there_setCells h8.res _ _ _
  · simpa using h8.sz
  · rw [hset];exact rdn_cells h8.fl hB
  · rw [hset]
    refine rdn_cells ?_ hB
    rw [flatG_append,show flatG RS.l [x]=x.l by simp [flatG]]
    exact RdN.own (by simpa using ho) fun k hk=>by have:=h.sz;have:=hk.2;omega
  · rw [hset]
    rcases List.mem_append.1 hy with e | e
    · exact ⟨rdn_cells (h8.at_ y e).1 hB,(h8.at_ y e).2⟩
    · rw [List.mem_singleton.1 e]
      exact ⟨rdn_cells (RdN.of (hx.1.below h8.bel) h8.bel.size fun k hk=>hk.1) hB,hx.2⟩
  · rw [hset];exact Below_setCells (Nat.le_refl _) _ _ _ h8.bel
set_option maxRecDepth 20000 in
set_option maxHeartbeats 8000000 in
theorem mendR_ok
    (fa:Option Addr) (fc:Nat) (m:FSm) (K M:Int) (sa:Option Addr) (sc n:Nat) (bt:ByteArray) (x:RS) (Ls:List RS) (w:World) (hm:FsMay m) (hfl:Rd w w.heap.size fa (flF m.files)) (hf1:m.files.length≤fc) (hf2:fc≤maxLen)
    (hsg:Rd w w.heap.size sa (flatG RS.l Ls)) (hs1:Ls.length≤sc) (hs2:sc≤maxLen) (hat:∀ x ∈ Ls,RsAt w x) (hxn:x.n=n) (hxk:(x.k:Int)=K) (hx:RsAt w x) (hg:-9223372036854775808≤x.g∧x.g≤9223372036854775807) (hm2:FsMay (truncF m n x.g).1) (hbt:bt.size≤1000000000000) (hK:0 < K) (hLs:Ls.length≤1000000) (hlx:x.L.length≤1000000)
    (r:FSm × Int) (hr:mendT m n x.g bt.size (decide (0 < x.k) && decide (x.L.length=x.k))=r) :
    Calls Tryz.prog 71 #[.agg (lgA fa m.files.length fc m.fuse m.down K M sa Ls.length sc false),.int .u32 (n:Int),.string bt,.agg #[.int .u32 (x.n:Int),.int .i64 (x.k:Int),.slice x.a x.L.length x.c,.int .i64 x.g],.int .i64 0] w (RLOut w r.1 K M (Ls ++ [x]) r.2):=by
  obtain ⟨w3,hw3⟩:∃ w3,w3=((w.alloc (.cells (lgA fa m.files.length fc m.fuse m.down K M sa Ls.length sc false) 34)).alloc (.cells #[.int .u32 (x.n:Int),.int .i64 (x.k:Int),.slice x.a x.L.length x.c,.int .i64 x.g] 133)).alloc (.cells #[.slice none 0 0,.int .i64 0,.bool false,.int .i64 0,.int .i64 0,.slice none 0 0,.bool false] 34):=⟨_,rfl⟩
  have HI:Hid (MendI w w3 m K M fa fc sa sc Ls):=mendI_start _ hfl hf1 hf2 hsg hs1 hs2 hat hw3
  have HIS:Hid (SB w w3 x):=sb_start _ _ hw3
  have HM:=Lib.hid hm;have HM2:=Lib.hid hm2;have HR:=Lib.hid hr
  have HX0:=Lib.hid hx
  have HLS:=Lib.hid hLs
  have b1:((x.n:Int) != (n:Int))=false:=by simp [hxn]
  have b2:((x.k:Int) != K)=false:=by simp [hxk]
  have hkk:(0:Int) < (x.k:Int):=by omega
  clear hfl hf1 hf2 hsg hs1 hs2 hat hm hm2 hr hxn hxk hx hLs
  unfold lgA at hw3 ⊢
  go_enter Tryz.func71,Tryz.ntmps71
  go_upto_if 50 with fail
  rw [← hw3]
  clear hw3
  go_cut [4] (fun s4 wc=>∃ (m2:FSm) (fa2:Option Addr) (fc2:Nat) (code:Int),s4=.int .i64 code∧MendI w wc m2 K M fa2 fc2 sa sc Ls∧SB w wc x∧(m2,code)=r)
  case first =>
    obtain ⟨v0,v1,v2,_,_,_⟩:=HI.out.c
    obtain ⟨s0,s1,s2,s3⟩:=HIS.out.c
    by_cases hlt:x.g < (bt.size:Int)
    · have HLT:=Lib.hid hlt
      go_wp2_with fail
      refine (trunc_fs fa fc m n x.g w3 HI.out.fl.rd (by have:=HM.out.few;omega) HI.out.f1.1 HI.out.f1.2 HM.out.f1 HM.out.f2).mono ?_
      rintro e1 w4 ⟨fa4,fc4,rfl,g1,g2,g3,g4,hbw4⟩
      have HHI5:=Lib.hid (HI.out.fs g1 g2 g3 g4 hbw4)
      have HSBw4:Hid (SB w w4 x):=HIS.out.below HI.out.sz hbw4
      obtain ⟨y0,y1,y2,z0,z1,z2⟩:=(HI.out.below hbw4).c
      obtain ⟨m2,c2,hm2⟩:∃ m2 c2,truncF m n x.g=(m2,c2):=⟨_,_,rfl⟩
      have HRm2:=Lib.hid hm2
      rw [hm2] at HHI5 ⊢
      clear g1 g2 g3 g4 hbw4 hm2
      dsimp only at HHI5
      obtain ⟨w5,hw5⟩:∃ w5,w5=((w4.setCell ⟨w.heap.size,0,none⟩ (.slice fa4 m2.files.length fc4)).setCell ⟨w.heap.size,1,none⟩ (.int .i64 m2.fuse)).setCell ⟨w.heap.size,2,none⟩ (.bool m2.down):=⟨_,rfl⟩
      have HI5:Hid (MendI w w5 m2 K M fa4 fc4 sa sc Ls):=by show MendI _ _ _ _ _ _ _ _ _ _;rw [hw5];exact HHI5.out
      have HI5S:Hid (SB w w5 x):=by show SB _ _ _;rw [hw5];exact HSBw4.out.cells 0 [.slice fa4 m2.files.length fc4,.int .i64 m2.fuse,.bool m2.down]
      unfold fsv
      by_cases hz:c2=0
      · have hzb:(c2 == 0)=true:=by simp [hz]
        have HZ:=Lib.hid hz
        rw [HRm2.out] at HM2
        clear hz HHI5
        go_upto_region 11 with fail
        rw [← hw5]
        clear hw5 y0 y1 y2 z0 z1 z2 v0 v1 v2 s0 s1 s2 s3
        obtain ⟨v0,v1,v2,_,_,_⟩:=HI5.out.c
        obtain ⟨s0,s1,s2,s3⟩:=HI5S.out.c
        go_wp2_with fail
        refine (sync_fs fa4 fc4 m2 n w5 HI5.out.fl.rd (by have:=HM2.out.few;omega) HI5.out.f1.1 HI5.out.f1.2 HM2.out.f1 HM2.out.f2).mono ?_
        rintro e1 w6 ⟨fa6,fc6,rfl,g1,g2,g3,g4,hbw6⟩
        have HHI7:=Lib.hid (HI5.out.fs g1 g2 g3 g4 hbw6)
        have HSBw6:Hid (SB w w6 x):=HI5S.out.below HI5.out.sz hbw6
        obtain ⟨y0,y1,y2,z0,z1,z2⟩:=(HI5.out.below hbw6).c
        obtain ⟨m3,c3,hm3⟩:∃ m3 c3,syncF m2 n=(m3,c3):=⟨_,_,rfl⟩
        have HRm3:=Lib.hid hm3
        rw [hm3] at HHI7 ⊢
        clear g1 g2 g3 g4 hbw6 hm3
        dsimp only at HHI7
        obtain ⟨w7,hw7⟩:∃ w7,w7=((w6.setCell ⟨w.heap.size,0,none⟩ (.slice fa6 m3.files.length fc6)).setCell ⟨w.heap.size,1,none⟩ (.int .i64 m3.fuse)).setCell ⟨w.heap.size,2,none⟩ (.bool m3.down):=⟨_,rfl⟩
        have HI7:Hid (MendI w w7 m3 K M fa6 fc6 sa sc Ls):=by show MendI _ _ _ _ _ _ _ _ _ _;rw [hw7];exact HHI7.out
        have HI7S:Hid (SB w w7 x):=by show SB _ _ _;rw [hw7];exact HSBw6.out.cells 0 [.slice fa6 m3.files.length fc6,.int .i64 m3.fuse,.bool m3.down]
        unfold fsv
        clear HHI7 v0 v1 v2 s0 s1 s2 s3
        go_wp2_with fail
        go_meet
        case rel =>
          rw [← hw7]
          refine ⟨m3,fa6,fc6,c3,rfl,HI7.out,HI7S.out,?_⟩
          have hr:=HR.out
          unfold mendT at hr
          rw [if_pos HLT.out,HRm2.out,if_pos HZ.out,HRm3.out] at hr
          exact hr
      · have hzb:(c2 == 0)=false:=by simp [hz]
        have HZ:=Lib.hid hz
        clear hz HHI5 v0 v1 v2 s0 s1 s2 s3
        go_wp2_with fail
        go_meet
        case rel =>
          rw [← hw5]
          refine ⟨m2,fa4,fc4,c2,rfl,HI5.out,HI5S.out,?_⟩
          have hr:=HR.out
          unfold mendT at hr
          rw [if_pos HLT.out,HRm2.out,if_neg HZ.out] at hr
          exact hr
    · have HLT:=Lib.hid hlt
      obtain ⟨se,hse⟩:∃ se,(decide (0 < x.k) && decide (x.L.length=x.k))=se:=⟨_,rfl⟩
      have HSE:=Lib.hid hse
      clear hse
      go_wp2_with fail
      refine (sealed_is x.n x.k x.L.length x.c x.a x.g se HSE.out w3).mono ?_
      rintro e1 w4 ⟨rfl,hb4⟩
      have HI4:=Lib.hid (HI.out.below hb4)
      have HI4S:=Lib.hid (HIS.out.below HI.out.sz hb4)
      clear hb4 v0 v1 v2 s0 s1 s2 s3
      obtain ⟨v0,v1,v2,_,_,_⟩:=HI4.out.c
      cases se
      · go_wp2_with fail
        go_meet
        case rel =>
          refine ⟨m,fa,fc,0,rfl,HI4.out,HI4S.out,?_⟩
          have hr:=HR.out
          unfold mendT at hr
          rw [if_neg (show ¬ x.g < (bt.size:Int) by have:=HLT.out;omega),HSE.out,if_neg (fun h=>by cases h.1)] at hr
          exact hr
      · go_wp2_with fail
        refine (unsafe_fs fa fc m.files m.fuse m.down w4 HI4.out.fl.rd (by have:=HM.out.few;omega)).mono ?_
        rintro e1 w5 ⟨a5,c5,rfl,_,_,hu5,_,hb5⟩
        have HI5:=Lib.hid (HI4.out.below hb5)
        have HI5S:=Lib.hid (HI4S.out.below HI4.out.sz hb5)
        have HU5:=Lib.hid hu5
        obtain ⟨un,hun⟩:∃ un,decide (n ∈ numsF true m.files)=un:=⟨_,rfl⟩
        have HUN:=Lib.hid hun
        clear hu5 hb5 hun v0 v1 v2
        go_wp2_with fail
        refine (in_is a5 c5 n (numsF true m.files) un w5 HU5.out (by have:=numsF_le true m.files;have:=HM.out.few;omega) HUN.out).mono ?_
        rintro e1 w6 ⟨rfl,rfl⟩
        obtain ⟨v0,v1,v2,_,_,_⟩:=HI5.out.c
        cases un
        · go_wp2_with fail
          go_meet
          case rel =>
            refine ⟨m,fa,fc,0,rfl,HI5.out,HI5S.out,?_⟩
            have hr:=HR.out
            unfold mendT at hr
            rw [if_neg (show ¬ x.g < (bt.size:Int) by have:=HLT.out;omega),if_neg (fun h=>by have:=HUN.out;simp [h.2] at this)] at hr
            exact hr
        · go_wp2_with fail
          refine (sync_fs fa fc m n w5 HI5.out.fl.rd (by have:=HM.out.few;omega) HI5.out.f1.1 HI5.out.f1.2 HM.out.f1 HM.out.f2).mono ?_
          rintro e1 w6 ⟨fa6,fc6,rfl,g1,g2,g3,g4,hbw6⟩
          have HHI7:=Lib.hid (HI5.out.fs g1 g2 g3 g4 hbw6)
          have HSBw6:Hid (SB w w6 x):=HI5S.out.below HI5.out.sz hbw6
          obtain ⟨y0,y1,y2,z0,z1,z2⟩:=(HI5.out.below hbw6).c
          obtain ⟨m3,c3,hm3⟩:∃ m3 c3,syncF m n=(m3,c3):=⟨_,_,rfl⟩
          have HRm3:=Lib.hid hm3
          rw [hm3] at HHI7 ⊢
          clear g1 g2 g3 g4 hbw6 hm3
          dsimp only at HHI7
          obtain ⟨w7,hw7⟩:∃ w7,w7=((w6.setCell ⟨w.heap.size,0,none⟩ (.slice fa6 m3.files.length fc6)).setCell ⟨w.heap.size,1,none⟩ (.int .i64 m3.fuse)).setCell ⟨w.heap.size,2,none⟩ (.bool m3.down):=⟨_,rfl⟩
          have HI7:Hid (MendI w w7 m3 K M fa6 fc6 sa sc Ls):=by show MendI _ _ _ _ _ _ _ _ _ _;rw [hw7];exact HHI7.out
          have HI7S:Hid (SB w w7 x):=by show SB _ _ _;rw [hw7];exact HSBw6.out.cells 0 [.slice fa6 m3.files.length fc6,.int .i64 m3.fuse,.bool m3.down]
          unfold fsv
          clear HHI7 v0 v1 v2
          go_wp2_with fail
          go_meet
          case rel =>
            rw [← hw7]
            refine ⟨m3,fa6,fc6,c3,rfl,HI7.out,HI7S.out,?_⟩
            have hr:=HR.out
            unfold mendT at hr
            rw [if_neg (show ¬ x.g < (bt.size:Int) by have:=HLT.out;omega),HSE.out,if_pos ⟨rfl,by simpa using HUN.out⟩,HRm3.out] at hr
            exact hr
  case rest =>
    obtain ⟨m2,fa2,fc2,code,rfl,hmi,hsb,hmr⟩:=hcut
    have HJ:=Lib.hid hmi;have HJS:=Lib.hid hsb;have HMR:=Lib.hid hmr
    obtain ⟨i0,hi0,hz0,hz1,hz2⟩:=info_parts info_rseg
    have HZ2:=Lib.hid hz2;clear hz2
    obtain ⟨nl,hnl⟩:∃ nl,nl=Ls.length:=⟨_,rfl⟩
    have HNL:=Lib.hid hnl
    have q5:wc.cell? ⟨w.heap.size,5,none⟩=some (.slice sa nl sc):=by rw [hnl];exact HJ.out.box.cell 5 rfl
    obtain ⟨s0,s1,s2,s3⟩:=HJS.out.c
    have k5:∀ (W:World) (o:Obj),W.cell? ⟨w.heap.size,5,none⟩=some (.slice sa nl sc)→(W.alloc o).cell? ⟨w.heap.size,5,none⟩=some (.slice sa nl sc):=fun W o h=>Lib.cell?_alloc_some o h
    have k0:∀ (W:World) (o:Obj),W.cell? ⟨w.heap.size+1,0,none⟩=some (.int .u32 (x.n:Int))→(W.alloc o).cell? ⟨w.heap.size+1,0,none⟩=some (.int .u32 (x.n:Int)):=fun W o h=>Lib.cell?_alloc_some o h
    have k1:∀ (W:World) (o:Obj),W.cell? ⟨w.heap.size+1,1,none⟩=some (.int .i64 (x.k:Int))→(W.alloc o).cell? ⟨w.heap.size+1,1,none⟩=some (.int .i64 (x.k:Int)):=fun W o h=>Lib.cell?_alloc_some o h
    have k2:∀ (W:World) (o:Obj),W.cell? ⟨w.heap.size+1,2,none⟩=some (.slice x.a x.L.length x.c)→(W.alloc o).cell? ⟨w.heap.size+1,2,none⟩=some (.slice x.a x.L.length x.c):=fun W o h=>Lib.cell?_alloc_some o h
    have k3:∀ (W:World) (o:Obj),W.cell? ⟨w.heap.size+1,3,none⟩=some (.int .i64 x.g)→(W.alloc o).cell? ⟨w.heap.size+1,3,none⟩=some (.int .i64 x.g):=fun W o h=>Lib.cell?_alloc_some o h
    have hbase:w.heap.size+3≤wc.heap.size:=HJ.out.sz
    have hnl6:nl≤1000000:=by rw [hnl];exact HLS.out
    clear hmi hsb hmr hnl
    go_wp2_with fail
    go_region_law
      (first
        | (refine step_append_rd _ (by rfl) (.tmp 88) (.tmp 90) 32 (by rfl) wc.heap.size 133 i0 _ 4 48 Tryz.underlying32 hi0 hz0 hz1 HZ2.out rfl (by omega) _ 0 [] (by rfl) (own_nil ?hc ?hb) _ sa nl sc (flatG RS.l Ls) (by rfl) (by rw [rs_len, ← HNL.out]) (HJ.out.sg.rd.below ?hw) (rs_one Ls) (by unfold maxLen; omega) (by omega) (by first | exact Nat.le_refl _ | (simp; done) | (simp; omega)) ?_
           case hc=>first | exact heap_alloc_new _ _ | exact alloc2_new _ _ _ | exact ((box1 _ _).block _ (by simp)).trans (heap_alloc_new _ _)
           case hb=>first | exact Nat.le_refl _ | (simp;done) | (simp;omega)
           case hw=>repeat (first | exact Below.refl _ _ | refine Below_drew ?_ | refine Below.alloc ?_ (by first | exact Nat.le_refl _ | (simp;done) | (simp;omega)) _)
           intro v7 w7 hown7 hg7 _
           have hw7:Below wc.heap.size wc w7:=by
             refine Below.of_grown ?_ hg7 (by first | exact Nat.le_refl _ | (simp;done) | (simp;omega)) ?_
             · repeat (first | exact Below.refl _ _ | refine Below_drew ?_ | refine Below.alloc ?_ (by first | exact Nat.le_refl _ | (simp;done) | (simp;omega)) _)
             · intro g h;simp [Value.ownBlock] at h;omega
           have HW7:=Lib.hid hw7
           have HOWN7:=Lib.hid hown7
           have HG7:=Lib.hid hg7
           obtain ⟨s0,s1,s2,s3⟩:=(HJS.out.below HJ.out.sz hw7).c
           clear hw7 hown7 hg7)
        | (refine step_append_rd_here _ (by rfl) (.tmp 91) (.tmp 93) 32 (by rfl) wc.heap.size 133 i0 _ 4 48 Tryz.underlying32 hi0 hz0 hz1 HZ2.out rfl (by omega) v7 (0 + nl) ([] ++ flatG RS.l Ls) (by rfl) ?zo _ 1 1 x.l (by rfl) rfl ?zr (by intro u hu; simp [RS.l] at hu; rcases hu with rfl | rfl | rfl | rfl <;> rfl) (by unfold maxLen; omega) (by omega) ?zb ?_
           case zo=>first | exact HOWN7.out | exact own_below HOWN7.out (box1 _ _)
           case zr=>first | exact rd_block (heap_alloc_new _ _) | exact rd_block (hg_block HG7.out (alloc2_new _ _ _) (by first | (simp;done) | (simp;omega)) (by simp [Value.ownBlock])) | exact rd_block (hg_block HG7.out (heap_alloc_new _ _) (by first | (simp;done) | (simp;omega)) (by simp [Value.ownBlock])) | exact rd_block (hg_block HG7.out (((box1 _ _).block _ (by simp)).trans (heap_alloc_new _ _)) (by first | (simp;done) | (simp;omega)) (by simp [Value.ownBlock]))
           case zb=>first | exact HW7.out.size | exact Nat.le_trans HW7.out.size (by simp;done)
           intro v8 w8 hown8 hg8 _
           have hw8:Below wc.heap.size wc w8:=by
             first
               | exact Below.of_grown HW7.out hg8 HW7.out.size (fun g e=>(own_shape HOWN7.out e).1)
               | exact Below.of_grown (HW7.out.alloc HW7.out.size _) hg8 (Nat.le_trans HW7.out.size (by simp)) (fun g e=>(own_shape HOWN7.out e).1)
           rw [show 0+nl+1=(Ls ++ [x]).length by rw [HNL.out,List.length_append];simp] at hown8
           obtain ⟨a8,c8,rfl,_,_,_⟩:=own_slice hown8
           have HW8:=Lib.hid hw8
           have HOWN8:=Lib.hid hown8
           have hj8:=HJ.out.box.below hw8 HJ.out.box.lt
           have c8':=hj8.cell 5 (u:=.slice sa Ls.length sc) rfl
           have f8':=hj8.fz 5
           clear hw8 hown8 hg8)
        | fail "no arm")
    all_goals
      clear q5 s0 s1 s2 s3 k5 k0 k1 k2 k3 c8' f8'
      obtain ⟨w9,hw9⟩:∃ w9,w9=w8.setCell ⟨w.heap.size,5,none⟩ (.slice a8 (Ls.length+1) c8):=⟨_,rfl⟩
      obtain ⟨Lx,hLx⟩:∃ Lx,Lx=Ls ++ [x]:=⟨_,rfl⟩
      have HLX:=Lib.hid hLx
      have HI9:Hid (MendI w w9 m2 K M fa2 fc2 a8 c8 Lx):=by show MendI _ _ _ _ _ _ _ _ _ _;rw [hw9,hLx];exact mend_push HJ.out HX0.out HW8.out HOWN8.out
      rw [← hw9]
      clear hw9 hLx
      go_upto_region 15 with fail
      have HRG9:=Lib.hid HI9.out.box.range
      have HT9:=Lib.hid HI9.out.res
      go_wp2_with (first
        | (refine wpList_load_mid rfl 34 (.tmp 5) rfl w.heap.size 0 rfl [.slice fa2 m2.files.length fc2,.int .i64 m2.fuse,.bool m2.down,.int .i64 K,.int .i64 M,.slice a8 Lx.length c8,.bool false] _ HRG9.out Tryz.underlying34 rfl size_rlog ?_)
        | (refine wpList_store_mid rfl 34 (.tmp 10) (.tmp 96) rfl (w.heap.size+2) 0 #[.slice fa2 m2.files.length fc2,.int .i64 m2.fuse,.bool m2.down,.int .i64 K,.int .i64 M,.slice a8 Lx.length c8,.bool false] rfl rfl HT9.out size_rlog (by simp [Value.oneCell']) ?_))
      refine bodyPost_ret (v:=.tuple #[.agg (lgA fa2 m2.files.length fc2 m2.fuse m2.down K M a8 Lx.length c8 false),.int .i64 code]) (results_cell_two (p:=10) (u:=11) (ty:=34) (b:=w.heap.size+2) (x:=.int .i64 code) rfl rfl rfl (run_loadVar_mid (P:=Tryz.prog) _ (w.heap.size+2) 0 34 _ _ (World.rangeAt_setCells_same _ (w.heap.size+2) 0 _ HT9.out) Tryz.underlying34 rfl size_rlog)) rfl ?_
      have hr:=HMR.out
      subst hr
      rw [← HLX.out]
      exact HI9.out.out _ _
end Go.Proofs.YtccbpngehedbaaaGreat

namespace Go.Proofs.YtccbpngehedbaaaGreat
open Go Go.RowKit Go.Sort
set_option linter.unusedVariables false

/-! The document's log, opened: its boxes; what is stored at the end. -/
def zlA:Array Value:=#[.slice none 0 0,.int .i64 0,.bool false,.int .i64 0,.int .i64 0,.slice none 0 0,.bool false]
def ZL (w:World) (b:Nat):Prop:=w.heap[b]?=some (.cells zlA 34)
theorem ZL.there {w:World} {b:Nat} (h:ZL w b):w.there b 0 7:=by
  intro j hj
  unfold ZL at h
  have:∃ u,zlA[j]?=some u:=⟨zlA[j]'(by simpa [zlA] using hj),Array.getElem?_eq_getElem _⟩
  obtain ⟨u,hu⟩:=this
  simp [World.cell?,World.frozen?,h,hu]
theorem ZL.below {w w':World} {b:Nat} (h:ZL w b) {B:Nat} (hb:Below B w w') (hB:b < B):ZL w' b:=(hb.block b hB).trans h
theorem ZL.kinds {w:World} {b:Nat} (h:ZL w b) {off:Nat} {u:Value} (hc:w.cell? ⟨b,off,none⟩=some u):(∀ x,u ≠ .int .u32 x)∧∀ x,u ≠ .string x:=by
  unfold ZL at h
  simp only [World.cell?,h] at hc
  match off,hc with
  | 0,hc=>simp [zlA] at hc;subst hc;simp
  | 1,hc=>simp [zlA] at hc;subst hc;simp
  | 2,hc=>simp [zlA] at hc;subst hc;simp
  | 3,hc=>simp [zlA] at hc;subst hc;simp
  | 4,hc=>simp [zlA] at hc;subst hc;simp
  | 5,hc=>simp [zlA] at hc;subst hc;simp
  | 6,hc=>simp [zlA] at hc;subst hc;simp
  | n+7,hc=>simp [zlA] at hc
theorem Rd.off_zl {w:World} {a:Option Addr} {cs us:List Value} {B i:Nat} (h:Rd w w.heap.size a cs) (hz:ZL w B) (h0:∀ u,cs[0]?=some u→(∃ x,u=.int .u32 x)∨∃ x,u=.string x):Rd (w.setCells B i us) (w.setCells B i us).heap.size a cs:=fun hl=>by
  obtain ⟨b,off,ha,hlt,hc⟩:=h hl
  have ho:=off_cells (w:=w) (B:=B) us i
  have hne:¬ b=B:=fun e=>by
    subst e
    have q:=hc 0 cs[0] (by simp [hl])
    obtain ⟨z1,z2⟩:=hz.kinds q
    rcases h0 cs[0] (by simp [hl]) with ⟨x,hx⟩ | ⟨x,hx⟩
    · exact z1 x hx
    · exact z2 x hx
  exact ⟨b,off,ha,Nat.lt_of_lt_of_le hlt ho.size,fun j u hu=>by rw [ho.cell (p:=⟨b,off+j,none⟩) hlt hne];exact hc j u hu⟩
theorem flF_zero (L:List Fl):∀ u,(flF L)[0]?=some u→(∃ x,u=.int .u32 x)∨∃ x,u=.string x:=by
  intro u hu
  cases L with
  | nil=>simp [flF,flatG] at hu
  | cons x L=>left;simp [flF,flatG,Fl.l] at hu;exact ⟨_,hu.symm⟩
theorem flG_zero (L:List RS):∀ u,(flatG RS.l L)[0]?=some u→(∃ x,u=.int .u32 x)∨∃ x,u=.string x:=by
  intro u hu
  cases L with
  | nil=>simp [flatG] at hu
  | cons x L=>left;simp [flatG,RS.l] at hu;exact ⟨_,hu.symm⟩
theorem sV_zero (L:List (List UInt8)):∀ u,(sV L)[0]?=some u→(∃ x,u=.int .u32 x)∨∃ x,u=.string x:=by
  intro u hu
  cases L with
  | nil=>simp [sV] at hu
  | cons x L=>right;simp [sV] at hu;exact ⟨_,hu.symm⟩
/-- The answer of a call, stored once more. -/
theorem RLOut.store {w w1 w2:World} {m:FSm} {K M:Int} {Ls:List RS} {code:Int} {e:Ending} (h:RLOut w1 m K M Ls code e w2) {B:Nat} (hz:ZL w2 B) (hB:w.heap.size≤B) (hb:Below w.heap.size w w1) (us:List Value):RLOut w m K M Ls code e (w2.setCells B 0 us):=by
  obtain ⟨fa,fc,sa,sc,rfl,h1,h2,h3,h4,h5,h6,h7,h8⟩:=h
  exact ⟨fa,fc,sa,sc,rfl,h1,h2,h3.off_zl hz (flF_zero _),h4,h5,h6.off_zl hz (flG_zero _),fun x hx=>⟨(h7 x hx).1.off_zl hz (sV_zero _),(h7 x hx).2⟩,Below_setCells hB _ _ _ (bel2 hb h8)⟩
end Go.Proofs.YtccbpngehedbaaaGreat

namespace Go.Proofs.YtccbpngehedbaaaGreat
open Go Go.RowKit Go.Sort
set_option linter.unusedVariables false

/-! The document's log, opened: the boxes of Open, and its guards. -/
structure OpI (w:World) (B:Nat) (wr:World) (m:FSm) (K M:Int) (fa:Option Addr) (fc:Nat) (sa:Option Addr) (sc:Nat) (Ls:List RS):Prop where
  fb:wr.heap[w.heap.size]?=some (.cells #[.slice fa m.files.length fc,.int .i64 m.fuse,.bool m.down] 30)
  res:ZL wr (w.heap.size+1)
  box:RLB wr (w.heap.size+2) fa m.files.length fc m.fuse m.down K M sa Ls.length sc false
  sz:w.heap.size+3≤B∧B≤wr.heap.size
  fl:Rd wr w.heap.size fa (flF m.files)
  f1:m.files.length≤fc∧fc≤maxLen
  sg:wr.ownsRow B 133 4 (.slice sa Ls.length sc) Ls.length (flatG RS.l Ls)
  at_:∀ x ∈ Ls,wr.ownsRow B 9 1 (.slice x.a x.L.length x.c) x.L.length (sV x.L)
  bel:Below w.heap.size w wr
theorem rs_own {w:World} {B:Nat} {x:RS} (h:w.ownsRow B 9 1 (.slice x.a x.L.length x.c) x.L.length (sV x.L)):RsAt w x:=by
  obtain ⟨a,c,he,h1,h2,_⟩:=own_slice h
  injection he with e1 e2 e3
  refine ⟨Rd.own h,?_,?_⟩ <;> rw [e3] <;> assumption
theorem rd_blocks {w w':World} {B:Nat} {a:Option Addr} {cs:List Value} (h:Rd w B a cs) (hb:∀ k,k < B→w'.heap[k]?=w.heap[k]?):Rd w' B a cs:=fun h0=>by
  obtain ⟨b,off,ha,hlt,hc⟩:=h h0
  exact ⟨b,off,ha,hlt,fun j u hu=>by rw [← hc j u hu];simp [World.cell?,hb b hlt]⟩
section
variable {w wr w':World} {B:Nat} {m:FSm} {K M:Int} {fa:Option Addr} {fc:Nat} {sa:Option Addr} {sc:Nat} {Ls:List RS}
theorem OpI.below (h:OpI w B wr m K M fa fc sa sc Ls) (hb:Below wr.heap.size wr w'):OpI w B w' m K M fa fc sa sc Ls :=
  ⟨(hb.block _ (by have:=h.sz;omega)).trans h.fb,h.res.below hb (by have:=h.sz;omega),h.box.below hb (by have:=h.sz;omega),⟨h.sz.1,Nat.le_trans h.sz.2 hb.size⟩,rd_blocks h.fl fun k hk=>hb.block k (by have:=h.sz;omega),h.f1,own_below h.sg hb,fun x hx=>own_below (h.at_ x hx) hb,bel2 h.bel hb⟩
theorem OpI.up (h:OpI w B wr m K M fa fc none 0 []) {B':Nat} (h1:B≤B') (h2:B'≤wr.heap.size):OpI w B' wr m K M fa fc none 0 [] :=
  ⟨h.fb,h.res,h.box,⟨Nat.le_trans h.sz.1 h1,h2⟩,h.fl,h.f1,World.ownsRow_nil _ _ _ _,fun x hx=>by simp at hx,h.bel⟩
theorem OpI.c (h:OpI w B wr m K M fa fc sa sc Ls):wr.cell? ⟨w.heap.size,0,none⟩=some (.slice fa m.files.length fc)∧wr.cell? ⟨w.heap.size,1,none⟩=some (.int .i64 m.fuse)∧wr.cell? ⟨w.heap.size,2,none⟩=some (.bool m.down):=by
  have:=h.fb
  simp [World.cell?,this]
theorem OpI.flr (h:OpI w B wr m K M fa fc sa sc Ls):Rd wr wr.heap.size fa (flF m.files):=h.fl.more h.bel.size
theorem opI_start (hfl:Rd w w.heap.size fa (flF m.files)) (hf1:m.files.length≤fc) (hf2:fc≤maxLen) {v:World}
    (hv:v=((w.alloc (.cells #[.slice fa m.files.length fc,.int .i64 m.fuse,.bool m.down] 30)).alloc (.cells zlA 34)).alloc (.cells (lgA fa m.files.length fc m.fuse m.down K M none 0 0 false) 34)):OpI w (w.heap.size+3) v m K M fa fc none 0 []:=by
  have hb:Below w.heap.size w v:=by rw [hv];exact ((box1 w _).alloc (by simp) _).alloc (by simp;omega) _
  refine ⟨?_,?_,?_,by rw [hv];simp,rd_blocks hfl fun k hk=>hb.block k hk,⟨hf1,hf2⟩,World.ownsRow_nil _ _ _ _,fun x hx=>by simp at hx,hb⟩
  · rw [hv];exact ((box1 _ _).block _ (by simp;omega)).trans (((box1 _ _).block _ (by simp)).trans (heap_alloc_new w _))
  · have h:=heap_alloc_new (w.alloc (.cells #[.slice fa m.files.length fc,.int .i64 m.fuse,.bool m.down] 30)) (.cells zlA 34)
    rw [show (w.alloc (.cells #[.slice fa m.files.length fc,.int .i64 m.fuse,.bool m.down] 30)).heap.size=w.heap.size+1 by simp] at h
    rw [hv];exact ((box1 _ _).block _ (by simp)).trans h
  · have h:=heap_alloc_new ((w.alloc (.cells #[.slice fa m.files.length fc,.int .i64 m.fuse,.bool m.down] 30)).alloc (.cells zlA 34)) (.cells (lgA fa m.files.length fc m.fuse m.down K M none 0 0 false) 34)
    rw [show ((w.alloc (.cells #[.slice fa m.files.length fc,.int .i64 m.fuse,.bool m.down] 30)).alloc (.cells zlA 34)).heap.size=w.heap.size+2 by simp] at h
    rw [hv];exact h
/-- What Open answers where it refuses: the log's box as it stands. -/
theorem OpI.out (h:OpI w B wr m K M fa fc sa sc Ls) (us:List Value) (code:Int) :
    RLOut w m K M Ls code (.returned (.tuple #[.agg (lgA fa m.files.length fc m.fuse m.down K M sa Ls.length sc false),.int .i64 code])) (wr.setCells (w.heap.size+1) 0 us):=by
  have ho:=own_slice h.sg
  obtain ⟨a,c,he,h1,h2,_⟩:=ho
  have h3:=Rd.own h.sg
  injection he with e1 e2 e3
  subst e1 e3
  refine ⟨fa,fc,sa,sc,rfl,h.f1.1,h.f1.2,h.flr.off_zl h.res (flF_zero _),h1,h2,h3.off_zl h.res (flG_zero _),fun x hx=>⟨(rs_own (h.at_ x hx)).1.off_zl h.res (sV_zero _),(rs_own (h.at_ x hx)).2⟩,Below_setCells (by omega) _ _ _ h.bel⟩
theorem OpI.cap (h:OpI w B wr m K M fa fc sa sc Ls):Ls.length≤sc∧sc≤maxLen:=by
  obtain ⟨a,c,he,h1,h2,_⟩:=own_slice h.sg
  injection he with e1 e2 e3
  rw [e3];exact ⟨h1,h2⟩
theorem RX.range {N K:Nat} {v:Value} {g:Int} {b:Nat} (h:RX w b N K v g):w.rangeAt b 0 [.int .u32 (N:Int),.int .i64 (K:Int),v,.int .i64 g]:=fun j u hu=>by
  rw [Nat.zero_add];unfold RX at h;simp [World.cell?,h,hu]
theorem RX.low {N K:Nat} {v:Value} {g:Int} {b:Nat} (h:RX w b N K v g) (hb:Below w.heap.size w w'):RX w' b N K v g:=(hb.block b h.lt).trans h
theorem size_rseg:(Tryz.prog.info? 133).map (·.size)=some 4:=by kernel_rfl
/-- One segment more. -/
theorem OpI.push {x:RS} {o:Obj} {w9:World} {v9:Value} (h:OpI w B wr m K M fa fc sa sc Ls) (hx:wr.ownsRow B 9 1 (.slice x.a x.L.length x.c) x.L.length (sV x.L)) (hg:(wr.alloc o).grownBy w9 (Value.slice sa Ls.length sc).ownBlock) (hown:w9.ownsRow B 133 4 v9 (Ls.length+1) (flatG RS.l Ls ++ x.l)) :
    ∃ a9 c9,v9=.slice a9 (Ls.length+1) c9∧w9.cell? ⟨w.heap.size+2,5,none⟩=some (.slice sa Ls.length sc)∧w9.frozen? ⟨w.heap.size+2,5,none⟩=false∧(∀ k,k < B→k ≠ w.heap.size+2→(w9.setCell ⟨w.heap.size+2,5,none⟩ (.slice a9 (Ls.length+1) c9)).heap[k]?=wr.heap[k]?)∧OpI w B (w9.setCell ⟨w.heap.size+2,5,none⟩ (.slice a9 (Ls.length+1) c9)) m K M fa fc a9 c9 (Ls ++ [x]):=by
  obtain ⟨a9,c9,rfl,_,_,_⟩:=own_slice hown
  obtain ⟨s1,s2⟩:=h.sz
  have hA:=h.below (box1 wr o)
  have far:∀ b,b < B→some b ≠ (Value.slice sa Ls.length sc).ownBlock:=fun b hb=>own_ne h.sg (.inr hb)
  have blk:∀ b,b < B→w9.heap[b]?=wr.heap[b]?:=fun b hb=>(hg.block b (by simp;omega) (far b hb)).trans ((box1 wr o).block b (by omega))
  have hbox:RLB w9 (w.heap.size+2) fa m.files.length fc m.fuse m.down K M sa Ls.length sc false:=(blk _ (by omega)).trans h.box
  have set:∀ b,b ≠ w.heap.size+2→(w9.setCell ⟨w.heap.size+2,5,none⟩ (.slice a9 (Ls.length+1) c9)).heap[b]?=w9.heap[b]?:=fun b hb=>by
    have:¬ w.heap.size+2=b:=fun e=>hb e.symm
    simp [World.setCell,Array.getElem?_modify,this]
  have bel9:Below w.heap.size w w9:=Below.of_grown hA.bel hg hA.bel.size fun g e=>by have:=(own_shape h.sg e).1;omega
  have hl:(Ls ++ [x]).length=Ls.length+1:=by simp
  refine ⟨a9,c9,rfl,hbox.cell 5 rfl,hbox.fz 5,fun k hk hne=>(set k hne).trans (blk k hk),(set _ (by omega)).trans ((blk _ (by omega)).trans h.fb),(set _ (by omega)).trans ((blk _ (by omega)).trans h.res),?_,⟨s1,?_⟩,rd_blocks h.fl fun k hk=>(set k (by omega)).trans (blk k (by omega)),h.f1,?_,?_,?_⟩
  · rw [hl];exact hbox.set5 a9 (Ls.length+1) c9
  · have:=hg.size;simp at this;simp;omega
  · rw [hl,flatG_append,show flatG RS.l [x]=x.l by simp [flatG]];exact own_set hown (by omega) 5
  · intro y hy
    refine own_set ?_ (by omega) 5
    have hy':wr.ownsRow B 9 1 (.slice y.a y.L.length y.c) y.L.length (sV y.L):=by
      rcases List.mem_append.1 hy with e | e
      · exact h.at_ y e
      · rw [List.mem_singleton.1 e];exact hx
    exact own_far (own_below hy' (box1 wr o)) hg (rows_apart hy' h.sg (by decide))
  · exact bel9.setCell (by show _≤w.heap.size+2;omega) _
end
/-- What Open leaves. -/
def RS.sg (x:RS):SgM:=⟨x.n,x.L⟩
def ROpen (w:World) (m:FSm) (K M:Int) (r:Int × FSm × List SgM) (e:Ending) (w':World):Prop :=
  ∃ Ls:List RS,RLOut w r.2.1 K M Ls r.1 e w'∧(r.1=0→Ls.map RS.sg=r.2.2∧∀ x ∈ Ls,(x.k:Int)=K)
set_option maxRecDepth 20000 in
set_option maxHeartbeats 4000000 in
theorem openR_arg (fa : Option Addr) (fc : Nat) (m : FSm) (K M : Int) (w : World) (hfl : Rd w w.heap.size fa (flF m.files)) (hf1 : m.files.length ≤ fc) (hf2 : fc ≤ maxLen) (hg : ¬ (1 ≤ K ∧ K ≤ 16 ∧ 1 ≤ M ∧ M ≤ 32)) :
    Calls Tryz.prog 37 #[fsv fa m.files.length fc m.fuse m.down,.int .i64 K,.int .i64 M] w (RLOut w m K M [] 1):=by
  obtain ⟨w3,hw3⟩:∃ w3,w3=((w.alloc (.cells #[.slice fa m.files.length fc,.int .i64 m.fuse,.bool m.down] 30)).alloc (.cells zlA 34)).alloc (.cells (lgA fa m.files.length fc m.fuse m.down K M none 0 0 false) 34):=⟨_,rfl⟩
  have HI:Hid (OpI w (w.heap.size+3) w3 m K M fa fc none 0 []):=opI_start hfl hf1 hf2 hw3
  clear hfl hf1 hf2
  unfold zlA lgA at hw3
  unfold fsv
  by_cases h1:K < 1
  · clear hg
    go_enter Tryz.func37,Tryz.ntmps37
    go_upto_region 3 with fail
    rw [← hw3]
    clear hw3
    have HRG9:=Lib.hid HI.out.box.range
    have HT9:=Lib.hid HI.out.res.there
    go_wp2_with (first
      | (refine wpList_load_mid rfl 34 (.tmp 8) rfl (w.heap.size+2) 0 rfl [.slice fa m.files.length fc,.int .i64 m.fuse,.bool m.down,.int .i64 K,.int .i64 M,.slice none 0 0,.bool false] _ HRG9.out Tryz.underlying34 rfl size_rlog ?_)
      | (refine wpList_store_mid rfl 34 (.tmp 6) (.tmp 35) rfl (w.heap.size+1) 0 #[.slice fa m.files.length fc,.int .i64 m.fuse,.bool m.down,.int .i64 K,.int .i64 M,.slice none 0 0,.bool false] rfl rfl HT9.out size_rlog (by simp [Value.oneCell']) ?_))
    refine bodyPost_ret (v:=.tuple #[.agg (lgA fa m.files.length fc m.fuse m.down K M none 0 0 false),.int .i64 1]) (results_cell_two (p:=6) (u:=7) (ty:=34) (b:=w.heap.size+1) (x:=.int .i64 1) rfl rfl rfl (run_loadVar_mid (P:=Tryz.prog) _ (w.heap.size+1) 0 34 _ _ (World.rangeAt_setCells_same _ (w.heap.size+1) 0 _ HT9.out) Tryz.underlying34 rfl size_rlog)) rfl ?_
    exact HI.out.out _ _
  · by_cases h2:16 < K
    · clear hg
      go_enter Tryz.func37,Tryz.ntmps37
      go_upto_region 3 with fail
      rw [← hw3]
      clear hw3
      have HRG9:=Lib.hid HI.out.box.range
      have HT9:=Lib.hid HI.out.res.there
      go_wp2_with (first
        | (refine wpList_load_mid rfl 34 (.tmp 8) rfl (w.heap.size+2) 0 rfl [.slice fa m.files.length fc,.int .i64 m.fuse,.bool m.down,.int .i64 K,.int .i64 M,.slice none 0 0,.bool false] _ HRG9.out Tryz.underlying34 rfl size_rlog ?_)
        | (refine wpList_store_mid rfl 34 (.tmp 6) (.tmp 35) rfl (w.heap.size+1) 0 #[.slice fa m.files.length fc,.int .i64 m.fuse,.bool m.down,.int .i64 K,.int .i64 M,.slice none 0 0,.bool false] rfl rfl HT9.out size_rlog (by simp [Value.oneCell']) ?_))
      refine bodyPost_ret (v:=.tuple #[.agg (lgA fa m.files.length fc m.fuse m.down K M none 0 0 false),.int .i64 1]) (results_cell_two (p:=6) (u:=7) (ty:=34) (b:=w.heap.size+1) (x:=.int .i64 1) rfl rfl rfl (run_loadVar_mid (P:=Tryz.prog) _ (w.heap.size+1) 0 34 _ _ (World.rangeAt_setCells_same _ (w.heap.size+1) 0 _ HT9.out) Tryz.underlying34 rfl size_rlog)) rfl ?_
      exact HI.out.out _ _
    · by_cases h3:M < 1
      · clear hg
        go_enter Tryz.func37,Tryz.ntmps37
        go_upto_region 3 with fail
        rw [← hw3]
        clear hw3
        have HRG9:=Lib.hid HI.out.box.range
        have HT9:=Lib.hid HI.out.res.there
        go_wp2_with (first
          | (refine wpList_load_mid rfl 34 (.tmp 8) rfl (w.heap.size+2) 0 rfl [.slice fa m.files.length fc,.int .i64 m.fuse,.bool m.down,.int .i64 K,.int .i64 M,.slice none 0 0,.bool false] _ HRG9.out Tryz.underlying34 rfl size_rlog ?_)
          | (refine wpList_store_mid rfl 34 (.tmp 6) (.tmp 35) rfl (w.heap.size+1) 0 #[.slice fa m.files.length fc,.int .i64 m.fuse,.bool m.down,.int .i64 K,.int .i64 M,.slice none 0 0,.bool false] rfl rfl HT9.out size_rlog (by simp [Value.oneCell']) ?_))
        refine bodyPost_ret (v:=.tuple #[.agg (lgA fa m.files.length fc m.fuse m.down K M none 0 0 false),.int .i64 1]) (results_cell_two (p:=6) (u:=7) (ty:=34) (b:=w.heap.size+1) (x:=.int .i64 1) rfl rfl rfl (run_loadVar_mid (P:=Tryz.prog) _ (w.heap.size+1) 0 34 _ _ (World.rangeAt_setCells_same _ (w.heap.size+1) 0 _ HT9.out) Tryz.underlying34 rfl size_rlog)) rfl ?_
        exact HI.out.out _ _
      · by_cases h4:32 < M
        · clear hg
          go_enter Tryz.func37,Tryz.ntmps37
          go_upto_region 3 with fail
          rw [← hw3]
          clear hw3
          have HRG9:=Lib.hid HI.out.box.range
          have HT9:=Lib.hid HI.out.res.there
          go_wp2_with (first
            | (refine wpList_load_mid rfl 34 (.tmp 8) rfl (w.heap.size+2) 0 rfl [.slice fa m.files.length fc,.int .i64 m.fuse,.bool m.down,.int .i64 K,.int .i64 M,.slice none 0 0,.bool false] _ HRG9.out Tryz.underlying34 rfl size_rlog ?_)
            | (refine wpList_store_mid rfl 34 (.tmp 6) (.tmp 35) rfl (w.heap.size+1) 0 #[.slice fa m.files.length fc,.int .i64 m.fuse,.bool m.down,.int .i64 K,.int .i64 M,.slice none 0 0,.bool false] rfl rfl HT9.out size_rlog (by simp [Value.oneCell']) ?_))
          refine bodyPost_ret (v:=.tuple #[.agg (lgA fa m.files.length fc m.fuse m.down K M none 0 0 false),.int .i64 1]) (results_cell_two (p:=6) (u:=7) (ty:=34) (b:=w.heap.size+1) (x:=.int .i64 1) rfl rfl rfl (run_loadVar_mid (P:=Tryz.prog) _ (w.heap.size+1) 0 34 _ _ (World.rangeAt_setCells_same _ (w.heap.size+1) 0 _ HT9.out) Tryz.underlying34 rfl size_rlog)) rfl ?_
          exact HI.out.out _ _
        · exact absurd ⟨by omega,by omega,by omega,by omega⟩ hg
end Go.Proofs.YtccbpngehedbaaaGreat

