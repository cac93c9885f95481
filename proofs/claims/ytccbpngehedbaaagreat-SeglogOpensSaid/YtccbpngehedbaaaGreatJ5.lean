import Derived.Test.YtccbpngehedbaaaGreatJ4
namespace Go.Proofs.YtccbpngehedbaaaGreat
open Go Go.RowKit Go.Sort
set_option linter.unusedVariables false

/-! The document's reading of a segment, both ways in one; what mend has to pay. -/
def rdL (b:List UInt8):List (List UInt8):=match headOf b with | .ok (_,K)=>segB b K | .error _=>[]
def rdG (b:List UInt8):Int:=match headOf b with | .ok (_,K)=>(goodOf b K:Int) | .error _=>0
theorem refRead_one (t:ByteArray) (b:List UInt8) (w:World) (N K:Nat) (g:Int) (E:Int) (L:List (List UInt8)) (ht:t=bs b) (hl:b.length≤1000000000000)
    (hN:hdOf (headOf b)=(N,K)) (hg:rdG b=g) (hE:(hdErr (headOf b):Int)=E) (hL:rdL b=L) :
    Calls Tryz.prog 69 #[.string t] w fun e w'=>∃ (a:Option Addr) (c:Nat),e=.returned (.tuple #[.agg #[.int .u32 (N:Int),.int .i64 (K:Int),.slice a L.length c,.int .i64 g],.int .i64 E]) ∧
      w'.ownsRow w.heap.size 9 1 (.slice a L.length c) L.length (sV L)∧Below w.heap.size w w':=by
  refine (refRead_any t b w ht hl).mono ?_
  rintro e w1 ⟨hb,(⟨n,hh,rfl⟩ | ⟨N',K',v,hh,rfl,ho⟩)⟩
  · unfold rdG at hg;unfold rdL at hL
    rw [hh] at hN hE hg hL
    subst hE hg hL
    injection hN with e1 e2
    subst e1 e2
    exact ⟨none,0,rfl,World.ownsRow_nil _ _ _ _,hb⟩
  · unfold rdG at hg;unfold rdL at hL
    rw [hh] at hN hE hg hL
    subst hE hg hL
    injection hN with e1 e2
    subst e1 e2
    obtain ⟨a,c,rfl,_⟩:=own_slice ho
    refine ⟨a,c,?_,ho,hb⟩
    show _=Ending.returned (.tuple #[.agg #[.int .u32 (N':Int),.int .i64 (K':Int),.slice a (segB b K').length c,.int .i64 (goodOf b K':Int)],.int .i64 0])
    rw [← good_end]
    rfl
theorem whole_is {m:FSm} {k n N K:Nat} {g E:Int} {L:List (List UInt8)} (hN:hdOf (headOf (byF m n))=(N,K)) (hg:rdG (byF m n)=g) (hE:(hdErr (headOf (byF m n)):Int)=E) (hL:rdL (byF m n)=L) :
    wholeF m k n=true ↔ E=0∧N=n∧K=k∧L.length=K∧g=((byF m n).length:Int):=by
  unfold rdG at hg;unfold rdL at hL
  unfold wholeF headIs
  cases hh:headOf (byF m n) with
  | error e =>
    rw [hh] at hE
    have:=headOf_err hh
    refine ⟨fun h=>by simp at h,fun h=>?_⟩
    have h1:=h.1
    rw [← hE] at h1
    simp [hdErr] at h1
    omega
  | ok x =>
    obtain ⟨a,c⟩:=x
    rw [hh] at hN hE hg hL
    subst hE hg hL
    injection hN with e1 e2
    subst e1 e2
    simp only [Bool.and_eq_true,decide_eq_true_eq,hdErr]
    constructor
    · rintro ⟨⟨rfl,rfl⟩,h3,h4⟩
      exact ⟨rfl,rfl,rfl,h3,by rw [h4]⟩
    · rintro ⟨_,rfl,rfl,h3,h4⟩
      exact ⟨⟨rfl,rfl⟩,h3,by omega⟩
theorem whole_sg {m:FSm} {k n N K:Nat} {L:List (List UInt8)} (hN:hdOf (headOf (byF m n))=(N,K)) (hL:rdL (byF m n)=L) (hE:(hdErr (headOf (byF m n)):Int)=0) (h1:N=n) (h2:K=k):(⟨N,L⟩:SgM)=sgOf m k n:=by
  unfold rdL at hL
  unfold sgOf
  cases hh:headOf (byF m n) with
  | error e =>
    rw [hh] at hE
    have:=headOf_err hh
    simp [hdErr] at hE
    omega
  | ok x =>
    obtain ⟨a,c⟩:=x
    rw [hh] at hN hL
    injection hN with e1 e2
    subst e1 e2 h1 h2 hL
    rfl
theorem read_bs (m:FSm) (n:Nat):(readF m n).1=bs (byF m n):=rfl
def FitR (m:FSm):Prop:=Fit m∧-9223372036854775808≤m.fuse∧m.fuse≤9223372036854775807
theorem byF_le {m:FSm} (h:Fit m) (n:Nat):(byF m n).length≤1000000000:=by
  have hb:=h.bnd
  unfold byF readF
  split
  · rename_i ht
    have hm:(getF m.files n).now.size≤1000000000:=(get_sz hb.2 n).1
    simpa using hm
  · simp
/-- What mend has to pay. -/
def MendAll:Prop:=∀ (fa:Option Addr) (fc:Nat) (m:FSm) (K M:Int) (sa:Option Addr) (sc n:Nat) (x:RS) (Ls:List RS) (w:World) (E:Int) (t:ByteArray) (mr:Int × FSm × List SgM),FitR m→1≤K∧K≤16 →
    Rd w w.heap.size fa (flF m.files)→m.files.length≤fc→fc≤maxLen→Rd w w.heap.size sa (flatG RS.l Ls)→Ls.length≤sc→sc≤maxLen→Ls.length≤1000→(∀ y ∈ Ls,RsAt w y)→RsAt w x →
    (readF m n).1=t→hdOf (headOf (byF m n))=(x.n,x.k)→rdG (byF m n)=x.g→(hdErr (headOf (byF m n)):Int)=E→rdL (byF m n)=x.L→mendF m K.toNat n=mr →
    Calls Tryz.prog 71 #[.agg #[.slice fa m.files.length fc,.int .i64 m.fuse,.bool m.down,.int .i64 K,.int .i64 M,.slice sa Ls.length sc,.bool false],.int .u32 (n:Int),.string t,.agg #[.int .u32 (x.n:Int),.int .i64 (x.k:Int),.slice x.a x.L.length x.c,.int .i64 x.g],.int .i64 E] w
      fun e w'=>∃ Ls',RLOut w mr.2.1 K M Ls' mr.1 e w'∧(mr.1=0→Ls'.map RS.sg=Ls.map RS.sg ++ mr.2.2∧∀ y ∈ Ls',y ∈ Ls∨(y.k:Int)=K)
theorem info_rseg7:(Tryz.prog.info? 133).map (fun i=>(i.zero,i.size,i.bytes))=some (some (.agg #[.int .u32 0,.int .i64 0,.slice none 0 0,.int .i64 0]),4,48):=by kernel_rfl
theorem rl_one (x:RS):∀ u ∈ x.l,u.oneCell'=true:=fun u hu=>by
  simp [RS.l] at hu
  rcases hu with rfl | rfl | rfl | rfl <;> rfl
end Go.Proofs.YtccbpngehedbaaaGreat

namespace Go.Proofs.YtccbpngehedbaaaGreat
open Go Go.RowKit Go.Sort
set_option linter.unusedVariables false

/-! The document's log, opened: the files' numbers. -/
theorem drew1 (w:World):Below w.heap.size w w.drew:=Below_drew (Below.refl _ _)
/-- The files' numbers, in a block of their own. -/
def NA (w:World) (B:Nat) (wr:World) (na:Option Addr) (N:List Nat):Prop:=B≤wr.heap.size∧(0 < N.length→∃ b off,na=some ⟨b,off,none⟩∧w.heap.size+3≤b∧b < B∧∀ j,j < N.length→wr.cell? ⟨b,off+j,none⟩=some (.int .u32 (N.getD j 0:Int)))
theorem NA.of {w w3 wr:World} {na:Option Addr} {N:List Nat} (h:Rd wr wr.heap.size na (u32V N)) (hn:∀ b o s,na=some ⟨b,o,s⟩→w3.heap.size≤b) (h3:w.heap.size+3≤w3.heap.size):NA w wr.heap.size wr na N:=⟨Nat.le_refl _,fun h0=>by
  obtain ⟨b,off,rfl,hb,hc⟩:=u32V_cell h h0
  exact ⟨b,off,rfl,Nat.le_trans h3 (hn b off none rfl),hb,hc⟩⟩
theorem NA.keep {w wr w':World} {B:Nat} {na:Option Addr} {N:List Nat} (h:NA w B wr na N) (hs:wr.heap.size≤w'.heap.size) (hb:∀ k,w.heap.size+3≤k→k < B→w'.heap[k]?=wr.heap[k]?):NA w B w' na N:=⟨Nat.le_trans h.1 hs,fun h0=>by
  obtain ⟨b,off,rfl,h1,h2,hc⟩:=h.2 h0
  exact ⟨b,off,rfl,h1,h2,fun j hj=>by rw [← hc j hj];simp [World.cell?,hb b h1 h2]⟩⟩
theorem NA.below {w wr w':World} {B:Nat} {na:Option Addr} {N:List Nat} (h:NA w B wr na N) (hb:Below wr.heap.size wr w'):NA w B w' na N:=h.keep hb.size fun k _ h2=>hb.block k (Nat.lt_of_lt_of_le h2 h.1)
theorem RLOut.ropen {w w':World} {m:FSm} {K M code:Int} {e:Ending} (h:RLOut w m K M [] code e w'):ROpen w m K M (code,m,[]) e w':=⟨[],h,fun _=>⟨rfl,fun x hx=>by simp at hx⟩⟩
theorem RLOut.refuse {w w':World} {m:FSm} {K M code:Int} {Ls:List RS} {e:Ending} (h:RLOut w m K M Ls code e w') (hc:code ≠ 0) (l:List SgM):ROpen w m K M (code,m,l) e w':=⟨Ls,h,fun h0=>absurd h0 hc⟩
set_option maxRecDepth 20000 in
set_option maxHeartbeats 4000000 in
theorem openR_down (fa:Option Addr) (fc:Nat) (m:FSm) (K M:Int) (w:World) (hfl:Rd w w.heap.size fa (flF m.files)) (hf1:m.files.length≤fc) (hf2:fc≤maxLen) (hg:1≤K∧K≤16∧1≤M∧M≤32) (hd:m.down=true) :
    Calls Tryz.prog 37 #[fsv fa m.files.length fc m.fuse m.down,.int .i64 K,.int .i64 M] w (RLOut w m K M [] 7):=by
  obtain ⟨w3,hw3⟩:∃ w3,w3=((w.alloc (.cells #[.slice fa m.files.length fc,.int .i64 m.fuse,.bool m.down] 30)).alloc (.cells zlA 34)).alloc (.cells (lgA fa m.files.length fc m.fuse m.down K M none 0 0 false) 34):=⟨_,rfl⟩
  have HI:Hid (OpI w (w.heap.size+3) w3 m K M fa fc none 0 []):=opI_start hfl hf1 hf2 hw3
  clear hfl hf1 hf2
  unfold zlA lgA at hw3
  obtain ⟨k1,k2,k3,k4⟩:=hg
  have h1:¬ K < 1:=by omega
  have h2:¬ 16 < K:=by omega
  have h3:¬ M < 1:=by omega
  have h4:¬ 32 < M:=by omega
  have HD:=Lib.hid hd
  clear k1 k2 k3 k4 hd
  unfold fsv
  go_enter Tryz.func37,Tryz.ntmps37
  go_upto_region 4 with fail
  rw [← hw3]
  clear hw3
  obtain ⟨c0,c1,c2⟩:=HI.out.c
  rw [HD.out] at c2
  go_upto_region 5 with fail
  have HRG9:=Lib.hid HI.out.box.range
  have HT9:=Lib.hid HI.out.res.there
  go_wp2_with (first
    | (refine wpList_load_mid rfl 34 (.tmp 8) rfl (w.heap.size+2) 0 rfl [.slice fa m.files.length fc,.int .i64 m.fuse,.bool m.down,.int .i64 K,.int .i64 M,.slice none 0 0,.bool false] _ HRG9.out Tryz.underlying34 rfl size_rlog ?_)
    | (refine wpList_store_mid rfl 34 (.tmp 6) (.tmp 38) rfl (w.heap.size+1) 0 #[.slice fa m.files.length fc,.int .i64 m.fuse,.bool m.down,.int .i64 K,.int .i64 M,.slice none 0 0,.bool false] rfl rfl HT9.out size_rlog (by simp [Value.oneCell']) ?_))
  refine bodyPost_ret (v:=.tuple #[.agg (lgA fa m.files.length fc m.fuse m.down K M none 0 0 false),.int .i64 7]) (results_cell_two (p:=6) (u:=7) (ty:=34) (b:=w.heap.size+1) (x:=.int .i64 7) rfl rfl rfl (run_loadVar_mid (P:=Tryz.prog) _ (w.heap.size+1) 0 34 _ _ (World.rangeAt_setCells_same _ (w.heap.size+1) 0 _ HT9.out) Tryz.underlying34 rfl size_rlog)) rfl ?_
  exact HI.out.out _ _
set_option maxRecDepth 20000 in
set_option maxHeartbeats 8000000 in
theorem openR_find (fa : Option Addr) (fc : Nat) (m : FSm) (K M : Int) (w : World) (hfl : Rd w w.heap.size fa (flF m.files)) (hf1 : m.files.length ≤ fc) (hf2 : fc ≤ maxLen) (hg : 1 ≤ K ∧ K ≤ 16 ∧ 1 ≤ M ∧ M ≤ 32) (hd : m.down = false) (hok : m.Ok) (hnum : NumOk m) (hfew : m.files.length ≤ 1000000000) (hfit : FitR m) (hmend : MendAll) (r : Int × FSm × List SgM) (hr : findF m K.toNat M.toNat = r) :
    Calls Tryz.prog 37 #[fsv fa m.files.length fc m.fuse m.down,.int .i64 K,.int .i64 M] w (ROpen w m K M r):=by
  obtain ⟨w3,hw3⟩:∃ w3,w3=((w.alloc (.cells #[.slice fa m.files.length fc,.int .i64 m.fuse,.bool m.down] 30)).alloc (.cells zlA 34)).alloc (.cells (lgA fa m.files.length fc m.fuse m.down K M none 0 0 false) 34):=⟨_,rfl⟩
  have HI:Hid (OpI w (w.heap.size+3) w3 m K M fa fc none 0 []):=opI_start hfl hf1 hf2 hw3
  clear hfl hf1 hf2
  unfold zlA lgA at hw3
  obtain ⟨N,hN⟩:∃ N,N=numsF false m.files:=⟨_,rfl⟩
  have HN:=Lib.hid hN
  have HSD:Hid (N.Pairwise (· < ·)):=by show List.Pairwise _ _;rw [hN];exact nums_sorted hok.1
  have HX:Hid (∀ x ∈ N,x < 4294967296):=fun x hx=>hnum.nums (by rw [← hN];exact hx)
  have HFIND:Hid (r=findF m K.toNat M.toNat):=hr.symm
  have HFEW:=Lib.hid hfew
  have HFIT:=Lib.hid hfit
  have HMEND:=Lib.hid hmend
  have HG:=Lib.hid hg
  have HD:=Lib.hid hd
  obtain ⟨k1,k2,k3,k4⟩:=hg
  have h1:¬ K < 1:=by omega
  have h2:¬ 16 < K:=by omega
  have h3:¬ M < 1:=by omega
  have h4:¬ 32 < M:=by omega
  clear k1 k2 k3 k4 hr hnum hok hfew hfit hmend hd
  unfold fsv
  go_enter Tryz.func37,Tryz.ntmps37
  go_upto_region 4 with fail
  rw [← hw3]
  clear hw3
  obtain ⟨c0,c1,c2⟩:=HI.out.c
  rw [HD.out] at c2
  go_wp2_with fail
  refine (list_fs fa fc m.files m.fuse false w3 HI.out.flr HFEW.out).mono ?_
  rintro e w4 ⟨na,nc,rfl,_,_,hnr,hna,hb4⟩
  rw [← hN] at hnr ⊢
  have HNR:Hid (NA w w4.heap.size w4 na N):=NA.of hnr hna HI.out.sz.2
  have HI4:=Lib.hid ((HI.out.below hb4).up (Nat.le_trans HI.out.sz.2 hb4.size) (Nat.le_refl _))
  obtain ⟨n,hn⟩:∃ n,n=N.length:=⟨_,rfl⟩
  have HNL:=Lib.hid hn
  rw [← hn]
  clear hN hnr hna hb4 hn c0 c1 c2
  by_cases hbig:M < (n:Int)
  · have HE:Hid (r=(3,m,[])):=by
      show _=_
      rw [HFIND.out];unfold findF;rw [if_pos (by rw [← HN.out,← HNL.out];have:=HG.out;omega)]
    go_upto_region 8 with fail
    have HRG9:=Lib.hid HI4.out.box.range
    have HT9:=Lib.hid HI4.out.res.there
    go_wp2_with (first
      | (refine wpList_load_mid rfl 34 (.tmp 8) rfl (w.heap.size+2) 0 rfl [.slice fa m.files.length fc,.int .i64 m.fuse,.bool m.down,.int .i64 K,.int .i64 M,.slice none 0 0,.bool false] _ HRG9.out Tryz.underlying34 rfl size_rlog ?_)
      | (refine wpList_store_mid rfl 34 (.tmp 6) (.tmp 45) rfl (w.heap.size+1) 0 #[.slice fa m.files.length fc,.int .i64 m.fuse,.bool m.down,.int .i64 K,.int .i64 M,.slice none 0 0,.bool false] rfl rfl HT9.out size_rlog (by simp [Value.oneCell']) ?_))
    refine bodyPost_ret (v:=.tuple #[.agg (lgA fa m.files.length fc m.fuse m.down K M none 0 0 false),.int .i64 3]) (results_cell_two (p:=6) (u:=7) (ty:=34) (b:=w.heap.size+1) (x:=.int .i64 3) rfl rfl rfl (run_loadVar_mid (P:=Tryz.prog) _ (w.heap.size+1) 0 34 _ _ (World.rangeAt_setCells_same _ (w.heap.size+1) 0 _ HT9.out) Tryz.underlying34 rfl size_rlog)) rfl ?_
    have hr:=HE.out
    subst hr
    exact (HI4.out.out _ _).ropen
  have HNB:Hid (¬ M.toNat < n):=by show ¬ _;have:=HG.out;omega
  have hn32:n≤32:=by have:=HG.out;omega
  go_wp2_with fail
  go_loopw [10] (fun i wr=>∃ t:Nat,(t=0∨t < n)∧i=.int .i64 ((t+1:Nat):Int)∧(∀ s,s≤t→s < n→N.getD s 0=N.getD 0 0+s)∧OpI w w4.heap.size wr m K M fa fc none 0 []∧NA w w4.heap.size wr na N) (fun i _=>n - (intOf i).toNat)
  case atStart => exact ⟨0, .inl rfl, rfl, fun s h1 h2 => by have : s = 0 := by omega
                                                             subst this;omega,HI4.out,HNR.out⟩
  case round =>
    obtain ⟨t,ht,rfl,hall,hi,hrd⟩:=hrel
    have HALL:=Lib.hid hall;have HJ:=Lib.hid hi;have HRD:=Lib.hid hrd
    clear hall hi hrd
    by_cases hlt:t+1 < n
    · have hlt':((t+1:Nat):Int) < (n:Int):=by omega
      have hjL:t+1 < N.length:=by rw [← HNL.out];exact hlt
      obtain ⟨b,off,rfl,hbl,hbl2,hcell⟩:=HRD.out.2 (by omega)
      have q0:=hcell t (by omega)
      have q1:=hcell (t+1) hjL
      obtain ⟨x,hx⟩:∃ x,N.getD t 0=x:=⟨_,rfl⟩
      obtain ⟨y,hy⟩:∃ y,N.getD (t+1) 0=y:=⟨_,rfl⟩
      have hxy:x < y∧y < 4294967296:=by
        have m2:y ∈ N:=by rw [← hy];simp [List.getD,hjL]
        refine ⟨?_,HX.out _ m2⟩
        have:=List.pairwise_iff_getElem.1 HSD.out t (t+1) (by omega) hjL (by omega)
        simp [List.getD,hjL,show t < N.length by omega] at hx hy
        omega
      rw [hx] at q0;rw [hy] at q1
      have HXE:=Lib.hid hx;have HYE:=Lib.hid hy;have HLT:=Lib.hid hlt;have HXY:=Lib.hid hxy
      have i0:((t+1:Nat):Int) - 1=(t:Int):=by omega
      have i1:(0:Int)≤(t:Int):=by omega
      have i2:(t:Int) < (n:Int):=by omega
      have i3:(0:Int)≤((t+1:Nat):Int):=by omega
      have hm:((x:Int)+1) % 4294967296=(x:Int)+1:=by omega
      clear hcell hx hy hlt ht
      by_cases he:x+1=y
      · have e1:((x:Int)+1 != (y:Int))=false:=by simp;omega
        have HE:=Lib.hid he
        clear he hxy
        go_wp2_with fail
        go_region
        go_wp2_with fail
        go_roundw
        case rel=>exact ⟨t+1,.inr HLT.out,by go_num,fun s h1 h2=>by
          rcases Nat.lt_or_ge t s with h | h
          · have:s=t+1:=by omega
            subst this;have h1:=HALL.out t (Nat.le_refl _) (by omega);have h2:=HXE.out;have h3:=HYE.out;have h4:=HE.out;omega
          · exact HALL.out s h h2,HJ.out.below (drew1 wr),HRD.out.below (drew1 wr)⟩
        case measure=>have:=HLT.out;simp [intOf];omega
      · have e1:((x:Int)+1 != (y:Int))=true:=by simp;omega
        have HNE:=Lib.hid he
        have HE:Hid (r=(3,m,[])):=by
          show _=_
          rw [HFIND.out];unfold findF
          rw [if_neg (by rw [← HN.out,← HNL.out];exact HNB.out),if_pos]
          rw [← HN.out]
          cases hch:chainB N
          · rfl
          · have h1:=chain_all.1 hch t (by omega)
            have h2:=chain_all.1 hch (t+1) hjL
            have:=HXE.out;have:=HYE.out
            exact absurd (show x+1=y by omega) he
        clear he hxy
        have HK:=Lib.hid (HJ.out.below (drew1 wr))
        go_wp2_with fail
        go_region
        go_upto_region 13 with fail
        have HRG9:=Lib.hid HK.out.box.range
        have HT9:=Lib.hid HK.out.res.there
        go_wp2_with (first
          | (refine wpList_load_mid rfl 34 (.tmp 8) rfl (w.heap.size+2) 0 rfl [.slice fa m.files.length fc,.int .i64 m.fuse,.bool m.down,.int .i64 K,.int .i64 M,.slice none 0 0,.bool false] _ HRG9.out Tryz.underlying34 rfl size_rlog ?_)
          | (refine wpList_store_mid rfl 34 (.tmp 6) (.tmp 63) rfl (w.heap.size+1) 0 #[.slice fa m.files.length fc,.int .i64 m.fuse,.bool m.down,.int .i64 K,.int .i64 M,.slice none 0 0,.bool false] rfl rfl HT9.out size_rlog (by simp [Value.oneCell']) ?_))
        refine bodyPost_ret (v:=.tuple #[.agg (lgA fa m.files.length fc m.fuse m.down K M none 0 0 false),.int .i64 3]) (results_cell_two (p:=6) (u:=7) (ty:=34) (b:=w.heap.size+1) (x:=.int .i64 3) rfl rfl rfl (run_loadVar_mid (P:=Tryz.prog) _ (w.heap.size+1) 0 34 _ _ (World.rangeAt_setCells_same _ (w.heap.size+1) 0 _ HT9.out) Tryz.underlying34 rfl size_rlog)) rfl ?_
        have hr:=HE.out
        subst hr
        exact (HK.out.out _ _).ropen
    · have hlt' : ¬ ((t + 1 : Nat) : Int) < (n : Int) := by omega
      have HCH:Hid (chainB N=true):=chain_all.2 fun s hs=>HALL.out s (by rw [← HNL.out] at hs;omega) (by rw [← HNL.out] at hs;exact hs)
      clear hlt ht
      go_wp2_with fail
      go_loopw [11] (fun i wr2=>∃ (j:Nat) (sa:Option Addr) (sc:Nat) (Ls:List RS),j≤n∧i=.int .i64 (j:Int)∧OpI w w4.heap.size wr2 m K M fa fc sa sc Ls∧NA w w4.heap.size wr2 na N∧Ls.map RS.sg=(N.take j).map (sgOf m K.toNat)∧(∀ x ∈ Ls,(x.k:Int)=K)∧(N.take j).all (wholeF m K.toNat)=true∧(j=0∨j < n)) (fun i _=>n - (intOf i).toNat)
      case atStart=>exact ⟨0,none,0,[],Nat.zero_le _,rfl,HJ.out,HRD.out,by simp,fun x hx=>by simp at hx,by simp,.inl rfl⟩
      case round =>
        obtain ⟨j,sa,sc,Ls,hj,rfl,hi,hna,hmap,hkk,hal,hj0⟩:=hrel
        have HJ2:=Lib.hid hi;have HNA:=Lib.hid hna;have HMAP:=Lib.hid hmap;have HKK:=Lib.hid hkk;have HAL:=Lib.hid hal
        have hlen:Ls.length=j:=by have:=congrArg List.length hmap;simp at this;have:=HNL.out;omega
        have HLEN:=Lib.hid hlen
        clear hi hna hmap hkk hal hlen
        by_cases hlt:j < n
        · have hjL:j < N.length:=by rw [← HNL.out];exact hlt
          obtain ⟨b,off,hna,hbl,hbl2,hcell⟩:=HNA.out.2 (by omega)
          have q0:=hcell j hjL
          have HNAE:=Lib.hid hna
          subst hna
          obtain ⟨x0,hx0⟩:∃ x0,N[j]?=some x0:=⟨_,List.getElem?_eq_getElem hjL⟩
          rw [show N.getD j 0=x0 by simp [List.getD,hx0]] at q0
          have HX0:=Lib.hid hx0;have HLT:=Lib.hid hlt
          have HTK:Hid (N.take (j+1)=N.take j ++ [x0]):=by show _=_;rw [List.take_add_one,hx0];rfl
          have i1:(0:Int)≤(j:Int):=by omega
          have i2:(j:Int) < (n:Int):=by omega
          obtain ⟨c0,c1,c2⟩:=HJ2.out.c
          obtain ⟨t,ec,hrd⟩:∃ t ec,readF m x0=(t,ec):=⟨_,_,rfl⟩
          have HT:Hid ((readF m x0).1=t):=by show _=_;rw [hrd]
          obtain ⟨N1,K1,hN1⟩:∃ N1 K1,hdOf (headOf (byF m x0))=(N1,K1):=⟨_,_,rfl⟩
          obtain ⟨g1,hg1⟩:∃ g1,rdG (byF m x0)=g1:=⟨_,rfl⟩
          obtain ⟨E1,hE1⟩:∃ E1:Int,(hdErr (headOf (byF m x0)):Int)=E1:=⟨_,rfl⟩
          obtain ⟨L1,hL1⟩:∃ L1,rdL (byF m x0)=L1:=⟨_,rfl⟩
          have HW:=Lib.hid (whole_is (k:=K.toNat) hN1 hg1 hE1 hL1)
          have HN1:=Lib.hid hN1;have HG1:=Lib.hid hg1;have HE1:=Lib.hid hE1;have HL1:=Lib.hid hL1;have HRD1:=Lib.hid hrd
          have HTL:Hid (t.size=(byF m x0).length):=by show _=_;rw [← HT.out,read_bs,bs_size]
          have HEC:=Lib.hid hrd
          clear hcell hx0 hN1 hg1 hE1 hL1 hrd
          by_cases hjn:j+1=n
          · have e1:¬ (j:Int) < (n:Int) - 1:=by omega
            have HJN:=Lib.hid hjn
            clear hjn hlt
            go_wp2_with fail
            refine (read_fs fa fc m x0 wr HJ2.out.flr HFEW.out).mono ?_
            rintro e w5 ⟨rfl,hb5⟩
            rw [HEC.out]
            have HJ5:=Lib.hid (HJ2.out.below hb5);have HNA5:=Lib.hid (HNA.out.below hb5)
            clear hb5 c0 c1 c2 q0
            go_wp2_with fail
            refine (refRead_one t (byF m x0) w5 N1 K1 g1 E1 L1 (by rw [← HT.out,read_bs]) (by have:=byF_le HFIT.out.1 x0;omega) HN1.out HG1.out HE1.out HL1.out).mono ?_
            rintro e w6 ⟨xa,xc,rfl,hown6,hb6⟩
            have HJ6:=Lib.hid (HJ5.out.below hb6);have HNA6:=Lib.hid (HNA5.out.below hb6)
            have HOW6:Hid (w6.ownsRow w4.heap.size 9 1 (.slice xa L1.length xc) L1.length (sV L1)):=own_base hown6 HJ5.out.sz.2
            clear hb6 hown6
            obtain ⟨w7,hw7⟩:∃ w7,w7=w6.alloc (.cells #[.int .u32 (N1:Int),.int .i64 (K1:Int),.slice xa L1.length xc,.int .i64 g1] 133):=⟨_,rfl⟩
            have HJ7:Hid (OpI w w4.heap.size w7 m K M fa fc sa sc Ls):=by show OpI _ _ _ _ _ _ _ _ _ _ _;rw [hw7];exact HJ6.out.below (box1 _ _)
            have HNA7:Hid (NA w w4.heap.size w7 (some ⟨b,off,none⟩) N):=by show NA _ _ _ _ _;rw [hw7];exact HNA6.out.below (box1 _ _)
            have HOW7:Hid (w7.ownsRow w4.heap.size 9 1 (.slice xa L1.length xc) L1.length (sV L1)):=by show World.ownsRow _ _ _ _ _ _ _;rw [hw7];exact own_below HOW6.out (box1 _ _)
            have HSB7:Hid (RX w7 w6.heap.size N1 K1 (.slice xa L1.length xc) g1):=by show RX _ _ _ _ _ _;rw [hw7];exact heap_alloc_new _ _
            go_upto_region 24 with fail
            rw [← hw7]
            clear hw7
            have HRG7:=Lib.hid HJ7.out.box.range
            have HSR7:=Lib.hid HSB7.out.range
            go_wp2_with (first
              | (refine wpList_load_mid rfl 34 (.tmp 8) rfl (w.heap.size+2) 0 rfl [.slice fa m.files.length fc,.int .i64 m.fuse,.bool m.down,.int .i64 K,.int .i64 M,.slice sa Ls.length sc,.bool false] _ HRG7.out Tryz.underlying34 rfl size_rlog ?_)
              | (refine wpList_load_mid rfl 133 (.tmp 15) rfl w6.heap.size 0 rfl [.int .u32 (N1:Int),.int .i64 (K1:Int),.slice xa L1.length xc,.int .i64 g1] _ HSR7.out Tryz.underlying133 rfl size_rseg ?_))
            obtain ⟨mr,hmr⟩:∃ mr,mendF m K.toNat x0=mr:=⟨_,rfl⟩
            refine (HMEND.out fa fc m K M sa sc x0 ⟨N1,K1,xa,xc,L1,g1⟩ Ls w7 E1 t mr HFIT.out ⟨HG.out.1,HG.out.2.1⟩ HJ7.out.flr HJ7.out.f1.1 HJ7.out.f1.2 (Rd.own HJ7.out.sg) HJ7.out.cap.1 HJ7.out.cap.2 (by have:=HLEN.out;omega) (fun y hy=>rs_own (HJ7.out.at_ y hy)) (rs_own (x:=⟨N1,K1,xa,xc,L1,g1⟩) HOW7.out) HT.out HN1.out HG1.out HE1.out HL1.out hmr).mono ?_
            rintro e w8 ⟨Ls8,ho8,hz8⟩
            have HE:Hid (r=(mr.1,mr.2.1,(N.take j).map (sgOf m K.toNat) ++ mr.2.2)):=by
              show _=_
              rw [HFIND.out,findF_last HN.out (by rw [← HNL.out];exact HNB.out) HCH.out (by rw [← HNL.out];exact HJN.out) HAL.out HX0.out,hmr]
            clear hmr
            obtain ⟨c2,m2,L2⟩:=mr
            have HO8:=Lib.hid ho8;have HZ8:=Lib.hid hz8
            obtain ⟨fa8,fc8,sa8,sc8,rfl,_,_,_,_,_,_,_,hb8⟩:=ho8
            have HRES8:=Lib.hid (HJ7.out.res.below hb8 (by have:=HJ7.out.sz;omega))
            have HT9:=Lib.hid HRES8.out.there
            clear hz8 hb8
            unfold lgA
            go_wp2_with (refine wpList_store_mid rfl 34 (.tmp 6) (.tmp 129) rfl (w.heap.size+1) 0 #[.slice fa8 m2.files.length fc8,.int .i64 m2.fuse,.bool m2.down,.int .i64 K,.int .i64 M,.slice sa8 Ls8.length sc8,.bool false] rfl rfl HT9.out size_rlog (by simp [Value.oneCell']) ?_)
            refine bodyPost_ret (v:=.tuple #[.agg (lgA fa8 m2.files.length fc8 m2.fuse m2.down K M sa8 Ls8.length sc8 false),.int .i64 c2]) (results_cell_two (p:=6) (u:=7) (ty:=34) (b:=w.heap.size+1) (x:=.int .i64 c2) rfl rfl rfl (run_loadVar_mid (P:=Tryz.prog) _ (w.heap.size+1) 0 34 _ _ (World.rangeAt_setCells_same _ (w.heap.size+1) 0 _ HT9.out) Tryz.underlying34 rfl size_rlog)) rfl ?_
            have hr:=HE.out
            subst hr
            exact ⟨Ls8,HO8.out.store HRES8.out (by omega) HJ7.out.bel _,fun h0=>⟨by rw [(HZ8.out h0).1,HMAP.out],fun y hy=>((HZ8.out h0).2 y hy).elim (HKK.out y) id⟩⟩
          · have e1:(j:Int) < (n:Int) - 1:=by omega
            have HJN:=Lib.hid hjn
            clear hjn hlt
            go_wp2_with fail
            refine (read_fs fa fc m x0 wr HJ2.out.flr HFEW.out).mono ?_
            rintro e w5 ⟨rfl,hb5⟩
            rw [HEC.out]
            have HJ5:=Lib.hid (HJ2.out.below hb5);have HNA5:=Lib.hid (HNA.out.below hb5)
            clear hb5 c0 c1 c2 q0
            go_wp2_with fail
            refine (refRead_one t (byF m x0) w5 N1 K1 g1 E1 L1 (by rw [← HT.out,read_bs]) (by have:=byF_le HFIT.out.1 x0;omega) HN1.out HG1.out HE1.out HL1.out).mono ?_
            rintro e w6 ⟨xa,xc,rfl,hown6,hb6⟩
            have HJ6:=Lib.hid (HJ5.out.below hb6);have HNA6:=Lib.hid (HNA5.out.below hb6)
            have HOW6:Hid (w6.ownsRow w4.heap.size 9 1 (.slice xa L1.length xc) L1.length (sV L1)):=own_base hown6 HJ5.out.sz.2
            clear hb6 hown6
            obtain ⟨w7,hw7⟩:∃ w7,w7=w6.alloc (.cells #[.int .u32 (N1:Int),.int .i64 (K1:Int),.slice xa L1.length xc,.int .i64 g1] 133):=⟨_,rfl⟩
            have HJ7:Hid (OpI w w4.heap.size w7 m K M fa fc sa sc Ls):=by show OpI _ _ _ _ _ _ _ _ _ _ _;rw [hw7];exact HJ6.out.below (box1 _ _)
            have HNA7:Hid (NA w w4.heap.size w7 (some ⟨b,off,none⟩) N):=by show NA _ _ _ _ _;rw [hw7];exact HNA6.out.below (box1 _ _)
            have HOW7:Hid (w7.ownsRow w4.heap.size 9 1 (.slice xa L1.length xc) L1.length (sV L1)):=by show World.ownsRow _ _ _ _ _ _ _;rw [hw7];exact own_below HOW6.out (box1 _ _)
            have HSB7:Hid (RX w7 w6.heap.size N1 K1 (.slice xa L1.length xc) g1):=by show RX _ _ _ _ _ _;rw [hw7];exact heap_alloc_new _ _
            obtain ⟨s0,s1,s2,s3⟩:w7.cell? ⟨w6.heap.size,0,none⟩=some (.int .u32 (N1:Int))∧w7.cell? ⟨w6.heap.size,1,none⟩=some (.int .i64 (K1:Int))∧w7.cell? ⟨w6.heap.size,2,none⟩=some (.slice xa L1.length xc)∧w7.cell? ⟨w6.heap.size,3,none⟩=some (.int .i64 g1):=⟨HSB7.out.c0,HSB7.out.c1,HSB7.out.c2,HSB7.out.c3⟩
            rw [hw7] at s0 s1 s2 s3
            by_cases q1:E1=0
            case neg =>
              have e2:(E1 != 0)=true:=by simp [q1]
              have HE:Hid (r=(3,m,[])):=by
                show _=_
                rw [HFIND.out,findF_bad HN.out (by rw [← HNL.out];exact HNB.out) HCH.out (j:=j) (by rw [← HNL.out];have:=HJN.out;have:=HLT.out;omega) HX0.out]
                cases h:wholeF m K.toNat x0
                · rfl
                · have h5:=HW.out.1 h
                  exact absurd h5.1 q1
              clear q1
              go_upto_region 22 with fail
              rw [← hw7]
              clear hw7
              have HRG9:=Lib.hid HJ7.out.box.range
              have HT9:=Lib.hid HJ7.out.res.there
              go_wp2_with (first
                | (refine wpList_load_mid rfl 34 (.tmp 8) rfl (w.heap.size+2) 0 rfl [.slice fa m.files.length fc,.int .i64 m.fuse,.bool m.down,.int .i64 K,.int .i64 M,.slice sa Ls.length sc,.bool false] _ HRG9.out Tryz.underlying34 rfl size_rlog ?_)
                | (refine wpList_store_mid rfl 34 (.tmp 6) (.tmp 116) rfl (w.heap.size+1) 0 #[.slice fa m.files.length fc,.int .i64 m.fuse,.bool m.down,.int .i64 K,.int .i64 M,.slice sa Ls.length sc,.bool false] rfl rfl HT9.out size_rlog (by simp [Value.oneCell']) ?_))
              refine bodyPost_ret (v:=.tuple #[.agg (lgA fa m.files.length fc m.fuse m.down K M sa Ls.length sc false),.int .i64 3]) (results_cell_two (p:=6) (u:=7) (ty:=34) (b:=w.heap.size+1) (x:=.int .i64 3) rfl rfl rfl (run_loadVar_mid (P:=Tryz.prog) _ (w.heap.size+1) 0 34 _ _ (World.rangeAt_setCells_same _ (w.heap.size+1) 0 _ HT9.out) Tryz.underlying34 rfl size_rlog)) rfl ?_
              have hr:=HE.out
              subst hr
              exact (HJ7.out.out _ _).refuse (by decide) _
            have e2:(E1 != 0)=false:=by simp [q1]
            have Hq1:=Lib.hid q1
            clear q1
            by_cases q2:N1=x0
            case neg =>
              have e3:((N1:Int) != (x0:Int))=true:=by simp;omega
              have HE:Hid (r=(3,m,[])):=by
                show _=_
                rw [HFIND.out,findF_bad HN.out (by rw [← HNL.out];exact HNB.out) HCH.out (j:=j) (by rw [← HNL.out];have:=HJN.out;have:=HLT.out;omega) HX0.out]
                cases h:wholeF m K.toNat x0
                · rfl
                · have h5:=HW.out.1 h
                  exact absurd h5.2.1 q2
              clear q2
              go_upto_region 22 with fail
              rw [← hw7]
              clear hw7
              have HRG9:=Lib.hid HJ7.out.box.range
              have HT9:=Lib.hid HJ7.out.res.there
              go_wp2_with (first
                | (refine wpList_load_mid rfl 34 (.tmp 8) rfl (w.heap.size+2) 0 rfl [.slice fa m.files.length fc,.int .i64 m.fuse,.bool m.down,.int .i64 K,.int .i64 M,.slice sa Ls.length sc,.bool false] _ HRG9.out Tryz.underlying34 rfl size_rlog ?_)
                | (refine wpList_store_mid rfl 34 (.tmp 6) (.tmp 116) rfl (w.heap.size+1) 0 #[.slice fa m.files.length fc,.int .i64 m.fuse,.bool m.down,.int .i64 K,.int .i64 M,.slice sa Ls.length sc,.bool false] rfl rfl HT9.out size_rlog (by simp [Value.oneCell']) ?_))
              refine bodyPost_ret (v:=.tuple #[.agg (lgA fa m.files.length fc m.fuse m.down K M sa Ls.length sc false),.int .i64 3]) (results_cell_two (p:=6) (u:=7) (ty:=34) (b:=w.heap.size+1) (x:=.int .i64 3) rfl rfl rfl (run_loadVar_mid (P:=Tryz.prog) _ (w.heap.size+1) 0 34 _ _ (World.rangeAt_setCells_same _ (w.heap.size+1) 0 _ HT9.out) Tryz.underlying34 rfl size_rlog)) rfl ?_
              have hr:=HE.out
              subst hr
              exact (HJ7.out.out _ _).refuse (by decide) _
            have e3:((N1:Int) != (x0:Int))=false:=by simp [q2]
            have Hq2:=Lib.hid q2
            clear q2
            by_cases q3:(K1:Int)=K
            case neg =>
              have e4:((K1:Int) != K)=true:=by simp [q3]
              have HE:Hid (r=(3,m,[])):=by
                show _=_
                rw [HFIND.out,findF_bad HN.out (by rw [← HNL.out];exact HNB.out) HCH.out (j:=j) (by rw [← HNL.out];have:=HJN.out;have:=HLT.out;omega) HX0.out]
                cases h:wholeF m K.toNat x0
                · rfl
                · have h5:=HW.out.1 h
                  exact absurd (by have:=h5.2.2.1;have:=HG.out;omega) q3
              clear q3
              go_upto_region 22 with fail
              rw [← hw7]
              clear hw7
              have HRG9:=Lib.hid HJ7.out.box.range
              have HT9:=Lib.hid HJ7.out.res.there
              go_wp2_with (first
                | (refine wpList_load_mid rfl 34 (.tmp 8) rfl (w.heap.size+2) 0 rfl [.slice fa m.files.length fc,.int .i64 m.fuse,.bool m.down,.int .i64 K,.int .i64 M,.slice sa Ls.length sc,.bool false] _ HRG9.out Tryz.underlying34 rfl size_rlog ?_)
                | (refine wpList_store_mid rfl 34 (.tmp 6) (.tmp 116) rfl (w.heap.size+1) 0 #[.slice fa m.files.length fc,.int .i64 m.fuse,.bool m.down,.int .i64 K,.int .i64 M,.slice sa Ls.length sc,.bool false] rfl rfl HT9.out size_rlog (by simp [Value.oneCell']) ?_))
              refine bodyPost_ret (v:=.tuple #[.agg (lgA fa m.files.length fc m.fuse m.down K M sa Ls.length sc false),.int .i64 3]) (results_cell_two (p:=6) (u:=7) (ty:=34) (b:=w.heap.size+1) (x:=.int .i64 3) rfl rfl rfl (run_loadVar_mid (P:=Tryz.prog) _ (w.heap.size+1) 0 34 _ _ (World.rangeAt_setCells_same _ (w.heap.size+1) 0 _ HT9.out) Tryz.underlying34 rfl size_rlog)) rfl ?_
              have hr:=HE.out
              subst hr
              exact (HJ7.out.out _ _).refuse (by decide) _
            have e4:((K1:Int) != K)=false:=by simp [q3]
            have Hq3:=Lib.hid q3
            clear q3
            obtain ⟨se,hse⟩:∃ se,(decide (0 < K1) && decide (L1.length=K1))=se:=⟨_,rfl⟩
            have HSE:=Lib.hid hse
            clear hse
            go_wp2_with fail
            rw [← hw7]
            clear hw7 s0 s1 s2 s3
            refine (sealed_is N1 K1 L1.length xc xa g1 se HSE.out w7).mono ?_
            rintro e w8 ⟨rfl,hb8⟩
            have HJ8:=Lib.hid (HJ7.out.below hb8);have HNA8:=Lib.hid (HNA7.out.below hb8);have HSB8:=Lib.hid (HSB7.out.low hb8);have HOW8:=Lib.hid (own_below HOW7.out hb8)
            clear hb8
            have s3:=HSB8.out.c3
            cases se
            case false =>
              have HE:Hid (r=(3,m,[])):=by
                show _=_
                rw [HFIND.out,findF_bad HN.out (by rw [← HNL.out];exact HNB.out) HCH.out (j:=j) (by rw [← HNL.out];have:=HJN.out;have:=HLT.out;omega) HX0.out]
                cases h:wholeF m K.toNat x0
                · rfl
                · have h5:=HW.out.1 h
                  have h6:=HSE.out
                  have h7:=HG.out
                  have h8:=h5.2.2.1
                  rw [decide_eq_true (show 0 < K1 by omega),decide_eq_true h5.2.2.2.1] at h6
                  cases h6
              go_upto_region 22 with fail
              have HRG9:=Lib.hid HJ8.out.box.range
              have HT9:=Lib.hid HJ8.out.res.there
              go_wp2_with (first
                | (refine wpList_load_mid rfl 34 (.tmp 8) rfl (w.heap.size+2) 0 rfl [.slice fa m.files.length fc,.int .i64 m.fuse,.bool m.down,.int .i64 K,.int .i64 M,.slice sa Ls.length sc,.bool false] _ HRG9.out Tryz.underlying34 rfl size_rlog ?_)
                | (refine wpList_store_mid rfl 34 (.tmp 6) (.tmp 116) rfl (w.heap.size+1) 0 #[.slice fa m.files.length fc,.int .i64 m.fuse,.bool m.down,.int .i64 K,.int .i64 M,.slice sa Ls.length sc,.bool false] rfl rfl HT9.out size_rlog (by simp [Value.oneCell']) ?_))
              refine bodyPost_ret (v:=.tuple #[.agg (lgA fa m.files.length fc m.fuse m.down K M sa Ls.length sc false),.int .i64 3]) (results_cell_two (p:=6) (u:=7) (ty:=34) (b:=w.heap.size+1) (x:=.int .i64 3) rfl rfl rfl (run_loadVar_mid (P:=Tryz.prog) _ (w.heap.size+1) 0 34 _ _ (World.rangeAt_setCells_same _ (w.heap.size+1) 0 _ HT9.out) Tryz.underlying34 rfl size_rlog)) rfl ?_
              have hr:=HE.out
              subst hr
              exact (HJ8.out.out _ _).refuse (by decide) _
            by_cases q5:g1=(t.size:Int)
            case neg =>
              have e5:(g1 != (t.size:Int))=true:=by simp [q5]
              have HE:Hid (r=(3,m,[])):=by
                show _=_
                rw [HFIND.out,findF_bad HN.out (by rw [← HNL.out];exact HNB.out) HCH.out (j:=j) (by rw [← HNL.out];have:=HJN.out;have:=HLT.out;omega) HX0.out]
                cases h:wholeF m K.toNat x0
                · rfl
                · have h5:=HW.out.1 h
                  exact absurd (by rw [HTL.out];exact h5.2.2.2.2) q5
              clear q5
              go_upto_region 22 with fail
              have HRG9:=Lib.hid HJ8.out.box.range
              have HT9:=Lib.hid HJ8.out.res.there
              go_wp2_with (first
                | (refine wpList_load_mid rfl 34 (.tmp 8) rfl (w.heap.size+2) 0 rfl [.slice fa m.files.length fc,.int .i64 m.fuse,.bool m.down,.int .i64 K,.int .i64 M,.slice sa Ls.length sc,.bool false] _ HRG9.out Tryz.underlying34 rfl size_rlog ?_)
                | (refine wpList_store_mid rfl 34 (.tmp 6) (.tmp 116) rfl (w.heap.size+1) 0 #[.slice fa m.files.length fc,.int .i64 m.fuse,.bool m.down,.int .i64 K,.int .i64 M,.slice sa Ls.length sc,.bool false] rfl rfl HT9.out size_rlog (by simp [Value.oneCell']) ?_))
              refine bodyPost_ret (v:=.tuple #[.agg (lgA fa m.files.length fc m.fuse m.down K M sa Ls.length sc false),.int .i64 3]) (results_cell_two (p:=6) (u:=7) (ty:=34) (b:=w.heap.size+1) (x:=.int .i64 3) rfl rfl rfl (run_loadVar_mid (P:=Tryz.prog) _ (w.heap.size+1) 0 34 _ _ (World.rangeAt_setCells_same _ (w.heap.size+1) 0 _ HT9.out) Tryz.underlying34 rfl size_rlog)) rfl ?_
              have hr:=HE.out
              subst hr
              exact (HJ8.out.out _ _).refuse (by decide) _
            have e5:(g1 != (t.size:Int))=false:=by simp [q5]
            have HWT:Hid (wholeF m K.toNat x0=true):=HW.out.2 ⟨Hq1.out,Hq2.out,by have:=Hq3.out;omega,by have:=HSE.out;simp at this;exact this.2,by rw [← HTL.out];exact q5⟩
            clear q5
            have c5:=HJ8.out.box.cell 5 (u:=.slice sa Ls.length sc) rfl
            have HSR8:=Lib.hid HSB8.out.range
            obtain ⟨i0,hi0,hz0,hz1,hz2⟩:=info_parts info_rseg7
            have HZ2:=Lib.hid hz2;clear hz2
            go_wp2_with (first
              | (refine wpList_load_mid rfl 133 (.tmp 15) rfl w6.heap.size 0 rfl [.int .u32 (N1:Int),.int .i64 (K1:Int),.slice xa L1.length xc,.int .i64 g1] _ HSR8.out Tryz.underlying133 rfl size_rseg ?_)
              | (refine wpList_append_rd _ rfl (.tmp 118) (.tmp 120) 32 rfl w4.heap.size 133 i0 _ 4 48 Tryz.underlying32 hi0 hz0 hz1 HZ2.out rfl (by omega) (.slice sa Ls.length sc) Ls.length (flatG RS.l Ls) rfl (own_below HJ8.out.sg (box1 _ _)) _ _ 1 1 (RS.l ⟨N1,K1,xa,xc,L1,g1⟩) rfl rfl (lit_rd w8 #[.int .u32 (N1:Int),.int .i64 (K1:Int),.slice xa L1.length xc,.int .i64 g1] _) (rl_one _) (by have:=HLEN.out;unfold maxLen;omega) (by have:=HLEN.out;omega) (by have:=HJ8.out.sz.2;simp;omega) ?_))
            intro v9 w9 hown9 hg9 _
            obtain ⟨a9,c9,rfl,c5',f5',hblk,hpush⟩:=OpI.push (x:=⟨N1,K1,xa,xc,L1,g1⟩) HJ8.out HOW8.out hg9 hown9
            have HP:=Lib.hid hpush
            have HNA9:=Lib.hid (HNA8.out.keep (by have:=hg9.size;simp at this ⊢;omega) fun k h1 h2=>hblk k h2 (by omega))
            clear hpush hblk hown9 hg9 c5 s3
            go_wp2_with fail
            go_roundw
            case rel =>
              refine ⟨j+1,a9,c9,Ls ++ [⟨N1,K1,xa,xc,L1,g1⟩],HLT.out,by go_num,HP.out,HNA9.out,?_,fun y hy=>?_,?_,.inr (by have:=HJN.out;have:=HLT.out;omega)⟩
              · rw [HTK.out,List.map_append,List.map_append,HMAP.out]
                have hsg:=whole_sg (k:=K.toNat) HN1.out HL1.out (by rw [HE1.out];exact Hq1.out) Hq2.out (by have:=Hq3.out;omega)
                simp [RS.sg,hsg]
              · rcases List.mem_append.1 hy with h | h
                · exact HKK.out y h
                · rw [List.mem_singleton.1 h];exact Hq3.out
              · rw [HTK.out,List.all_append,HAL.out];simp [HWT.out]
            case measure=>have:=HLT.out;simp [intOf];omega
        · have hj00:j=0:=by omega
          have hn0:n=0:=by omega
          have HJ0:=Lib.hid hj00
          have HE:Hid (r=(0,m,[])):=by
            show _=_
            rw [HFIND.out,findF_nil HN.out (by rw [← HNL.out];exact hn0)]
          have hlt':¬ (j:Int) < (n:Int):=by omega
          have hl0:Ls=[]:=List.eq_nil_of_length_eq_zero (by have:=HLEN.out;omega)
          subst hl0
          clear hj00 hn0 hlt
          go_upto_region 25 with fail
          have HRG9:=Lib.hid HJ2.out.box.range
          have HT9:=Lib.hid HJ2.out.res.there
          go_wp2_with (first
            | (refine wpList_load_mid rfl 34 (.tmp 8) rfl (w.heap.size+2) 0 rfl [.slice fa m.files.length fc,.int .i64 m.fuse,.bool m.down,.int .i64 K,.int .i64 M,.slice sa 0 sc,.bool false] _ HRG9.out Tryz.underlying34 rfl size_rlog ?_)
            | (refine wpList_store_mid rfl 34 (.tmp 6) (.tmp 131) rfl (w.heap.size+1) 0 #[.slice fa m.files.length fc,.int .i64 m.fuse,.bool m.down,.int .i64 K,.int .i64 M,.slice sa 0 sc,.bool false] rfl rfl HT9.out size_rlog (by simp [Value.oneCell']) ?_))
          refine bodyPost_ret (v:=.tuple #[.agg (lgA fa m.files.length fc m.fuse m.down K M sa 0 sc false),.int .i64 0]) (results_cell_two (p:=6) (u:=7) (ty:=34) (b:=w.heap.size+1) (x:=.int .i64 0) rfl rfl rfl (run_loadVar_mid (P:=Tryz.prog) _ (w.heap.size+1) 0 34 _ _ (World.rangeAt_setCells_same _ (w.heap.size+1) 0 _ HT9.out) Tryz.underlying34 rfl size_rlog)) rfl ?_
          have hr:=HE.out
          subst hr
          exact (HJ2.out.out _ _).ropen
end Go.Proofs.YtccbpngehedbaaaGreat

namespace Go.Proofs.YtccbpngehedbaaaGreat
open Go Go.RowKit Go.Sort
set_option linter.unusedVariables false

/-! What mend pays. -/
theorem FitR.may {m:FSm} (h:FitR m):FsMay m:=by
  obtain ⟨⟨⟨k,hk,hl⟩,_⟩,h1,h2⟩:=h
  exact ⟨by have:=hl.1;omega,h1,h2⟩
theorem act_may {m:FSm} {x:Fl} {s:Bool} (hl:m.files.length≤9000) (h1:-9223372036854775808≤m.fuse) (h2:m.fuse≤9223372036854775807):FsMay (actF m x s).1:=by
  have hp:=putF_le m.files x
  unfold actF
  repeat' split
  all_goals (refine ⟨?_,?_,?_⟩ <;> simp only <;> (try split) <;> omega)
theorem FitR.few {m:FSm} (h:FitR m):m.files.length≤9000:=by
  obtain ⟨⟨⟨k,hk,hl⟩,_⟩,h1,h2⟩:=h
  have:=hl.1;omega
theorem FitR.remove {m:FSm} (h:FitR m) (n:Nat):FsMay (removeF m n).1:=by
  unfold removeF
  repeat' split
  all_goals first | exact h.may | exact act_may h.few h.2.1 h.2.2
theorem FitR.trunc {m:FSm} (h:FitR m) (n:Nat) (g:Int):FsMay (truncF m n g).1:=by
  unfold truncF
  repeat' split
  all_goals first | exact h.may | exact act_may h.few h.2.1 h.2.2
theorem mend_all : MendAll := by
  intro fa fc m K M sa sc n x Ls w E t mr hfit hK hfl hf1 hf2 hsg hs1 hs2 hl hat hx ht hN hg hE hL hm
  have hts:t.size=(byF m n).length:=by rw [← ht,read_bs,bs_size]
  have hbl:=byF_le hfit.1 n
  have hKn:((K.toNat:Nat):Int)=K:=by omega
  cases hh:headOf (byF m n) with
  | error e =>
    have he0:=headOf_err hh
    rw [hh] at hE
    have he:E ≠ 0:=by rw [← hE];simp [hdErr];omega
    refine (mendR_err fa fc m K M sa sc n t x E Ls w he hfit.may (hfit.remove n) hfl hf1 hf2 hsg hs1 hs2 hat _ rfl).mono ?_
    intro e1 w' ho
    have hmr:mr=((takeL m n).2,(takeL m n).1,[]):=by
      rw [← hm];unfold mendF;rw [hh,takeL_eq]
      by_cases h:(removeF m n).2=0 <;> simp [h]
    subst hmr
    exact ⟨Ls,ho,fun h0=>⟨by simp,fun y hy=>.inl hy⟩⟩
  | ok z =>
    obtain ⟨N',K'⟩:=z
    unfold rdG at hg;unfold rdL at hL
    rw [hh] at hE hN hg hL
    injection hN with e1 e2
    simp only at e1 e2 hg hL
    have hE0:E=0:=by rw [← hE];rfl
    obtain ⟨_,hk1',hk16,h14⟩:=headOf_range hh
    have hgl:=good_le (k:=K') h14
    have hfew:=seg_few (byF m n) K'
    subst hE0
    by_cases hs:x.n=n∧(x.k:Int)=K
    · have hk1:K'=K.toNat:=by omega
      have hhead:headIs (byF m n) n K.toNat=true:=headIs_iff.2 (by rw [hh,e1,hs.1,hk1])
      refine (mendR_ok fa fc m K M sa sc n t x Ls w hfit.may hfl hf1 hf2 hsg hs1 hs2 hat hs.1 hs.2 hx (by rw [← hg];omega) (hfit.trunc n x.g) (by omega) (by omega) (by omega) (by rw [← hL];omega) _ rfl).mono ?_
      intro e1' w' ho
      have hsg2:x.sg=sgOf m K.toNat n:=by
        show (⟨x.n,x.L⟩:SgM)=⟨n,segB (byF m n) K.toNat⟩
        rw [hs.1,← hL,hk1]
      have hdl:(decide (0 < x.k) && decide (x.L.length=x.k))=decide ((segB (byF m n) K.toNat).length=K.toNat):=by
        rw [decide_eq_true (show 0 < x.k by omega),Bool.true_and,← hL,hk1,show x.k=K.toNat by omega]
      have hgg:x.g=((goodOf (byF m n) K.toNat:Nat):Int):=by rw [← hg,hk1]
      rw [hdl,hgg,hts] at ho
      refine ⟨Ls ++ [x],?_,?_⟩
      · have h1:mr.2.1=(mendT m n ((goodOf (byF m n) K.toNat:Nat):Int) (byF m n).length (decide ((segB (byF m n) K.toNat).length=K.toNat))).1:=by
          rw [← hm];unfold mendF mendT;rw [hh];simp only
          rw [if_neg (by rw [hhead];simp)]
          by_cases h2:goodOf (byF m n) K.toNat < (byF m n).length
          · have h2':((goodOf (byF m n) K.toNat:Nat):Int) < ((byF m n).length:Int):=by omega
            rw [if_pos h2,if_pos h2']
            by_cases h3:(truncF m n (goodOf (byF m n) K.toNat:Nat)).2=0 <;> simp [h3]
          · have h2':¬ ((goodOf (byF m n) K.toNat:Nat):Int) < ((byF m n).length:Int):=by omega
            rw [if_neg h2,if_neg h2']
            by_cases h3:(segB (byF m n) K.toNat).length=K.toNat∧n ∈ numsF true m.files <;> simp [h3]
        have h2:mr.1=(mendT m n ((goodOf (byF m n) K.toNat:Nat):Int) (byF m n).length (decide ((segB (byF m n) K.toNat).length=K.toNat))).2:=by
          rw [← hm];unfold mendF mendT;rw [hh];simp only
          rw [if_neg (by rw [hhead];simp)]
          by_cases h2:goodOf (byF m n) K.toNat < (byF m n).length
          · have h2':((goodOf (byF m n) K.toNat:Nat):Int) < ((byF m n).length:Int):=by omega
            rw [if_pos h2,if_pos h2']
            by_cases h3:(truncF m n (goodOf (byF m n) K.toNat:Nat)).2=0 <;> simp [h3]
          · have h2':¬ ((goodOf (byF m n) K.toNat:Nat):Int) < ((byF m n).length:Int):=by omega
            rw [if_neg h2,if_neg h2']
            by_cases h3:(segB (byF m n) K.toNat).length=K.toNat∧n ∈ numsF true m.files <;> simp [h3]
        rw [h1,h2];exact ho
      · intro h0
        have h3:mr.2.2=[sgOf m K.toNat n]:=by
          rw [← hm] at h0 ⊢;unfold mendF at h0 ⊢;rw [hh] at h0 ⊢;simp only at h0 ⊢
          rw [if_neg (by rw [hhead];simp)] at h0 ⊢
          by_cases h2:goodOf (byF m n) K.toNat < (byF m n).length
          · rw [if_pos h2] at h0 ⊢
            by_cases h3:(truncF m n (goodOf (byF m n) K.toNat:Nat)).2 ≠ 0
            · rw [if_pos h3] at h0;exact absurd h0 h3
            · rw [if_neg h3]
          · rw [if_neg h2]
            split <;> rfl
        refine ⟨by rw [h3,List.map_append,List.map_singleton,hsg2],fun y hy=>?_⟩
        rcases List.mem_append.1 hy with h | h
        · exact .inl h
        · rw [List.mem_singleton.1 h];exact .inr hs.2
    · have hhead:headIs (byF m n) n K.toNat=false:=by
        cases hb:headIs (byF m n) n K.toNat
        · rfl
        · have:=headIs_iff.1 hb
          rw [hh] at this
          injection this with this
          injection this with t1 t2
          exact absurd ⟨by omega,by omega⟩ hs
      refine (mendR_other fa fc m K M sa sc n t x Ls w hfit.may hfl hf1 hf2 hsg hs1 hs2 hat hs).mono ?_
      intro e1' w' ho
      have hmr:mr=(3,m,[]):=by
        rw [← hm];unfold mendF;rw [hh];simp [hhead]
      subst hmr
      exact ⟨Ls,ho,fun h0=>absurd h0 (show ¬ ((3:Int)=0) by decide)⟩
/-- The document's Open, all of it. -/
theorem openR_any (fa:Option Addr) (fc:Nat) (m:FSm) (K M:Int) (w:World) (hfl:Rd w w.heap.size fa (flF m.files)) (hf1:m.files.length≤fc) (hf2:fc≤maxLen) (hok:m.Ok) (hfit:FitR m) (r:Int × FSm × List SgM) (hr:openF m K M=r) :
    Calls Tryz.prog 37 #[fsv fa m.files.length fc m.fuse m.down,.int .i64 K,.int .i64 M] w (ROpen w m K M r):=by
  by_cases hg:1≤K∧K≤16∧1≤M∧M≤32
  case neg =>
    refine (openR_arg fa fc m K M w hfl hf1 hf2 hg).mono ?_
    intro e w' h
    have:r=(1,m,[]):=by rw [← hr];unfold openF;rw [if_pos hg]
    subst this
    exact h.ropen
  by_cases hd:m.down=true
  case pos =>
    refine (openR_down fa fc m K M w hfl hf1 hf2 hg hd).mono ?_
    intro e w' h
    have:r=(7,m,[]):=by rw [← hr];unfold openF;rw [if_neg (by simp [hg]),if_pos hd]
    subst this
    exact h.ropen
  case neg =>
    have hd:m.down=false:=by simpa using hd
    refine (openR_find fa fc m K M w hfl hf1 hf2 hg hd hok hfit.1.2 (by have:=hfit.few;omega) hfit mend_all r (by rw [← openF_find hg hd];exact hr)).mono ?_
    exact fun e w' h=>h
end Go.Proofs.YtccbpngehedbaaaGreat

