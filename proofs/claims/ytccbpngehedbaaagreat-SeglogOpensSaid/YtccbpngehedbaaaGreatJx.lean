import Derived.Test.YtccbpngehedbaaaGreatJw
import Derived.Deep.RegionHeldLaw
import Derived.Test.YtccbpngehedbaaaGreatJg
namespace Go.Proofs.YtccbpngehedbaaaGreat
open Go Go.RowKit Go.Sort

/-! The landed log: takeLast. -/
theorem do_fresh (F:FsKit) (w0:World) (S R T U:Nat→Prop) (p q n:Nat) (m:FSm) (g:LgM) (a:Option Addr) (c:Nat) (L:List SgR) (k:Nat) (fvs:Array Value) (As:List (FSm→FSm × Int)) (nf fc:Nat)
    (hF:F.Fs w0 S R p m) (hL:LgB w0 T p q g a c L) (hd:Dis T S R) (hk:Lim k m) (hk2:k+As.length≤9900) (hnf:nf=fvs.size) (hlen:fvs.size=As.length) (hU:∀ j,U j→¬ S j∧j < w0.heap.size)
    (hacts:∀ i (h:i < fvs.toList.length) (h2:i < As.length),ActOk F p n w0 U fvs.toList[i] As[i]) (i0:Nat) (hi0:i0=w0.heap.size) (rr:FSm × Int) (hrr:runA As m=rr) :
    Calls Tryz.prog 58 #[.pointer (some ⟨q,0,none⟩),.int .u32 (n:Int),.slice (some ⟨i0,0,none⟩) nf fc] (w0.alloc (.cells fvs 146)) fun e w'=>∃ S' R',DoOut F w0 S R T p q g a c L rr e w' S' R':=by
  subst hi0 hrr
  have hb:=box1 w0 (.cells fvs 146)
  have hL3:=hL.did hd (Did.of_below hb)
  refine (do_any F _ S R T U p q n m g a c L k (some ⟨w0.heap.size,0,none⟩) fc fvs.toList As nf (F.below hF hb) hL3.1 hL3.2 hk hk2 (rdn_lit w0 fvs _ (F.low hF).1) (by simpa using hnf) (by simpa using hlen) (fun j hj=>⟨(hU j hj).1,Nat.lt_of_lt_of_le (hU j hj).2 hb.size⟩)
    (fun i h h2=>(hacts i h h2).more hb.size fun j hj=>⟨hj,hb.block j (hU j hj).2⟩)).mono ?_
  rintro e w' ⟨S',R',h⟩
  exact ⟨S',R',h.after (Did.of_below hb)⟩
theorem acts_two {F:FsKit} {p n:Nat} {w0:World} {U:Nat→Prop} {f1 f2:Value} {A1 A2:FSm→FSm × Int} (h1:ActOk F p n w0 U f1 A1) (h2:ActOk F p n w0 U f2 A2) :
    ∀ i (_h:i < (#[f1,f2]:Array Value).toList.length) (h2:i < [A1,A2].length),ActOk F p n w0 U (#[f1,f2]:Array Value).toList[i] [A1,A2][i]:=fun i h _=>by
  match i with
  | 0=>exact h1
  | 1=>exact h2
  | i+2=>simp at h;omega
theorem runA_two (A B:FSm→FSm × Int) (m:FSm):runA [A,B] m=if (A m).2 ≠ 0 then A m else B (A m).1:=by
  show (if (A m).2 ≠ 0 then A m else (if (B (A m).1).2 ≠ 0 then B (A m).1 else ((B (A m).1).1,0)))=_
  split
  · rfl
  · split
    · rfl
    · rename_i h;exact Prod.ext rfl (Classical.not_not.1 h).symm
theorem runA_one (A:FSm→FSm × Int) (m:FSm):runA [A] m=A m:=by
  show (if (A m).2 ≠ 0 then A m else ((A m).1,0))=_
  split
  · rfl
  · rename_i h;exact Prod.ext rfl (Classical.not_not.1 h).symm
/-- What opening, as far as it goes, leaves. -/
def OpO (F:FsKit) (w:World) (S R T:Nat→Prop) (p q:Nat) (g:LgM) (r:Int × FSm × List SgM) (w':World):Prop :=
  ∃ S' R',F.Fs w' S' R' p r.2.1∧(∀ k,S' k→S k∨w.heap.size≤k)∧(∀ k,R' k→R k∨S k∨w.heap.size≤k)∧Off (fun k=>S k∨T k) w w' ∧
    (r.1=0→∃ T',LgAt w' T' p q { g with segs:=g.segs ++ r.2.2 }∧(∀ k,T' k→T k∨w.heap.size≤k)∧Dis T' S' R')
theorem OpO.of_lgo {F:FsKit} {w w':World} {S R T:Nat→Prop} {p q:Nat} {m:FSm} {g:LgM} {r:Int × FSm × List SgM} (h:LgO F w S R T p q m { g with segs:=g.segs ++ r.2.2 } w') (hm:r.2.1=m):OpO F w S R T p q g r w':=by
  obtain ⟨S',R',T',hF,hL,hd⟩:=h
  exact ⟨S',R',by rw [hm];exact hF,hd.s,hd.r,hd.off,fun _=>⟨T',hL,hd.t,hd.dis⟩⟩
theorem OpO.of_do {F:FsKit} {w w1 w':World} {S R T S1 R1 T1 S' R':Nat→Prop} {p q:Nat} {g g1:LgM} {a:Option Addr} {c:Nat} {L:List SgR} {r:FSm × Int} {e:Ending} {res:Int × FSm × List SgM} (h0:DidL S R T S1 R1 T1 w w1) (ht1:T1 q)
    (h:DoOut F w1 S1 R1 T1 p q g1 a c L r e w' S' R') (he:res.1=r.2) (hm:res.2.1=r.1) (hg:r.2=0→g1={ g with segs:=g.segs ++ res.2.2 }):OpO F w S R T p q g res w':=by
  have hs:=h0.off.size
  refine ⟨S',R',by rw [hm];exact h.fs,fun k hk=>?_,fun k hk=>?_,h0.off.andThen h.off fun k hk=>?_,fun hz=>⟨T1,⟨a,c,L,?_⟩,h0.t,h.dis⟩⟩
  · rcases h.s k hk with e | e
    · exact h0.s k e
    · exact .inr (by omega)
  · rcases h.r k hk with e | e | e
    · exact h0.r k e
    · exact .inr (h0.s k e)
    · exact .inr (.inr (by omega))
  · rcases hk with e | e
    · rcases h0.s k e with e | e
      · exact .inl (.inl e)
      · exact .inr e
    · subst e
      rcases h0.t k ht1 with e | e
      · exact .inl (.inr e)
      · exact .inr e
  · have hl:=h.log
    rw [if_neg (by rw [← he,hz];simp),hg (by rw [← he];exact hz)] at hl
    exact hl
theorem mend_err {m:FSm} {k n:Nat} {e:Nat} (h:headOf (byF m n)=.error e):mendF m k n=((runA [fun m=>removeF m n,fun m=>syncF m n] m).2,(runA [fun m=>removeF m n,fun m=>syncF m n] m).1,[]):=by
  unfold mendF
  rw [h,runA_two]
  dsimp only
  split <;> rfl
theorem mend_other {m:FSm} {k n:Nat} {x:Nat × Nat} (h:headOf (byF m n)=.ok x) (hi:headIs (byF m n) n k=false):mendF m k n=(3,m,[]):=by
  unfold mendF
  rw [h]
  dsimp only
  rw [if_pos hi]
theorem mend_cut {m:FSm} {k n:Nat} {x:Nat × Nat} (h:headOf (byF m n)=.ok x) (hi:headIs (byF m n) n k=true) (hg:goodOf (byF m n) k < (byF m n).length) (G:Nat) (hG:goodOf (byF m n) k=G) (rr:FSm × Int) (hrr:runA [fun m'=>truncF m' n (G:Int),fun m'=>syncF m' n] m=rr) :
    (mendF m k n).1=rr.2∧(mendF m k n).2.1=rr.1∧(rr.2=0→(mendF m k n).2.2=[sgOf m k n]):=by
  subst hG
  rw [runA_two] at hrr
  unfold mendF
  rw [h]
  dsimp only
  rw [if_neg (by rw [hi];simp),if_pos hg]
  split at hrr
  · rename_i hne
    subst hrr
    rw [if_pos hne]
    exact ⟨rfl,rfl,fun h=>absurd h hne⟩
  · rename_i hne
    subst hrr
    rw [if_neg hne]
    exact ⟨rfl,rfl,fun _=>rfl⟩
theorem mend_seal {m:FSm} {k n:Nat} {x:Nat × Nat} (h:headOf (byF m n)=.ok x) (hi:headIs (byF m n) n k=true) (hg:¬ goodOf (byF m n) k < (byF m n).length) (hs:(segB (byF m n) k).length=k) :
    mendF m k n=((safeF m n).2,(safeF m n).1,[sgOf m k n]):=by
  unfold mendF safeF
  rw [h]
  dsimp only
  rw [if_neg (by rw [hi];simp),if_neg hg]
  by_cases hn:n ∈ numsF true m.files
  · rw [if_pos ⟨hs,hn⟩,if_pos hn]
  · rw [if_neg (fun h=>hn h.2),if_neg hn]
theorem mend_open {m:FSm} {k n:Nat} {x:Nat × Nat} (h:headOf (byF m n)=.ok x) (hi:headIs (byF m n) n k=true) (hg:¬ goodOf (byF m n) k < (byF m n).length) (hs:¬ (segB (byF m n) k).length=k):mendF m k n=(0,m,[sgOf m k n]):=by
  unfold mendF
  rw [h]
  dsimp only
  rw [if_neg (by rw [hi];simp),if_neg hg,if_neg (fun h=>hs h.1)]
set_option maxRecDepth 20000 in
set_option maxHeartbeats 4000000 in
theorem takeLast_any (F : FsKit) (w : World) (S R T : Nat → Prop) (p q n : Nat) (m : FSm) (g : LgM) (a : Option Addr) (c : Nat) (L : List SgR) (k : Nat) (hF : F.Fs w S R p m) (hL : LgB w T p q g a c L) (hd : Dis T S R) (hk : Lim k m) (hk2 : k ≤ 9800) (hn : n < 4294967296) (hroom : L.length < g.room) (r : Int × FSm × List SgM) (hr : mendF m g.keep n = r) :
    Calls Tryz.prog 73 #[.pointer (some ⟨q,0,none⟩),.int .u32 (n:Int)] w fun e w'=>e=.returned (.int .i64 r.1)∧OpO F w S R T p q g r w':=by
  have HRES:=Lib.hid hr;have HK:=Lib.hid hk
  have hb:=hk.bnd (by omega)
  clear hr hk
  have HF:=Lib.hid hF;have HL:=Lib.hid hL;have HD:=Lib.hid hd;have HB:=Lib.hid hb;have HROOM:=Lib.hid hroom;have HK1:=Lib.hid hL.k1
  have c0:=hL.box.c0
  have hbl:=by_le hb n
  clear hF hL hd hb hroom
  go_enter Tryz.func73,Tryz.ntmps73
  go_wp2_with fail
  refine (F.read w S R p m n HF.out HB.out hn).mono ?_
  rintro e w1 ⟨S1,R1,ra,rc,rfl,hr1,hr2,hnb,hF1,hd1⟩
  obtain ⟨b,hbe⟩:∃ b,b=byF m n:=⟨_,rfl⟩
  have HBE:=Lib.hid hbe
  have hsz:(readF m n).1.size=b.length:=by rw [hbe];unfold byF;rw [data_length]
  have hrb:Rd w1 w1.heap.size ra (bV b):=by rw [hbe];exact hnb.rdb
  rw [hsz] at hr1 ⊢
  rw [← hbe] at hbl
  have HF1:=Lib.hid hF1;have HD1:=Lib.hid hd1;have HR1:=Lib.hid hr1;have HR2:=Lib.hid hr2;have HRB:=Lib.hid hrb
  have HSG:Hid (sgOf m g.keep n=⟨n,segB b g.keep⟩):=by show _=_;unfold sgOf;rw [hbe]
  have HDIS1:=Lib.hid (HL.out.did HD.out hd1).2
  obtain ⟨bl,hble⟩:∃ bl,bl=b.length:=⟨_,rfl⟩
  have HBL:=Lib.hid hble
  rw [← hble] at hbl ⊢
  clear hF1 hd1 hr1 hr2 hrb hnb hsz hbe hble
  have hseg1:=read_any ra rc b w1 HRB.out (by have:=HBL.out;omega) HR1.out HR2.out
  rw [← HBL.out] at hseg1
  have HSEG1:=Lib.hid hseg1
  clear hseg1
  go_wp2_with fail
  refine HSEG1.out.mono ?_
  rintro e w2 ⟨hb2,(⟨n',hh,rfl⟩ | ⟨N,K,v,xs,hh,rfl,ho,hbod,hseg⟩)⟩
  · have HB2:=Lib.hid hb2
    have hn0:((n':Int) != 0)=true:=by have:=headOf_err hh;simp;omega
    obtain ⟨rr,hrr⟩:∃ rr,runA [fun m=>removeF m n,fun m=>syncF m n] m=rr:=⟨_,rfl⟩
    have HRR:=Lib.hid hrr
    have HE:Hid (r=(rr.2,rr.1,[])):=by show _=_;rw [← HRES.out,mend_err (by rw [← HBE.out];exact hh),hrr]
    unfold sgV
    clear hb2 hh hrr
    obtain ⟨w3,hw3⟩:∃ w3,w3=w2.alloc (.cells #[.int .u32 0,.int .i64 0,.slice none 0 0,.int .i64 0,.bool false] 163):=⟨_,rfl⟩
    have HB3:Hid (Below w1.heap.size w1 w3):=by show Below _ _ _;rw [hw3];exact HB2.out.alloc HB2.out.size _
    have HB3d:=Lib.hid (Below_drew HB3.out)
    have HD3:=Lib.hid (HD1.out.trans (Did.of_below HB3d.out))
    have HL3:=Lib.hid (HL.out.did HD.out HD3.out).1
    have HF3:=Lib.hid (F.below HF1.out HB3d.out)
    have c03:=HL3.out.box.c0
    have kq:∀ w',Below w3.drew.heap.size w3.drew w'→w'.cell? ⟨q,0,none⟩=some (.pointer (some ⟨p,0,none⟩)):=fun w' h=>(h.cell (p:=⟨q,0,none⟩) HL3.out.box.lt).trans HL3.out.box.c0
    have HACT:=Lib.hid (acts_two (ok_remove F p n hn w3.drew fun _=>False) (ok_sync F p n hn w3.drew fun _=>False))
    go_wp2_with fail
    rw [← hw3]
    clear hw3
    go_region_held_law (fun w'=>w'.cell? ⟨q,0,none⟩=some (.pointer (some ⟨p,0,none⟩))) (first | exact HC9.out | exact kq _ (Below.refl _ _) | exact kq _ ((Below.refl _ _).alloc (Nat.le_refl _) _))
      (first
        | (go_at_call 58
           refine (do_fresh F w3.drew S1 R1 T (fun _=>False) p q n m g a c L k #[meV 64 p,meV 65 p] [fun m=>removeF m n,fun m=>syncF m n] 2 2 HF3.out HL3.out HDIS1.out HK.out (by simp;omega) rfl rfl (fun _ h=>h.elim) HACT.out _ rfl rr HRR.out).mono ?_
           rintro e w5 ⟨S5,R5,h5⟩
           have he5:=h5.e
           subst he5
           have HC9:=Lib.hid h5.log.box.c0
           have H5:=Lib.hid h5
           clear h5))
    all_goals
      clear kq
      go_wp2_with fail
      go_ret
      have hr:=HE.out
      subst hr
      exact ⟨rfl,OpO.of_do (DidL.of_did HL.out.low HD.out HD3.out) HL.out.tq H5.out rfl rfl (fun _=>by simp)⟩
  · have HB2:=Lib.hid hb2;have HH:=Lib.hid hh;have HO:=Lib.hid ho;have HBD:=Lib.hid hbod;have HSG2:=Lib.hid hseg
    obtain ⟨va,vc,rfl,_,_,_⟩:=own_slice ho
    obtain ⟨hN32,hK1,hK16,h14⟩:=headOf_range hh
    obtain ⟨G,hG⟩:∃ G,G=goodOf b K:=⟨_,rfl⟩
    have hgl:G≤bl:=by rw [hG,HBL.out];exact good_le h14
    have HG:=Lib.hid hG
    rw [good_end,← hG]
    obtain ⟨xn,hxn⟩:∃ xn,xn=xs.length:=⟨_,rfl⟩
    have HXN:=Lib.hid hxn
    have hxl:(segB b K).length=xn:=by rw [← hseg,List.length_map,hxn]
    rw [hxl,← hxn]
    have HXL:=Lib.hid hxl
    unfold sgV
    clear hb2 hh ho hbod hseg hG hxn hxl h14
    obtain ⟨se,hse⟩:∃ se,decide (xn=K)=se:=⟨_,rfl⟩
    have HSE:=Lib.hid hse
    rw [hse]
    clear hse
    obtain ⟨ou,hou⟩:∃ ou,(decide (N=n) && decide (K=g.keep))=ou:=⟨_,rfl⟩
    have HOU:=Lib.hid hou
    clear hou
    have HHI:Hid (headIs b n g.keep=ou):=by show _=_;unfold headIs;rw [HH.out];exact HOU.out
    have HB3:=Lib.hid (HB2.out.alloc HB2.out.size (.cells #[.int .u32 (N:Int),.int .i64 (K:Int),.slice va xn vc,.int .i64 (G:Int),.bool se] 163))
    have hL3:=HL.out.did HD.out (HD1.out.trans (Did.of_below HB3.out))
    have HL3:=Lib.hid hL3.1
    clear hL3
    obtain ⟨w3,hw3⟩:∃ w3,w3=w2.alloc (.cells #[.int .u32 (N:Int),.int .i64 (K:Int),.slice va xn vc,.int .i64 (G:Int),.bool se] 163):=⟨_,rfl⟩
    rw [← hw3] at HB3 HL3
    have hs3:w2.heap.size < w3.heap.size:=by rw [hw3];simp
    have HRG3:Hid (w3.rangeAt w2.heap.size 0 [.int .u32 (N:Int),.int .i64 (K:Int),.slice va xn vc,.int .i64 (G:Int),.bool se]):=by show World.rangeAt _ _ _ _;rw [hw3];exact rangeAt_last w2 _ _ _ rfl
    have HS3:=Lib.hid hs3
    have HB23:Hid (Below w2.heap.size w2 w3):=by show Below _ _ _;rw [hw3];exact box1 _ _
    have HFIX:Hid ((segB b K).length≤g.keep∨K ≠ g.keep):=by
      show _∨_
      have h1:=seg_few b K
      by_cases h:K=g.keep
      · exact .inl (by omega)
      · exact .inr h
    cases ou
    · go_wp2_with fail
      rw [← hw3]
      refine (isOurs_is w3 HL3.out.box N K n xn vc va G se false HOU.out).mono ?_;rintro e w4 ⟨rfl,hb4⟩
      have HB4:=Lib.hid (HB3.out.trans (hb4.mono HB3.out.size))
      clear hb4 hw3
      go_wp2_with fail
      go_ret
      have hr:=mend_other (k:=g.keep) (by rw [← HBE.out];exact HH.out) (by rw [← HBE.out];exact HHI.out)
      rw [HRES.out] at hr
      subst hr
      refine ⟨rfl,OpO.of_lgo (m:=m) ?_ rfl⟩
      rw [List.append_nil]
      exact LgO.of_did (F.below HF1.out HB4.out) HL.out HD.out (HD1.out.trans (Did.of_below HB4.out))
    · have HNK : Hid (N = n ∧ K = g.keep) := by show _ ∧ _; have := HOU.out; simpa using this
      go_wp2_with fail
      rw [← hw3]
      refine (isOurs_is w3 HL3.out.box N K n xn vc va G se true HOU.out).mono ?_;rintro e w4 ⟨rfl,hb4⟩
      have HB4:=Lib.hid (HB3.out.trans (hb4.mono HB3.out.size))
      have HB24:=Lib.hid (HB23.out.trans (hb4.mono HB23.out.size))
      have hrg4:=range_below HRG3.out hb4 HS3.out
      have HRG4:=Lib.hid hrg4
      have HL4:=Lib.hid (HL.out.did HD.out (HD1.out.trans (Did.of_below HB4.out))).1
      have hr0:=hrg4 0 (.int .u32 (N:Int)) rfl
      have hr1:=hrg4 1 (.int .i64 (K:Int)) rfl
      have hr2:=hrg4 2 (.slice va xn vc) rfl
      have hr3:=hrg4 3 (.int .i64 (G:Int)) rfl
      have hr4:=hrg4 4 (.bool se) rfl
      rw [Nat.zero_add] at hr0 hr1 hr2 hr3 hr4
      have HS4:Hid (w2.heap.size < w4.heap.size):=Nat.lt_of_lt_of_le HS3.out hb4.size
      clear hb4 hw3 hrg4
      go_wp2_with fail
      have hbase:w1.heap.size≤w4.heap.size:=Nat.le_trans HB2.out.size HB24.out.size
      refine (take_any w4 T p q g a c L HL4.out w1.heap.size N K va vc xs xn HXN.out G se (fun k hk=>Nat.lt_of_lt_of_le (HL.out.low k hk) HD1.out.off.size) hbase
        (by rw [HXN.out];exact own_below HO.out HB24.out) (fun x hx=>(HBD.out x hx).below HB24.out) hN32 HROOM.out (by have h1:=seg_few b K;have h2:=HXL.out;have h3:=HXN.out;have h4:=HNK.out.2;omega)).mono ?_
      rintro e w5 ⟨rfl,⟨a5,c5,hL5⟩,ho5⟩
      obtain ⟨hF5,hD5⟩:=take_facts HL.out HD.out HD1.out HF1.out HB4.out ho5
      have e2:(⟨N,xs.map Bod.b⟩:SgM)=sgOf m g.keep n:=by rw [HSG.out,HSG2.out,HNK.out.1,HNK.out.2]
      rw [e2] at hL5
      obtain ⟨T5,hT5⟩:∃ T5:Nat→Prop,T5=fun k=>T k∨(w1.heap.size≤k∧k < w5.heap.size):=⟨_,rfl⟩
      rw [← hT5] at hL5 hD5
      obtain ⟨L5,hL5e⟩:∃ L5,L5=L ++ [⟨N,va,vc,xs⟩]:=⟨_,rfl⟩
      rw [← hL5e] at hL5
      have HF5:=Lib.hid hF5;have HD5:=Lib.hid hD5;have HL5:=Lib.hid hL5
      have hnt:¬ T w2.heap.size:=fun h=>by have:=HL.out.low _ h;have:=HD1.out.off.size;have:=HB2.out.size;omega
      have s3:w5.cell? ⟨w2.heap.size,3,none⟩=some (.int .i64 (G:Int)):=by
        rw [ho5.cell (p:=⟨w2.heap.size,3,none⟩) HS4.out hnt];have:=HRG4.out 3 (.int .i64 (G:Int)) rfl;rwa [Nat.zero_add] at this
      have s4:w5.cell? ⟨w2.heap.size,4,none⟩=some (.bool se):=by
        rw [ho5.cell (p:=⟨w2.heap.size,4,none⟩) HS4.out hnt];have:=HRG4.out 4 (.bool se) rfl;rwa [Nat.zero_add] at this
      have HS5:Hid (w2.heap.size < w5.heap.size):=Nat.lt_of_lt_of_le HS4.out ho5.size
      clear hL5 hF5 hD5 hT5 hL5e e2 ho5 hnt hr0 hr1 hr2 hr3 hr4
      have HGB:Hid (goodOf (byF m n) g.keep=G∧(byF m n).length=bl∧(segB (byF m n) g.keep).length=xn∧headOf (byF m n)=.ok (N,K)∧headIs (byF m n) n g.keep=true):=by
        show _∧_
        rw [← HBE.out,← HNK.out.2]
        refine ⟨HG.out.symm,HBL.out.symm,HXL.out,HH.out,?_⟩
        rw [HNK.out.2];exact HHI.out
      obtain ⟨g5,hg5⟩:∃ g5:LgM,g5={ g with segs:=g.segs ++ [sgOf m g.keep n] }:=⟨_,rfl⟩
      rw [← hg5] at HL5
      have HG5:=Lib.hid hg5
      clear hg5
      by_cases hgb:G < bl
      · have HLG := Lib.hid hgb
        have HD5d:=Lib.hid (HD5.out.trans (DidL.of_did HL5.out.low HD5.out.dis (Did.of_below (Below_drew (Below.refl w5.heap.size w5)))))
        have HL5d:=Lib.hid (HL5.out.below (Below_drew (Below.refl w5.heap.size w5)))
        have HF5d:=Lib.hid (F.below HF5.out (Below_drew (Below.refl w5.heap.size w5)))
        have kq:∀ w',Below w5.drew.heap.size w5.drew w'→w'.cell? ⟨q,0,none⟩=some (.pointer (some ⟨p,0,none⟩))∧w'.cell? ⟨w2.heap.size,3,none⟩=some (.int .i64 (G:Int)):=fun w' h =>
          ⟨(h.cell (p:=⟨q,0,none⟩) HL5d.out.box.lt).trans HL5d.out.box.c0,(h.cell (p:=⟨w2.heap.size,3,none⟩) HS5.out).trans s3⟩
        obtain ⟨rr,hrr⟩:∃ rr,runA [fun m=>truncF m n (G:Int),fun m=>syncF m n] m=rr:=⟨_,rfl⟩
        have HRR:=Lib.hid hrr
        clear hrr
        go_wp2_with fail
        go_region_held_law (fun w'=>w'.cell? ⟨q,0,none⟩=some (.pointer (some ⟨p,0,none⟩))∧w'.cell? ⟨w2.heap.size,3,none⟩=some (.int .i64 (G:Int))) (first | exact HC9.out | exact kq _ (Below.refl _ _) | exact kq _ HB6.out | exact kq _ (HB6.out.alloc HB6.out.size _))
          (first
            | (go_at_call 101
               refine (cut_is q (G:Int) w5.drew).mono ?_
               rintro e w6 ⟨rfl,hb6,hs6,hx1,hx2⟩
               have HB6:=Lib.hid hb6
               have HL6:=Lib.hid (HL5d.out.below hb6)
               have HF6:=Lib.hid (F.below HF5d.out hb6)
               have HD6:=Lib.hid (HD5d.out.trans (DidL.of_did HL5d.out.low HD5d.out.dis (Did.of_below hb6)))
               have HACT:=Lib.hid (acts_two (ok_cut F p q g5.keep g5.room w5.drew.heap.size n _ _ hn w6 (fun j=>j=w5.drew.heap.size∨j=w5.drew.heap.size+1∨j=q) (G:Int) HL6.out.box hx1 hx2 (.inl rfl) (.inr (.inl rfl)) (.inr (.inr rfl)) (by omega) (by omega)) (ok_sync F p n hn w6 fun j=>j=w5.drew.heap.size∨j=w5.drew.heap.size+1∨j=q))
               have HU6:Hid (∀ j,(j=w5.drew.heap.size∨j=w5.drew.heap.size+1∨j=q)→¬ S1 j∧j < w6.heap.size):=fun j hj=>by
                 have hlow:=(F.low HF5d.out).1
                 rcases hj with e | e | e
                 · exact ⟨fun h=>by have:=hlow j h;omega,by omega⟩
                 · exact ⟨fun h=>by have:=hlow j h;omega,by omega⟩
                 · subst e;exact ⟨(HD6.out.dis j HL6.out.tq).1,HL6.out.low j HL6.out.tq⟩
               clear hb6 hs6 hx1 hx2)
            | (go_at_call 58
               refine (do_fresh F w6 S1 R1 T5 (fun j=>j=w5.drew.heap.size∨j=w5.drew.heap.size+1∨j=q) p q n m g5 a5 c5 L5 k #[clV 126 w5.drew.heap.size,meV 65 p] [fun m=>truncF m n (G:Int),fun m=>syncF m n] 2 2 HF6.out HL6.out HD6.out.dis HK.out (by simp;omega) rfl rfl HU6.out HACT.out _ rfl rr HRR.out).mono ?_
               rintro e w7 ⟨S7,R7,h7⟩
               have he7:=h7.e
               subst he7
               have HC9:Hid (w7.cell? ⟨q,0,none⟩=some (.pointer (some ⟨p,0,none⟩))∧w7.cell? ⟨w2.heap.size,3,none⟩=some (.int .i64 (G:Int))):=by
                 refine ⟨h7.log.box.c0,?_⟩
                 have hn2:¬ (S1 w2.heap.size∨w2.heap.size=q):=fun h=>by
                   have h1:=HB2.out.size
                   have h2:=HD1.out.off.size
                   rcases h with h | h
                   · have:=(F.low HF1.out).1 _ h;omega
                   · have:=HL.out.box.lt;omega
                 rw [h7.off.cell (p:=⟨w2.heap.size,3,none⟩) (Nat.lt_of_lt_of_le HS5.out HB6.out.size) hn2]
                 exact (kq _ HB6.out).2
               have H7:=Lib.hid h7
               clear h7))
        all_goals
          clear kq
          go_wp2_with fail
          go_ret
          obtain ⟨r1,r2,r3⟩:=mend_cut HGB.out.2.2.2.1 HGB.out.2.2.2.2 (by rw [HGB.out.1,HGB.out.2.1];exact HLG.out) G HGB.out.1 rr HRR.out
          rw [HRES.out] at r1 r2 r3
          exact ⟨by rw [r1];rfl,OpO.of_do HD6.out HL6.out.tq H7.out r1 r2 (fun h=>by rw [r3 h];exact HG5.out)⟩
      · have HNG:=Lib.hid hgb
        cases se
        · go_wp2_with fail
          go_ret
          have hr:=mend_open HGB.out.2.2.2.1 HGB.out.2.2.2.2 (by rw [HGB.out.1,HGB.out.2.1];exact HNG.out) (by rw [HGB.out.2.2.1,← HNK.out.2];have:=HSE.out;simpa using this)
          rw [HRES.out] at hr
          subst hr
          refine ⟨rfl,OpO.of_lgo (m:=m) ?_ rfl⟩
          rw [← HG5.out]
          exact ⟨S1,R1,T5,HF5.out,⟨_,_,_,HL5.out⟩,HD5.out⟩
        · obtain ⟨rr,hrr⟩:∃ rr,safeF m n=rr:=⟨_,rfl⟩
          have HRR:=Lib.hid hrr
          clear hrr
          go_wp2_with fail
          refine (makeSafe_any F w5 S1 R1 T5 p q n m g5 a5 c5 L5 k HF5.out HL5.out HD5.out.dis HK.out hk2 hn).mono ?_
          rintro e w6 ⟨S6,R6,h6⟩
          rw [HRR.out] at h6
          have he6:=h6.e
          subst he6
          have H6:=Lib.hid h6
          clear h6
          go_wp2_with fail
          go_ret
          have hr:=mend_seal HGB.out.2.2.2.1 HGB.out.2.2.2.2 (by rw [HGB.out.1,HGB.out.2.1];exact HNG.out) (by rw [HGB.out.2.2.1,← HNK.out.2];have:=HSE.out;simpa using this)
          rw [HRES.out,HRR.out] at hr
          subst hr
          exact ⟨rfl,OpO.of_do HD5.out HL5.out.tq H6.out rfl rfl (fun _=>HG5.out)⟩
end Go.Proofs.YtccbpngehedbaaaGreat

namespace Go.Proofs.YtccbpngehedbaaaGreat
open Go Go.RowKit Go.Sort

/-! The landed log: find, Open. -/
theorem NumOk.nums {m:FSm} (h:NumOk m) {lo:Bool} {n:Nat} (hn:n ∈ numsF lo m.files):n < 4294967296:=by
  unfold numsF at hn
  obtain ⟨x,hx,rfl⟩:=List.mem_map.1 hn
  exact h x (List.mem_filter.1 hx).1
def findF (m:FSm) (k room:Nat):Int × FSm × List SgM :=
  if room < (numsF false m.files).length then (3,m,[])
  else if chainB (numsF false m.files)=false then (3,m,[])
  else if (numsF false m.files).dropLast.all (wholeF m k)=false then (3,m,[])
  else match (numsF false m.files).getLast? with
    | none=>(0,m,[])
    | some n=>((mendF m k n).1,(mendF m k n).2.1,(numsF false m.files).dropLast.map (sgOf m k) ++ (mendF m k n).2.2)
theorem openF_find {m:FSm} {keep room:Int} (hg:1≤keep∧keep≤16∧1≤room∧room≤32) (hd:m.down=false):openF m keep room=findF m keep.toNat room.toNat:=by
  unfold openF findF
  rw [if_neg (by simp [hg]),if_neg (by rw [hd];simp)]
  rfl
theorem findF_last {m:FSm} {k room:Nat} {N:List Nat} (hN:N=numsF false m.files) (h1:¬ room < N.length) (h2:chainB N=true) {j:Nat} (hj:j+1=N.length) (h3:(N.take j).all (wholeF m k)=true) {x:Nat} (hx:N[j]?=some x) :
    findF m k room=((mendF m k x).1,(mendF m k x).2.1,(N.take j).map (sgOf m k) ++ (mendF m k x).2.2):=by
  have e1:N.dropLast=N.take j:=by rw [List.dropLast_eq_take];congr 1;omega
  have e2:N.getLast?=some x:=by rw [List.getLast?_eq_getElem?,show N.length - 1=j by omega,hx]
  unfold findF
  rw [← hN,if_neg h1,if_neg (by rw [h2];simp),e1,if_neg (by rw [h3];simp),e2]
theorem findF_bad {m:FSm} {k room:Nat} {N:List Nat} (hN:N=numsF false m.files) (h1:¬ room < N.length) (h2:chainB N=true) {j:Nat} (hj:j+1 < N.length) {x:Nat} (hx:N[j]?=some x) (h3:wholeF m k x=false) :
    findF m k room=(3,m,[]):=by
  have e1:N.dropLast=N.take (N.length - 1):=List.dropLast_eq_take
  have e2:N.dropLast.all (wholeF m k)=false:=by
    rw [e1]
    refine List.all_eq_false.2 ⟨x,?_,by rw [h3];simp⟩
    refine List.mem_of_getElem? (i:=j) ?_
    rw [List.getElem?_take,if_pos (by omega),hx]
  unfold findF
  rw [← hN,if_neg h1,if_neg (by rw [h2];simp),if_pos e2]
theorem findF_nil {m:FSm} {k room:Nat} {N:List Nat} (hN:N=numsF false m.files) (h0:N.length=0):findF m k room=(0,m,[]):=by
  have h0:=List.eq_nil_of_length_eq_zero h0
  unfold findF
  rw [← hN,h0];simp [chainB]
theorem LgO.op3 {F:FsKit} {w w':World} {S R T:Nat→Prop} {p q:Nat} {m:FSm} {g g':LgM} (h:LgO F w S R T p q m g' w'):OpO F w S R T p q g (3,m,[]) w':=by
  obtain ⟨S',R',T',hF,hL,hd⟩:=h
  exact ⟨S',R',hF,hd.s,hd.r,hd.off,fun h=>absurd h (show ¬ ((3:Int)=0) by decide)⟩
theorem LgO.after {F:FsKit} {w w1 w':World} {S R T S1 R1 T1:Nat→Prop} {p q:Nat} {m:FSm} {g:LgM} (h0:DidL S R T S1 R1 T1 w w1) (h:LgO F w1 S1 R1 T1 p q m g w'):LgO F w S R T p q m g w':=by
  obtain ⟨S',R',T',hF,hL,hd⟩:=h
  exact ⟨S',R',T',hF,hL,h0.trans hd⟩
theorem OpO.after {F:FsKit} {w w1 w':World} {S R T S1 R1 T1:Nat→Prop} {p q:Nat} {g g1:LgM} {r r1:Int × FSm × List SgM} (h0:DidL S R T S1 R1 T1 w w1) (h:OpO F w1 S1 R1 T1 p q g1 r1 w') (hm:r.2.1=r1.2.1) (he:r.1=r1.1)
    (hg:{ g1 with segs:=g1.segs ++ r1.2.2 }={ g with segs:=g.segs ++ r.2.2 }):OpO F w S R T p q g r w':=by
  obtain ⟨S',R',hF,h1,h2,h3,h4⟩:=h
  have hs:=h0.off.size
  refine ⟨S',R',by rw [hm];exact hF,fun k hk=>?_,fun k hk=>?_,h0.off.andThen h3 fun k hk=>?_,fun hz=>?_⟩
  · rcases h1 k hk with e | e
    · exact h0.s k e
    · exact .inr (by omega)
  · rcases h2 k hk with e | e | e
    · exact h0.r k e
    · exact .inr (h0.s k e)
    · exact .inr (.inr (by omega))
  · rcases hk with e | e
    · rcases h0.s k e with e | e
      · exact .inl (.inl e)
      · exact .inr e
    · rcases h0.t k e with e | e
      · exact .inl (.inr e)
      · exact .inr e
  · obtain ⟨T',hl,ht,hd⟩:=h4 (by rw [← he];exact hz)
    refine ⟨T',by rw [← hg];exact hl,fun k hk=>?_,hd⟩
    rcases ht k hk with e | e
    · exact h0.t k e
    · exact .inr (by omega)
theorem LB.no_u32 {w:World} {q p K R:Nat} {v:Value} {ov:Bool} (h:LB w q p K R v ov) (hv:∀ x,v ≠ .int .u32 x) {off:Nat} {x:Int} (hc:w.cell? ⟨q,off,none⟩=some (.int .u32 x)):False:=by
  unfold LB at h
  simp only [World.cell?,h] at hc
  match off,hc with
  | 0,hc=>simp at hc
  | 1,hc=>simp at hc
  | 2,hc=>simp at hc
  | 3,hc=>simp at hc;exact hv x hc
  | 4,hc=>simp at hc
  | off+5,hc=>simp at hc
set_option maxRecDepth 20000 in
set_option maxHeartbeats 4000000 in
theorem find_any (F : FsKit) (w : World) (S R : Nat → Prop) (p q : Nat) (m : FSm) (g : LgM) (a : Option Addr) (c : Nat) (k : Nat) (hF : F.Fs w S R p m) (hL : LgB w (fun j => j = q) p q g a c []) (hd : Dis (fun j => j = q) S R) (hk : Lim k m) (hk2 : k ≤ 9800) (hnum : NumOk m) (r : Int × FSm × List SgM) (hr : findF m g.keep g.room = r) :
    Calls Tryz.prog 46 #[.pointer (some ⟨q,0,none⟩)] w fun e w'=>e=.returned (.int .i64 r.1)∧OpO F w S R (fun j=>j=q) p q g r w':=by
  have HRES:=Lib.hid hr;have HK:=Lib.hid hk;have HNUM:=Lib.hid hnum;have HB:=Lib.hid (hk.bnd (by omega))
  clear hr hk hnum
  have HF:=Lib.hid hF;have HL:=Lib.hid hL;have HD:=Lib.hid hd
  have c0:=hL.box.c0
  clear hF hL hd
  go_enter Tryz.func46,Tryz.ntmps46
  go_wp2_with fail
  refine (F.list w S R p m HF.out HB.out).mono ?_
  rintro e w1 ⟨S1,R1,na,nc,rfl,hn1,hn2,hnr,hF1,hd1⟩
  obtain ⟨N,hN⟩:∃ N,N=numsF false m.files:=⟨_,rfl⟩
  have hsd:N.Pairwise (· < ·):=by rw [hN];exact nums_sorted (F.ok hF1).1
  have hx32:∀ x ∈ N,x < 4294967296:=fun x hx=>HNUM.out.nums (by rw [← hN];exact hx)
  rw [← hN] at hn1 hnr ⊢
  have HN:=Lib.hid hN
  have hL1:=HL.out.did HD.out hd1
  have HL1:=Lib.hid hL1.1;have HDIS1:=Lib.hid hL1.2
  have HF1:=Lib.hid hF1;have HD1:=Lib.hid hd1;have HSD:=Lib.hid hsd;have HX:=Lib.hid hx32;have HNR:=Lib.hid hnr
  have HNRT:Hid (RdN (fun j=>S1 j∨j=q) w1 na (u32V N)):=fun h0=>by
    obtain ⟨b,off,ha,hb,hns,hc⟩:=HNR.out h0
    refine ⟨b,off,ha,hb,fun h=>?_,hc⟩
    rcases h with h | h
    · exact hns h
    · subst h
      have hl:0 < N.length:=by rwa [u32V_length] at h0
      have h1:=hc 0 (.int .u32 (N[0]:Int)) (by simp [u32V,hl])
      rw [Nat.add_zero] at h1
      exact HL1.out.box.no_u32 (by intro x;simp) h1
  have HFIND:Hid (r=findF m g.keep g.room):=HRES.out.symm
  have c2:=hL1.1.box.c2
  obtain ⟨n,hn⟩:∃ n,n=N.length:=⟨_,rfl⟩
  have HNL:=Lib.hid hn
  rw [← hn] at hn1 ⊢
  have HR1:=Lib.hid HL.out.r1
  clear hN hsd hx32 hnr hF1 hd1 hL1 hn hn1 hn2 HRES
  have d1:DidL S R (fun j=>j=q) S1 R1 (fun j=>j=q) w w1:=DidL.of_did HL.out.low HD.out HD1.out
  have HDL1:=Lib.hid d1
  clear d1
  obtain ⟨room,hroom⟩:∃ room,room=g.room:=⟨_,rfl⟩
  have HROOM:=Lib.hid hroom
  rw [← hroom] at c2
  have hr32:room≤32:=by rw [hroom];exact HR1.out.2
  clear hroom
  by_cases hbig:room < n
  · have HE:Hid (r=(3,m,[])):=by
      show _=_
      rw [HFIND.out];unfold findF;rw [if_pos (by rw [← HN.out,← HNL.out,← HROOM.out];exact hbig)]
    go_wp2_with fail
    go_ret
    have hr:=HE.out
    subst hr
    exact ⟨rfl,LgO.op3 (LgO.of_did HF1.out HL.out HD.out HD1.out)⟩
  · have HNB := Lib.hid hbig
    have hn32:n≤32:=by omega
    cases hch:chainB N
    · have HE:Hid (r=(3,m,[])):=by
        show _=_
        rw [HFIND.out];unfold findF;rw [if_neg (by rw [← HN.out,← HNL.out,← HROOM.out];exact hbig),if_pos (by rw [← HN.out];exact hch)]
      have HCH:=Lib.hid hch
      clear hch
      go_wp2_with fail
      refine (inARow_is na n nc N false w1 HNL.out HNR.out.rd HSD.out HX.out (by omega) HCH.out).mono ?_;rintro e w2 ⟨rfl,hb2⟩
      have HB2:=Lib.hid hb2
      clear hb2
      go_wp2_with fail
      go_ret
      have hr:=HE.out
      subst hr
      exact ⟨rfl,LgO.op3 (LgO.of_did (F.below HF1.out HB2.out) HL.out HD.out (HD1.out.trans (Did.of_below HB2.out)))⟩
    · have HCH := Lib.hid hch
      clear hch
      go_wp2_with fail
      refine (inARow_is na n nc N true w1 HNL.out HNR.out.rd HSD.out HX.out (by omega) HCH.out).mono ?_;rintro e w2 ⟨rfl,hb2⟩
      have HB2:=Lib.hid hb2
      clear hb2
      go_wp2_with fail
      go_loopw [25] (fun i wr=>∃ (j:Nat) (S2 R2 T2:Nat→Prop) (a2:Option Addr) (c2:Nat) (L2:List SgR),j≤n∧i=.int .i64 j∧F.Fs wr S2 R2 p m∧LgB wr T2 p q { g with segs:=g.segs ++ (N.take j).map (sgOf m g.keep) } a2 c2 L2∧DidL S R (fun j=>j=q) S2 R2 T2 w wr∧(N.take j).all (wholeF m g.keep)=true∧(j=0∨j < n)∧L2.length=j∧RdN (fun j=>S2 j∨T2 j) wr na (u32V N)) (fun i _=>n - (intOf i).toNat)
      case atStart =>
        refine ⟨0,S1,R1,fun j=>j=q,a,c,[],Nat.zero_le _,rfl,F.below HF1.out HB2.out,?_,HDL1.out.trans (DidL.of_did HL1.out.low HDIS1.out (Did.of_below HB2.out)),rfl,.inl rfl,rfl,HNRT.out.off (Off.of_below HB2.out) fun j hj=>.inl hj⟩
        rw [List.take_zero,List.map_nil,List.append_nil]
        exact HL1.out.below HB2.out
      case round =>
        obtain ⟨j,S2,R2,T2,a2,c2,L2,hj,rfl,hF2,hL2,hD2,hall,hj0,hlen,hrn⟩:=hrel
        have HF2:=Lib.hid hF2;have HL2:=Lib.hid hL2;have HD2:=Lib.hid hD2;have HALL:=Lib.hid hall;have HLEN:=Lib.hid hlen;have HRN:=Lib.hid hrn
        clear hF2 hL2 hD2 hall hlen hrn
        by_cases hlt:j < n
        · have hjL:j < N.length:=by rw [← HNL.out];exact hlt
          obtain ⟨b,off,rfl,hbl,hns,hcell⟩:=HRN.out (by rw [u32V_length];omega)
          obtain ⟨x,hx⟩:∃ x,N[j]?=some x:=⟨_,List.getElem?_eq_getElem hjL⟩
          have q0:=hcell j (.int .u32 (x:Int)) (by simp [u32V,hx])
          have HXJ:=Lib.hid hx;have HLT:=Lib.hid hlt
          have hxl:x < 4294967296:=HX.out x (List.mem_of_getElem? hx)
          have HTK:Hid (N.take (j+1)=N.take j ++ [x]):=by show _=_;rw [List.take_add_one,hx];rfl
          have i1:(0:Int)≤(j:Int):=by omega
          have i2:(j:Int) < (n:Int):=by omega
          clear hcell hx
          have HJR:Hid (L2.length < g.room):=by show _ < _;rw [HLEN.out];have:=HROOM.out;omega
          by_cases hjn:j+1=n
          · have e1:((j:Int) == (n:Int) - 1)=true:=by simp;omega
            have HJN:=Lib.hid hjn
            obtain ⟨mr,hmr⟩:∃ mr,mendF m g.keep x=mr:=⟨_,rfl⟩
            have HMR:=Lib.hid hmr
            have HE:Hid (r=(mr.1,mr.2.1,(N.take j).map (sgOf m g.keep) ++ mr.2.2)):=by
              show _=_
              rw [HFIND.out,findF_last HN.out (by rw [← HNL.out,← HROOM.out];exact HNB.out) HCH.out (by rw [← HNL.out];exact hjn) HALL.out HXJ.out,hmr]
            clear hjn hlt hmr
            go_wp2_with fail
            refine (takeLast_any F wr S2 R2 T2 p q x m { g with segs:=g.segs ++ (N.take j).map (sgOf m g.keep) } a2 c2 L2 k HF2.out HL2.out HD2.out.dis HK.out hk2 hxl HJR.out mr HMR.out).mono ?_
            rintro e w5 ⟨rfl,h5⟩
            have H5:=Lib.hid h5
            clear h5
            go_wp2_with fail
            go_ret
            have hr:=HE.out
            subst hr
            exact ⟨rfl,H5.out.after HD2.out rfl rfl (by rw [List.append_assoc])⟩
          · have e1:((j:Int) == (n:Int) - 1)=false:=by simp;omega
            have HJN:=Lib.hid hjn
            clear hjn hlt
            cases hw:wholeF m g.keep x
            · have HW:=Lib.hid hw
              have HE:Hid (r=(3,m,[])):=by
                show _=_
                rw [HFIND.out,findF_bad HN.out (by rw [← HNL.out,← HROOM.out];exact HNB.out) HCH.out (j:=j) (by rw [← HNL.out];have:=HJN.out;have:=HLT.out;omega) HXJ.out hw]
              clear hw
              go_wp2_with fail
              refine (takeWhole_any F wr S2 R2 T2 p q x m { g with segs:=g.segs ++ (N.take j).map (sgOf m g.keep) } a2 c2 L2 HF2.out HL2.out HD2.out.dis HB.out hxl HJR.out false HW.out _ rfl).mono ?_
              rintro e w5 ⟨rfl,h5⟩
              have H5:=Lib.hid h5
              clear h5
              go_wp2_with fail
              go_ret
              have hr:=HE.out
              subst hr
              exact ⟨rfl,LgO.op3 (H5.out.after HD2.out)⟩
            · have HW:=Lib.hid hw
              clear hw
              go_wp2_with fail
              refine (takeWhole_any F wr S2 R2 T2 p q x m { g with segs:=g.segs ++ (N.take j).map (sgOf m g.keep) } a2 c2 L2 HF2.out HL2.out HD2.out.dis HB.out hxl HJR.out true HW.out _ rfl).mono ?_
              rintro e w5 ⟨rfl,S5,R5,T5,hF5,⟨a5,c5,L5,hL5⟩,hD5⟩
              have HF5:=Lib.hid hF5;have HL5:=Lib.hid hL5;have HD5:=Lib.hid hD5
              clear hF5 hL5 hD5
              go_wp2_with fail
              go_roundw
              case rel =>
                have hseg:LgB w5 T5 p q { g with segs:=(g.segs ++ (N.take j).map (sgOf m g.keep)) ++ [sgOf m g.keep x] } a5 c5 L5:=HL5.out
                refine ⟨j+1,S5,R5,T5,a5,c5,L5,HLT.out,by go_num,HF5.out,?_,HD2.out.trans HD5.out,?_,by have:=HJN.out;have:=HLT.out;omega,?_,HRN.out.off HD5.out.off fun y hy=>?_⟩
                · rw [HTK.out,List.map_append,← List.append_assoc];exact hseg
                · rw [HTK.out,List.all_append,HALL.out];simp [HW.out]
                · have h1:=congrArg List.length hseg.segs
                  have h2:=congrArg List.length HL2.out.segs
                  simp only [List.length_append,List.length_map,List.length_singleton] at h1 h2
                  have h3:=HLEN.out
                  omega
                · rcases hy with hy | hy
                  · exact (HD5.out.s y hy).imp .inl id
                  · exact (HD5.out.t y hy).imp .inr id
              case measure=>have:=HLT.out;simp [intOf];omega
        · have hj00:j=0:=by omega
          have hn0:n=0:=by omega
          have HJ0:=Lib.hid hj00
          have HE:Hid (r=(0,m,[])):=by
            show _=_
            rw [HFIND.out,findF_nil HN.out (by rw [← HNL.out];exact hn0)]
          clear hj00 hn0
          go_wp2_with fail
          go_ret
          have hr:=HE.out
          subst hr
          refine ⟨rfl,OpO.of_lgo (m:=m) ?_ rfl⟩
          have hl:=HL2.out
          rw [HJ0.out,List.take_zero,List.map_nil] at hl
          exact ⟨S2,R2,T2,HF2.out,⟨a2,c2,L2,hl⟩,HD2.out⟩
set_option maxRecDepth 20000 in
set_option maxHeartbeats 4000000 in
theorem open_any (F : FsKit) (w : World) (S R : Nat → Prop) (p : Nat) (m : FSm) (keep room : Int) (hF : F.Fs w S R p m) (hfit : Fit m) (r : Int × FSm × List SgM) (hr : openF m keep room = r) :
    Calls Tryz.prog 16 #[.pointer (some ⟨p,0,none⟩),.int .i64 keep,.int .i64 room] w fun e w'=>∃ S' R' v,e=.returned (.tuple #[.pointer v,.int .i64 r.1])∧F.Fs w' S' R' p r.2.1∧Did S R S' R' w w' ∧
      (r.1=0→∃ q T,v=some ⟨q,0,none⟩∧LgAt w' T p q ⟨keep.toNat,room.toNat,r.2.2,false⟩∧(∀ k,T k→w.heap.size≤k)∧Dis T S' R'):=by
  have HF:=Lib.hid hF;have HFIT:=Lib.hid hfit;have HRES:=Lib.hid hr
  clear hF hfit hr
  by_cases hk:1≤keep∧keep≤16
  case neg =>
    have HE:Hid (r=(1,m,[])):=by
      show _=_
      rw [← HRES.out];unfold openF;rw [if_pos fun h=>hk ⟨h.1,h.2.1⟩]
    have HK:Hid ((decide (1≤keep) && decide (keep≤16))=false):=by
      show _=_
      by_cases h1:1≤keep <;> by_cases h2:keep≤16 <;> simp_all
    clear hk
    go_enter Tryz.func16,Tryz.ntmps16
    go_wp2_with fail
    refine (within_is keep 16 false HK.out w).mono ?_;rintro e w1 ⟨rfl,rfl⟩
    go_wp2_with fail
    go_ret2
    have hr:=HE.out
    subst hr
    exact ⟨S,R,none,rfl,HF.out,Did.refl _ _ _,fun h=>absurd h (show ¬ ((1:Int)=0) by decide)⟩
  by_cases hro:1≤room∧room≤32
  case neg =>
    have HE:Hid (r=(1,m,[])):=by
      show _=_
      rw [← HRES.out];unfold openF;rw [if_pos fun h=>hro ⟨h.2.2.1,h.2.2.2⟩]
    have HK:Hid ((decide (1≤keep) && decide (keep≤16))=true):=by show _=_;simp [hk]
    have HR:Hid ((decide (1≤room) && decide (room≤32))=false):=by
      show _=_
      by_cases h1:1≤room <;> by_cases h2:room≤32 <;> simp_all
    clear hk hro
    go_enter Tryz.func16,Tryz.ntmps16
    go_wp2_with fail
    refine (within_is keep 16 true HK.out w).mono ?_;rintro e w1 ⟨rfl,rfl⟩
    go_wp2_with fail
    refine (within_is room 32 false HR.out w1).mono ?_;rintro e w2 ⟨rfl,rfl⟩
    go_wp2_with fail
    go_ret2
    have hr:=HE.out
    subst hr
    exact ⟨S,R,none,rfl,HF.out,Did.refl _ _ _,fun h=>absurd h (show ¬ ((1:Int)=0) by decide)⟩
  have HK:Hid ((decide (1≤keep) && decide (keep≤16))=true):=by show _=_;simp [hk]
  have HR:Hid ((decide (1≤room) && decide (room≤32))=true):=by show _=_;simp [hro]
  have HG:Hid (1≤keep∧keep≤16∧1≤room∧room≤32):=⟨hk.1,hk.2,hro.1,hro.2⟩
  clear hk hro
  cases hd:m.down
  case true =>
    have HE:Hid (r=(7,m,[])):=by
      show _=_
      rw [← HRES.out];unfold openF;rw [if_neg (by have:=HG.out;simp [this]),if_pos hd]
    have HDN:=Lib.hid hd
    clear hd
    go_enter Tryz.func16,Tryz.ntmps16
    go_wp2_with fail
    refine (within_is keep 16 true HK.out w).mono ?_;rintro e w1 ⟨rfl,rfl⟩
    go_wp2_with fail
    refine (within_is room 32 true HR.out w1).mono ?_;rintro e w2 ⟨rfl,rfl⟩
    go_wp2_with fail
    refine (F.down w2 S R p m HF.out).mono ?_
    rintro e w3 ⟨S3,R3,rfl,hF3,hd3⟩
    rw [HDN.out]
    have HF3:=Lib.hid hF3;have HD3:=Lib.hid hd3
    clear hF3 hd3
    go_wp2_with fail
    go_ret2
    have hr:=HE.out
    subst hr
    exact ⟨S3,R3,none,rfl,HF3.out,HD3.out,fun h=>absurd h (show ¬ ((7:Int)=0) by decide)⟩
  case false =>
    have HE:Hid (findF m keep.toNat room.toNat=r):=by
      show _=_
      rw [← HRES.out];exact (openF_find HG.out hd).symm
    have HDN:=Lib.hid hd
    clear hd
    obtain ⟨K,hK⟩:∃ K:Nat,keep=(K:Int):=⟨keep.toNat,by have:=HG.out;omega⟩
    obtain ⟨M,hM⟩:∃ M:Nat,room=(M:Int):=⟨room.toNat,by have:=HG.out;omega⟩
    subst hK hM
    rw [Int.toNat_natCast,Int.toNat_natCast] at HE
    obtain ⟨⟨kk,hkk,hlim⟩,hnum⟩:=HFIT.out
    have HLIM:=Lib.hid hlim;have HNUM:=Lib.hid hnum
    clear hlim hnum
    obtain ⟨re,rm,rs⟩:=r
    go_enter Tryz.func16,Tryz.ntmps16
    go_wp2_with fail
    refine (within_is (K:Int) 16 true HK.out w).mono ?_;rintro e w1 ⟨rfl,rfl⟩
    go_wp2_with fail
    refine (within_is (M:Int) 32 true HR.out w1).mono ?_;rintro e w2 ⟨rfl,rfl⟩
    go_wp2_with fail
    refine (F.down w2 S R p m HF.out).mono ?_
    rintro e w3 ⟨S3,R3,rfl,hF3,hd3⟩
    rw [HDN.out]
    have HF3:=Lib.hid hF3;have HD3:=Lib.hid hd3
    clear hF3 hd3
    go_wp2_with fail
    have hL4:LgB (w3.alloc (.cells #[.pointer (some ⟨p,0,none⟩),.int .i64 (K:Int),.int .i64 (M:Int),.slice none 0 0,.bool false] 105)) (fun j=>j=w3.heap.size) p w3.heap.size ⟨K,M,[],false⟩ none 0 [] :=
      ⟨heap_alloc_new w3 _,rfl,fun j hj=>by subst hj;simp,⟨World.ownsRow_nil _ _ _ _,fun j hj=>(by cases hj),fun _ h=>absurd h (by simp),List.Pairwise.nil⟩,rfl,by have:=HG.out;exact ⟨by show 1≤K;omega,by show K≤16;omega⟩,by have:=HG.out;exact ⟨by show 1≤M;omega,by show M≤32;omega⟩,Nat.zero_le _,fun _ h=>absurd h (by simp)⟩
    have hD4:Dis (fun j=>j=w3.heap.size) S3 R3:=fun j hj=>by
      subst hj
      have h1:=F.low HF3.out
      exact ⟨fun h=>by have:=h1.1 _ h;omega,fun h=>by have:=h1.2 _ h;omega⟩
    refine (find_any F _ S3 R3 p w3.heap.size m ⟨K,M,[],false⟩ none 0 kk (F.below HF3.out (box1 w3 _)) hL4 hD4 HLIM.out (by omega) HNUM.out (re,rm,rs) HE.out).mono ?_
    rintro e w5 ⟨rfl,S5,R5,hF5,hs5,hr5,ho5,hfin⟩
    have hw:=HD3.out.off.size
    have HDID:Hid (Did S R S5 R5 w2 w5):=by
      refine ⟨fun j hj=>?_,fun j hj=>?_,?_⟩
      · rcases hs5 j hj with e | e
        · exact HD3.out.s j e
        · refine .inr ?_;simp at e;omega
      · rcases hr5 j hj with e | e | e
        · exact HD3.out.r j e
        · exact .inr (HD3.out.s j e)
        · refine .inr (.inr ?_);simp at e;omega
      · refine (HD3.out.trans (Did.of_below (box1 w3 _))).off.andThen ho5 fun j hj=>?_
        rcases hj with e | e
        · exact HD3.out.s j e
        · exact .inr (by omega)
    have HF5:=Lib.hid hF5
    have HFIN:Hid (re=0→∃ T',LgAt w5 T' p w3.heap.size ⟨K,M,rs,false⟩∧(∀ j,T' j→w2.heap.size≤j)∧Dis T' S5 R5):=fun h=>by
      obtain ⟨T',h1,h2,h3⟩:=hfin h
      refine ⟨T',by simpa using h1,fun j hj=>?_,h3⟩
      rcases h2 j hj with e | e
      · omega
      · simp at e;omega
    clear hF5 hs5 hr5 ho5 hfin hL4 hD4 hw
    by_cases h0:re=0
    · obtain ⟨T',h1,h2,h3⟩:=HFIN.out h0
      have H1:=Lib.hid h1;have H2:=Lib.hid h2;have H3:=Lib.hid h3
      subst h0
      clear HFIN h1 h2 h3
      go_wp2_with fail
      go_ret2
      refine ⟨S5,R5,_,rfl,HF5.out,HDID.out,?_⟩
      have h1:=H1.out;have h2:=H2.out;have h3:=H3.out
      first
        | exact ⟨w3.heap.size,rfl,T',h1,h2,h3⟩
        | exact fun _=>⟨w3.heap.size,T',rfl,h1,h2,h3⟩
    · have hne:(re != 0)=true:=by simp [h0]
      have H0:=Lib.hid h0
      clear h0
      go_wp2_with fail
      go_ret2
      exact ⟨S5,R5,none,rfl,HF5.out,HDID.out,fun h=>absurd h H0.out⟩
end Go.Proofs.YtccbpngehedbaaaGreat

namespace Go.Proofs.YtccbpngehedbaaaGreat
open Go Go.RowKit Go.Sort

/-! The landed log: last, isFull, goesTo. -/
theorem last_any {w:World} {T:Nat→Prop} {p q:Nat} {g:LgM} {a:Option Addr} {c:Nat} {L:List SgR} (h:LgB w T p q g a c L) {s:SgR} (hs:L.getLast?=some s) :
    Calls Tryz.prog 76 #[.pointer (some ⟨q,0,none⟩)] w fun e w'=>e=.returned (.agg (segV s.n (.slice s.a s.xs.length s.c)))∧Below w.heap.size w w':=by
  obtain ⟨A,hA⟩:=List.getLast?_eq_some_iff.1 hs
  have hlen:L.length=A.length+1:=by rw [hA];simp
  have hi:A.length < L.length:=by omega
  obtain ⟨b,rfl,hbl,hlc,_,h0,h1⟩:=h.rows.elem hi
  have he:L[A.length]=s:=by simp [hA]
  rw [he] at h0 h1
  have box:=h.box
  rw [hlen] at box hlc
  have:=h.few;have:=h.r1
  exact last_is w box hbl hlc (by omega) s.n s.xs.length s.c s.a h0 h1
theorem LgB.last_seg {w:World} {T:Nat→Prop} {p q:Nat} {g:LgM} {a:Option Addr} {c:Nat} {L:List SgR} (h:LgB w T p q g a c L) {s:SgR} (hs:L.getLast?=some s):g.segs.getLast?=some s.m:=by
  rw [h.segs,List.getLast?_map,hs];rfl
theorem LgB.fresh_nil {w:World} {T:Nat→Prop} {p q:Nat} {g:LgM} {a:Option Addr} {c:Nat} {L:List SgR} (h:LgB w T p q g a c L) (hs:L.getLast?=none):g.segs.getLast?=none:=by
  rw [h.segs,List.getLast?_map,hs];rfl
theorem field_num (x y:Value) (w:World):(Instr.field 115 (.agg #[x,y]) 0).run Tryz.prog w=.ok x w:=by kernel_rfl
set_option maxRecDepth 20000 in
set_option maxHeartbeats 2000000 in
theorem isFull_any (w : World) (T : Nat → Prop) (p q : Nat) (g : LgM) (a : Option Addr) (c : Nat) (L : List SgR) (hL : LgB w T p q g a c L) (r : Bool) (hr : g.full = r) :
    Calls Tryz.prog 56 #[.pointer (some ⟨q,0,none⟩)] w fun e w'=>e=.returned (.bool r)∧Below w.heap.size w w':=by
  have HL:=Lib.hid hL;have HRES:=Lib.hid hr;have HR1:=Lib.hid hL.r1
  have c3:=hL.box.c3
  obtain ⟨n,hn⟩:∃ n,n=L.length:=⟨_,rfl⟩
  have HN:=Lib.hid hn
  rw [← hn] at c3
  have hn32:n≤32:=by have:=hL.few;have:=hL.r1;omega
  clear hL hr hn
  cases hs:L.getLast? with
  | none =>
    have hn0:n=0:=by rw [HN.out,List.getLast?_eq_none_iff.1 hs];rfl
    subst hn0
    have HE:Hid (r=false):=by
      show _=_
      rw [← HRES.out];unfold LgM.full
      rw [HL.out.fresh_nil hs]
      have:=HR1.out
      have h0:¬ g.room≤g.segs.length:=by
        have h1:=congrArg List.length HL.out.segs
        rw [List.length_map,← HN.out] at h1;omega
      simp [h0]
    clear hs
    go_enter Tryz.func56,Tryz.ntmps56
    go_wp2_with fail
    go_ret
    exact ⟨ret_bool HE.out.symm,Below.refl _ _⟩
  | some s =>
    have HS:=Lib.hid hs
    have hn0:((n:Int) == 0)=false:=by
      have h1:L ≠ []:=fun e=>by rw [e] at hs;cases hs
      have h2:=List.length_pos_iff.2 h1
      have:=HN.out
      exact beq_eq_false_iff_ne.2 (by omega)
    have HLS:=Lib.hid (HL.out.last_seg hs)
    clear hs
    obtain ⟨se,hse⟩:∃ se,decide (s.xs.length=g.keep)=se:=⟨_,rfl⟩
    have HSE:=Lib.hid hse
    have HFR:Hid (g.fresh=se):=by show _=_;unfold LgM.fresh;rw [HLS.out];show decide ((s.xs.map Bod.b).length=g.keep)=se;rw [List.length_map];exact hse
    clear hse
    have hlast:=last_any HL.out HS.out
    unfold segV at hlast
    have HLAST:=Lib.hid hlast
    clear hlast
    cases se
    · have HE:Hid (r=false):=by show _=_;rw [← HRES.out];unfold LgM.full;rw [HFR.out];rfl
      go_enter Tryz.func56,Tryz.ntmps56
      go_wp2_with fail
      refine HLAST.out.mono ?_;rintro e w1 ⟨rfl,hb1⟩
      have HB1:=Lib.hid hb1
      clear hb1
      go_wp2_with fail
      refine (isSealed_is w1 (HL.out.box.below HB1.out HL.out.box.lt) s.n s.xs.length s.c s.a false HSE.out).mono ?_;rintro e w2 ⟨rfl,hb2⟩
      have HB2:=Lib.hid (bel2 HB1.out hb2)
      clear hb2
      go_wp2_with fail
      go_ret
      exact ⟨ret_bool HE.out.symm,HB2.out⟩
    · go_enter Tryz.func56,Tryz.ntmps56
      go_wp2_with fail
      refine HLAST.out.mono ?_;rintro e w1 ⟨rfl,hb1⟩
      have HB1:=Lib.hid hb1
      clear hb1
      go_wp2_with fail
      refine (isSealed_is w1 (HL.out.box.below HB1.out HL.out.box.lt) s.n s.xs.length s.c s.a true HSE.out).mono ?_;rintro e w2 ⟨rfl,hb2⟩
      have HB2:=Lib.hid (bel2 HB1.out hb2)
      clear hb2
      have hl2:=HL.out.below HB2.out
      have HL2:=Lib.hid hl2
      have hq:=hl2.box.lt
      obtain ⟨room,hroom⟩:∃ room,room=g.room:=⟨_,rfl⟩
      have HROOM:=Lib.hid hroom
      have d3:=hl2.box.c3
      have d2:=hl2.box.c2
      rw [← HN.out] at d3
      rw [← hroom] at d2
      have k2:∀ (d:Nat) (os:Array Obj),(grow (redrawn w2 d) os).cell? ⟨q,2,none⟩=some (.int .i64 (room:Int)):=fun d os=>((below_regrown w2 d os).cell (p:=⟨q,2,none⟩) hq).trans d2
      have k3:∀ (d:Nat) (os:Array Obj),(grow (redrawn w2 d) os).cell? ⟨q,3,none⟩=some (.slice a n c):=fun d os=>((below_regrown w2 d os).cell (p:=⟨q,3,none⟩) hq).trans d3
      have HLAST2:∀ (d:Nat) (os:Array Obj),Calls Tryz.prog 76 #[.pointer (some ⟨q,0,none⟩)] (grow (redrawn w2 d) os) fun e w'=>e=.returned (.agg #[.int .u32 (s.n:Int),.slice s.a s.xs.length s.c])∧Below (grow (redrawn w2 d) os).heap.size (grow (redrawn w2 d) os) w' :=
        fun d os=>last_any (HL2.out.below (below_regrown w2 d os)) HS.out
      have HL2C:=Lib.hid HLAST2
      have HLEN:Hid (g.segs.length=n):=by show _=_;rw [HN.out,HL.out.segs,List.length_map]
      clear hl2 d3 d2 hroom HLAST2 hq
      by_cases hbig:room≤n
      · have HE:Hid (r=true):=by show _=_;rw [← HRES.out];unfold LgM.full;rw [HFR.out,HLEN.out,← HROOM.out,decide_eq_true hbig];rfl
        have e1:decide ((n:Int) ≥ (room:Int))=true:=by simp;omega
        have e2:decide ((room:Int)≤(n:Int))=true:=by simp;omega
        go_wp2_with fail
        refine wp_region_quiet_below (by kernel_rfl) (by kernel_rfl) ?_
        iterate 17 go_big_quiet_step (fail)
        refine wpQuiet_nil ?_
        intro W3 hw'
        obtain ⟨⟨d,os⟩,hw''⟩:=hw'
        have hb3:=below_regrown w2 d os
        rw [← hw''] at hb3
        have HB3:=Lib.hid (bel2 HB2.out hb3)
        clear hw'' hb3 k2 k3
        go_wp2_with fail
        go_ret
        exact ⟨ret_bool HE.out.symm,HB3.out⟩
      · have e1:decide ((n:Int) ≥ (room:Int))=false:=by simp;omega
        have e2:decide ((room:Int)≤(n:Int))=false:=by simp;omega
        have HE:Hid (((s.n:Int) == (4294967295:Int))=r):=by
          show _=_
          rw [← HRES.out];unfold LgM.full;rw [HFR.out,HLEN.out,← HROOM.out,decide_eq_false hbig,HLS.out]
          show _=(true && (false || decide (s.n=4294967295)))
          rw [Bool.true_and,Bool.false_or];exact beqI s.n 4294967295
        have hfld:=field_num (.int .u32 (s.n:Int)) (.slice s.a s.xs.length s.c)
        go_wp2_with fail
        refine wp_region_quiet_below (by kernel_rfl) (by kernel_rfl) ?_
        iterate 17 go_big_quiet_step ((go_at_call 76;exact Calls.regrown_of (HL2C.out _ _)))
        refine wpQuiet_nil ?_
        intro W3 hw'
        obtain ⟨⟨d,os⟩,hw''⟩:=hw'
        have hb3:=below_regrown w2 d os
        rw [← hw''] at hb3
        have HB3:=Lib.hid (bel2 HB2.out hb3)
        clear hw'' hb3 k2 k3
        go_wp2_with fail
        go_ret
        exact ⟨ret_bool HE.out,HB3.out⟩
end Go.Proofs.YtccbpngehedbaaaGreat

namespace Go.Proofs.YtccbpngehedbaaaGreat
open Go Go.RowKit Go.Sort

/-! The landed log: goesTo. -/
/-- The segment that the next batch goes to. -/
def GoesTo (g:LgM) (L:List SgR) (b:Bool) (s:SgR):Prop:=g.fresh=b∧(b=true→s=⟨g.next,none,0,[]⟩)∧(b=false→L.getLast?=some s)
set_option maxRecDepth 20000 in
set_option maxHeartbeats 2000000 in
theorem goesTo_any (w : World) (T : Nat → Prop) (p q : Nat) (g : LgM) (a : Option Addr) (c : Nat) (L : List SgR) (hL : LgB w T p q g a c L) (b : Bool) (s : SgR) (hs : GoesTo g L b s) (hnx : s.n < 4294967296) :
    Calls Tryz.prog 57 #[.pointer (some ⟨q,0,none⟩)] w fun e w'=>e=.returned (.tuple #[.agg (segV s.n (.slice s.a s.xs.length s.c)),.bool b])∧Below w.heap.size w w':=by
  obtain ⟨v,hv⟩:∃ v,v=w.alloc (.cells #[.int .u32 0,.slice none 0 0] 115):=⟨_,rfl⟩
  have HBV:Hid (Below w.heap.size w v):=by show Below _ _ _;rw [hv];exact box1 _ _
  have HVS:Hid (v.heap.size=w.heap.size+1):=by show _=_;rw [hv];simp
  have HTV:Hid (v.there w.heap.size 0 2):=by show v.there _ _ _;rw [hv];exact there_last _ _ _ _ _ rfl rfl
  have HRGV:Hid (v.rangeAt w.heap.size 0 (segV 0 (.slice none 0 0)).toList):=by show World.rangeAt _ _ _ _;rw [hv];exact rangeAt_last w _ _ _ rfl
  have HLV:=Lib.hid (hL.below HBV.out)
  have HS:=Lib.hid hs
  have c3:=HLV.out.box.c3
  obtain ⟨n,hn⟩:∃ n,n=L.length:=⟨_,rfl⟩
  have HN:=Lib.hid hn
  rw [← hn] at c3
  have c3w:=c3
  rw [hv] at c3w
  have hn32:n≤32:=by have:=hL.few;have:=hL.r1;omega
  have HL:=Lib.hid hL
  clear hL hn hs
  cases hl:L.getLast? with
  | none =>
    have hn0:n=0:=by rw [HN.out,List.getLast?_eq_none_iff.1 hl];rfl
    subst hn0
    obtain ⟨rfl,rfl⟩:b=true∧s=⟨0,none,0,[]⟩:=by
      obtain ⟨h1,h2,_⟩:=HS.out
      have hnil:=HL.out.fresh_nil hl
      have hb:b=true:=by rw [← h1];unfold LgM.fresh;rw [hnil]
      refine ⟨hb,?_⟩
      rw [h2 hb]
      unfold LgM.next;rw [hnil]
    clear hl HS
    go_enter Tryz.func57,Tryz.ntmps57
    go_wp2_with fail
    rw [← hv]
    clear hv c3w
    refine bodyPost_ret (v:=.tuple #[.agg (segV 0 (.slice none 0 0)),.bool true]) (results_cell_two (p:=2) (u:=3) (ty:=115) (b:=w.heap.size) (x:=.bool true) rfl rfl rfl (run_loadVar_mid (P:=Tryz.prog) _ w.heap.size 0 115 _ _ HRGV.out Tryz.underlying115 rfl size_seg)) rfl ?_
    exact ⟨rfl,HBV.out⟩
  | some t =>
    have hn0:((n:Int) == 0)=false:=by
      have h1:L ≠ []:=fun e=>by rw [e] at hl;cases hl
      have h2:=List.length_pos_iff.2 h1
      have:=HN.out
      exact beq_eq_false_iff_ne.2 (by omega)
    have HT:=Lib.hid hl
    have HLS:=Lib.hid (HL.out.last_seg hl)
    clear hl
    obtain ⟨se,hse⟩:∃ se,decide (t.xs.length=g.keep)=se:=⟨_,rfl⟩
    have HSE:=Lib.hid hse
    have HFR:Hid (g.fresh=se):=by show _=_;unfold LgM.fresh;rw [HLS.out];show decide ((t.xs.map Bod.b).length=g.keep)=se;rw [List.length_map];exact hse
    obtain rfl:b=se:=by rw [← HS.out.1,HFR.out]
    clear hse
    have hlast:=last_any HLV.out HT.out
    unfold segV at hlast
    have HLAST:=Lib.hid hlast
    have hfld:=field_num (.int .u32 (t.n:Int)) (.slice t.a t.xs.length t.c)
    clear hlast
    cases b
    · obtain rfl:t=s:=by
        have:=HS.out.2.2 rfl
        rw [HT.out] at this;injection this
      go_enter Tryz.func57,Tryz.ntmps57
      go_wp2_with fail
      rw [← hv]
      clear hv c3w
      refine HLAST.out.mono ?_;rintro e w1 ⟨rfl,hb1⟩
      have HB1:=Lib.hid (HBV.out.trans (hb1.mono HBV.out.size))
      have HT1:=Lib.hid (there_below HTV.out hb1 (by rw [HVS.out];omega))
      have HS1:Hid (w.heap.size < w1.heap.size):=by have:=hb1.size;have:=HVS.out;show _ < _;omega
      clear hb1
      go_wp2_with fail
      refine (isSealed_is w1 (HL.out.box.below HB1.out HL.out.box.lt) t.n t.xs.length t.c t.a false HSE.out).mono ?_;rintro e w2 ⟨rfl,hb2⟩
      have HB2:=Lib.hid (bel2 HB1.out hb2)
      have HT2:=Lib.hid (there_below HT1.out hb2 HS1.out)
      have HS2:Hid (w.heap.size < w2.heap.size):=Nat.lt_of_lt_of_le HS1.out hb2.size
      clear hb2
      go_wp2_with fail
      refine (last_any (HL.out.below HB2.out) HT.out).mono ?_;rintro e w3 ⟨rfl,hb3⟩
      have HB3:=Lib.hid (bel2 HB2.out hb3)
      have HT3:=Lib.hid (there_below HT2.out hb3 HS2.out)
      clear hb3
      unfold segV
      go_wp2_with (refine wpList_store_mid rfl 115 (.tmp 2) (.tmp 23) rfl w.heap.size 0 (segV t.n (.slice t.a t.xs.length t.c)) rfl rfl HT3.out size_seg (segV_one _ _ _ _) ?_)
      refine bodyPost_ret (v:=.tuple #[.agg (segV t.n (.slice t.a t.xs.length t.c)),.bool false]) (results_cell_two (p:=2) (u:=3) (ty:=115) (b:=w.heap.size) (x:=.bool false) rfl rfl rfl (load_seg _ _ _ _ HT3.out)) rfl ?_
      exact ⟨rfl,Below_setCells (Nat.le_refl _) _ _ _ HB3.out⟩
    · obtain rfl:s=⟨t.n+1,none,0,[]⟩:=by
        rw [HS.out.2.1 rfl]
        have:g.next=t.n+1:=by unfold LgM.next;rw [HLS.out];rfl
        rw [this]
      have hm:((t.n:Int)+1) % 4294967296=((t.n+1:Nat):Int):=by
        have:t.n+1 < 4294967296:=hnx
        omega
      go_enter Tryz.func57,Tryz.ntmps57
      go_wp2_with fail
      rw [← hv]
      clear hv c3w
      refine HLAST.out.mono ?_;rintro e w1 ⟨rfl,hb1⟩
      have HB1:=Lib.hid (HBV.out.trans (hb1.mono HBV.out.size))
      have HT1:=Lib.hid (there_below HTV.out hb1 (by rw [HVS.out];omega))
      have HS1:Hid (w.heap.size < w1.heap.size):=by have:=hb1.size;have:=HVS.out;show _ < _;omega
      clear hb1
      go_wp2_with fail
      refine (isSealed_is w1 (HL.out.box.below HB1.out HL.out.box.lt) t.n t.xs.length t.c t.a true HSE.out).mono ?_;rintro e w2 ⟨rfl,hb2⟩
      have HB2:=Lib.hid (bel2 HB1.out hb2)
      have HT2:=Lib.hid (there_below HT1.out hb2 HS1.out)
      have HS2:Hid (w.heap.size < w2.heap.size):=Nat.lt_of_lt_of_le HS1.out hb2.size
      clear hb2
      go_wp2_with fail
      refine (last_any (HL.out.below HB2.out) HT.out).mono ?_;rintro e w3 ⟨rfl,hb3⟩
      have HB3:=Lib.hid (bel2 HB2.out hb3)
      have HT3:=Lib.hid (there_below HT2.out hb3 HS2.out)
      clear hb3
      unfold segV
      go_wp2_with (refine wpList_store_mid rfl 115 (.tmp 2) (.tmp 21) rfl w.heap.size 0 (segV (t.n+1) (.slice none 0 0)) rfl rfl HT3.out size_seg (segV_one _ _ _ _) ?_)
      refine bodyPost_ret (v:=.tuple #[.agg (segV (t.n+1) (.slice none 0 0)),.bool true]) (results_cell_two (p:=2) (u:=3) (ty:=115) (b:=w.heap.size) (x:=.bool true) rfl rfl rfl (load_seg _ _ _ _ HT3.out)) rfl ?_
      exact ⟨rfl,Below_setCells (Nat.le_refl _) _ _ _ HB3.out⟩
end Go.Proofs.YtccbpngehedbaaaGreat

namespace Go.Proofs.YtccbpngehedbaaaGreat
open Go Go.RowKit Go.Sort

/-! The landed log: appending. -/
theorem info_act:(Tryz.prog.info? 146).map (fun i=>(i.zero,i.size,i.bytes))=some (some Value.nilFunc,1,8):=by kernel_rfl
/-- The blocks that acts' functions read: the log's, and new ones that are no row of acts. -/
def UA (w0:World) (q:Nat) (w:World) (k:Nat):Prop:=k=q∨(w0.heap.size≤k∧∃ (cur:Array Value) (t:TypeId),w.heap[k]?=some (Obj.cells cur t)∧t ≠ 146)
structure ActsAt (F:FsKit) (p q n:Nat) (w0 w:World) (v:Value) (fvs:List Value) (As:List (FSm→FSm × Int)):Prop where
  own:w.ownsRow w0.heap.size 146 1 v fvs.length fvs
  len:fvs.length=As.length
  ok:∀ (i:Nat) f A,fvs[i]?=some f→As[i]?=some A→ActOk F p n w (UA w0 q w) f A
section
variable {F:FsKit} {p q n:Nat} {w0 w w1 w2:World} {v v2:Value} {fvs news:List Value} {As Bs:List (FSm→FSm × Int)}
theorem UA.below {k:Nat} (hq:q < w.heap.size) (hb:Below w.heap.size w w1) (h:UA w0 q w k):UA w0 q w1 k∧w1.heap[k]?=w.heap[k]?:=by
  rcases h with h | ⟨h1,cur,t,h2,h3⟩
  · subst h;exact ⟨.inl rfl,hb.block k hq⟩
  · have hk:=(Array.getElem?_eq_some_iff.1 h2).1
    have e:=hb.block k hk
    exact ⟨.inr ⟨h1,cur,t,e.trans h2,h3⟩,e⟩
theorem ActsAt.nil (F:FsKit) (p q n:Nat) (w0 w:World):ActsAt F p q n w0 w (.slice none 0 0) [] []:=⟨World.ownsRow_nil _ _ _ _,rfl,fun i f A h=>by simp at h⟩
theorem ActsAt.below (h:ActsAt F p q n w0 w v fvs As) (hq:q < w.heap.size) (hb:Below w.heap.size w w1):ActsAt F p q n w0 w1 v fvs As :=
  ⟨own_below h.own hb,h.len,fun i f A h1 h2=>(h.ok i f A h1 h2).more hb.size fun _ hk=>hk.below hq hb⟩
theorem UA.grown {k:Nat} (hq:q < w0.heap.size) (hw:w0.heap.size≤w.heap.size) (ho:w.ownsRow w0.heap.size 146 1 v fvs.length fvs) (hg:w.grownBy w2 v.ownBlock) (h:UA w0 q w k):UA w0 q w2 k∧w2.heap[k]?=w.heap[k]?:=by
  rcases h with h | ⟨h1,cur,t,h2,h3⟩
  · subst h
    exact ⟨.inl rfl,hg.block k (by omega) fun e=>by have:=(own_shape ho e.symm).1;omega⟩
  · have hk:=(Array.getElem?_eq_some_iff.1 h2).1
    have e:=hg.block k hk fun e=>by
      obtain ⟨c1,e1⟩:=own_tag ho e.symm
      rw [e1] at h2;injection h2 with h2;injection h2 with _ h2;exact h3 h2.symm
    exact ⟨.inr ⟨h1,cur,t,e.trans h2,h3⟩,e⟩
theorem ActsAt.push (h:ActsAt F p q n w0 w v fvs As) (hq:q < w0.heap.size) (hw:w0.heap.size≤w.heap.size) (hn:news.length=Bs.length) (hok:∀ (i:Nat) f A,news[i]?=some f→Bs[i]?=some A→ActOk F p n w (UA w0 q w) f A) (hg:w.grownBy w2 v.ownBlock)
    (ho:w2.ownsRow w0.heap.size 146 1 v2 (fvs.length+news.length) (fvs ++ news)):ActsAt F p q n w0 w2 v2 (fvs ++ news) (As ++ Bs):=by
  refine ⟨by rw [List.length_append];exact ho,by rw [List.length_append,List.length_append,h.len,hn],fun i f A h1 h2=>?_⟩
  by_cases hi:i < fvs.length
  · rw [List.getElem?_append_left hi] at h1
    rw [List.getElem?_append_left (by rw [← h.len];exact hi)] at h2
    exact (h.ok i f A h1 h2).more hg.size fun _ hk=>hk.grown hq hw h.own hg
  · rw [List.getElem?_append_right (by omega)] at h1
    rw [List.getElem?_append_right (by rw [← h.len];omega),← h.len] at h2
    exact (hok _ f A h1 h2).more hg.size fun _ hk=>hk.grown hq hw h.own hg
end
/-- A function that lays bytes, as lay answers it. -/
theorem UA.lay {F:FsKit} {p q K0 R0 n:Nat} {ov:Bool} {v:Value} {w0 w1 w2:World} {a:Option Addr} {c:Nat} {b:List UInt8} (hn:n < 4294967296) (hbox:LB w2 q p K0 R0 v ov) (hw:w0.heap.size≤w1.heap.size) (hb:Below w1.heap.size w1 w2)
    (h1:w2.heap[w1.heap.size]?=some (.cells #[.pointer (some ⟨q,0,none⟩)] 35)) (h2:w2.heap[w1.heap.size+1]?=some (.cells #[.slice a b.length c] 38)) (ho:w1.ownsRow w0.heap.size 5 1 (.slice a b.length c) b.length (bV b)) (hbl:b.length≤4000) :
    ActOk F p n w2 (UA w0 q w2) (clV 111 w1.heap.size) (fun m=>appendF m n (bs b)):=by
  obtain ⟨a',c',e,hlc,hcm,hg⟩:=own_slice ho
  obtain ⟨rfl,rfl⟩:a=a'∧c=c':=by injection e;exact ⟨by assumption,by assumption⟩
  have ho2:=own_below ho hb
  refine ok_lay F p q K0 R0 w1.heap.size n v ov hn w2 (UA w0 q w2) a c b hbox h1 h2 (.inr ⟨hw,_,_,h1,by decide⟩) (.inr ⟨by omega,_,_,h2,by decide⟩) (.inl rfl) (fun h0=>?_) hbl hlc hcm
  obtain ⟨blk,off,ha,hbl2,hc⟩:=Rd.own ho2 h0
  obtain ⟨g,hga,hg1,hg2⟩:=hg (by rwa [bV_length] at h0)
  have e2:blk=g∧off=0:=by rw [hga] at ha;injection ha with ha;injection ha with h1 h2;exact ⟨h1.symm,h2.symm⟩
  obtain ⟨rfl,rfl⟩:=e2
  obtain ⟨cur,hcur⟩:=own_tag ho2 (k:=blk) (by rw [hga];rfl)
  exact ⟨blk,0,ha,hbl2,.inr ⟨hg1,cur,_,hcur,by decide⟩,hc⟩
end Go.Proofs.YtccbpngehedbaaaGreat

namespace Go.Proofs.YtccbpngehedbaaaGreat
open Go Go.RowKit Go.Sort

/-! The landed log: appending, walked. -/
def actsF (g:LgM) (n:Nat) (l:List UInt8) (b se:Bool):List (FSm→FSm × Int) :=
  (if b=true then [fun m=>createF m n,fun m=>appendF m n (bs (headL n g.keep))] else []) ++ ([fun m=>appendF m n (bs (frL l))] ++ (if se=true then [fun m=>syncF m n] else []))
set_option maxRecDepth 20000 in
set_option maxHeartbeats 4000000 in
theorem appending_any (F : FsKit) (w : World) (T : Nat → Prop) (p q : Nat) (g : LgM) (a : Option Addr) (c : Nat) (L : List SgR) (hL : LgB w T p q g a c L) (s : SgR) (hs : s.n < 4294967296) (b : Bool) (ba : Option Addr) (nb bc : Nat) (l : List UInt8) (hnb : nb = l.length) (hr : Rd w w.heap.size ba (bV l)) (hm : mayF l.length = true) (se : Bool) (hse : decide (s.xs.length + 1 = g.keep) = se) (hsm : s.xs.length ≤ 16) :
    Calls Tryz.prog 59 #[.pointer (some ⟨q,0,none⟩),.agg #[.int .u32 (s.n:Int),.slice s.a s.xs.length s.c],.bool b,.slice ba nb bc] w fun e w'=>∃ fa fc nf fvs,e=.returned (.slice fa nf fc)∧nf=fvs.length∧Below w.heap.size w w'∧ActsAt F p q s.n w w' (.slice fa nf fc) fvs (actsF g s.n l b se):=by
  have HL:=Lib.hid hL;have HR:=Lib.hid hr;have HM:=Lib.hid hm;have HNB:=Lib.hid hnb;have HSE:=Lib.hid hse
  obtain ⟨i0,hi0,hz0,hz1,hz2⟩:=info_parts info_act
  have HZ2:=Lib.hid hz2;clear hz2
  have hq:=hL.box.lt
  have hk16:=hL.k1
  have hml:=mayF_iff.1 hm
  clear hr hm hnb hse
  obtain ⟨w1,hw1⟩:∃ w1,w1=w.alloc (.cells #[.int .u32 (s.n:Int),.slice s.a s.xs.length s.c] 115):=⟨_,rfl⟩
  have HB1:Hid (Below w.heap.size w w1):=by show Below _ _ _;rw [hw1];exact box1 _ _
  have HL1:=Lib.hid (hL.below HB1.out)
  have HBX1:Hid (w1.heap[w.heap.size]?=some (.cells #[.int .u32 (s.n:Int),.slice s.a s.xs.length s.c] 115)):=by show _=_;rw [hw1];exact heap_alloc_new _ _
  have HQ:=Lib.hid hq
  obtain ⟨K,hK⟩:∃ K,K=g.keep:=⟨_,rfl⟩
  have HK:=Lib.hid hK
  rw [← hK] at hk16
  have HSEE:Hid ((((s.xs.length:Nat):Int)+1 == (K:Int))=se):=by
    show _=_
    rw [← HSE.out,← hK,show ((s.xs.length:Nat):Int)+1=((s.xs.length+1:Nat):Int) by omega];exact beqI _ _
  clear hL hq hK
  have HBO:Hid (∀ w',Below w.heap.size w w'→LB w' q p g.keep g.room (.slice a L.length c) g.over):=fun w' h=>HL.out.box.below h HL.out.box.lt
  cases b
  · go_enter Tryz.func59, Tryz.ntmps59
    go_wp2_with fail
    rw [← hw1]
    clear hw1
    have HACT1:Hid (ActsAt F p q s.n w w1 (.slice none 0 0) [] []):=ActsAt.nil _ _ _ _ _ _
    go_wp2_with fail
    refine (putR_own ba nb bc l w1 HNB.out HM.out ((HR.out.below HB1.out).more HB1.out.size)).mono ?_
    rintro e w8 ⟨fv,rfl,hfo,hb8⟩
    obtain ⟨fa,fc,rfl,_,_,_⟩:=own_slice hfo
    have HFO:=Lib.hid (own_base (base':=w.heap.size) hfo HB1.out.size)
    have HB8:=Lib.hid (bel2 HB1.out hb8)
    have HACT8:=Lib.hid (HACT1.out.below (Nat.lt_of_lt_of_le HQ.out HB1.out.size) hb8)
    have HBX8:Hid (w8.heap[w.heap.size]?=some (.cells #[.int .u32 (s.n:Int),.slice s.a s.xs.length s.c] 115)):=(hb8.block _ (Array.getElem?_eq_some_iff.1 HBX1.out).1).trans HBX1.out
    obtain ⟨fl,hfl⟩:∃ fl,fl=(frL l).length:=⟨_,rfl⟩
    have HFL:=Lib.hid hfl
    rw [← hfl] at HFO ⊢
    clear hfo hb8 hfl
    go_wp2_with fail
    refine (lay_is q fl fc fa w8).mono ?_
    rintro e w9 ⟨rfl,hb9,hs9,hx1,hx2⟩
    have HB9:=Lib.hid (bel2 HB8.out hb9)
    have HACT9:=Lib.hid (HACT8.out.below (Nat.lt_of_lt_of_le HQ.out HB8.out.size) hb9)
    have HBX9:Hid (w9.heap[w.heap.size]?=some (.cells #[.int .u32 (s.n:Int),.slice s.a s.xs.length s.c] 115)):=(hb9.block _ (Array.getElem?_eq_some_iff.1 HBX8.out).1).trans HBX8.out
    have HOLAY9:Hid (ActOk F p s.n w9 (UA w q w9) (clV 111 w8.heap.size) (fun m=>appendF m s.n (bs (frL l)))) :=
      UA.lay (w1:=w8) hs (HBO.out _ HB9.out) HB8.out.size hb9 hx1 (by rw [← HFL.out];exact hx2) (by rw [← HFL.out];exact HFO.out) (by rw [frL_length];omega)
    have HOA9:Hid ((w9.alloc (.cells #[clV 111 w8.heap.size] 146)).ownsRow w.heap.size 146 1 (.slice none 0 0) 0 ([])):=own_below HACT9.out.own (box1 w9 _)
    have HS9:Hid (w.heap.size≤w9.heap.size):=HB9.out.size
    clear hb9 hs9 hx1 hx2
    go_wp2_with (at_builtin; (refine wpList_append_rd _ rfl (.tmp 41) (.tmp 45) 121 rfl w.heap.size 146 i0 _ 1 8 Tryz.underlying121 hi0 hz0 hz1 HZ2.out rfl (by omega) _ 0 ([]) rfl HOA9.out _ _ 1 _ [clV 111 w8.heap.size] rfl rfl (lit_rd w9 #[clV 111 w8.heap.size] _) (by simp [Value.oneCell', clV]) (by unfold maxLen; omega) (by omega) (by have := HS9.out; simp; omega) ?_)
                 intro v10 w10 hown10 hg10 _
                 obtain ⟨va2,vc2,rfl,_,_,_⟩:=own_slice hown10
                 have HACT10:Hid (ActsAt F p q s.n w w10 (.slice va2 (0+1) vc2) ([] ++ [clV 111 w8.heap.size]) ([] ++ [fun m=>appendF m s.n (bs (frL l))])) :=
                   (HACT9.out.below (Nat.lt_of_lt_of_le HQ.out HB9.out.size) (box1 w9 _)).push HQ.out (by have:=HS9.out;simp;omega) rfl (fun i f A h1 h2=>by
                     match i,h1,h2 with
                     | 0,h1,h2 =>
                       injection h1 with h1;injection h2 with h2;subst h1 h2
                       exact HOLAY9.out.more (box1 w9 _).size fun _ hk=>hk.below (Nat.lt_of_lt_of_le HQ.out HB9.out.size) (box1 w9 _)
                     | i+1,h1,h2=>simp at h1) hg10 hown10
                 have HB10:=Lib.hid (Below.of_grown (HB9.out.alloc HB9.out.size (.cells #[clV 111 w8.heap.size] 146)) hg10 (by have:=HS9.out;simp;omega) (by intro g hg;exact (own_shape HOA9.out hg).1))
                 have HBX10:Hid (w10.heap[w.heap.size]?=some (.cells #[.int .u32 (s.n:Int),.slice s.a s.xs.length s.c] 115)):=by
                   have h9:=((box1 w9 (.cells #[clV 111 w8.heap.size] 146)).block _ (Array.getElem?_eq_some_iff.1 HBX9.out).1).trans HBX9.out
                   exact (hg10.block _ (Array.getElem?_eq_some_iff.1 h9).1 fun e=>by
                     obtain ⟨c1,e1⟩:=own_tag HOA9.out e.symm
                     rw [e1] at h9;simp at h9).trans h9
                 have c1:w10.cell? ⟨q,1,none⟩=some (.int .i64 (K:Int)):=by rw [HK.out];exact (HBO.out _ HB10.out).c1
                 have c2:w10.cell? ⟨w.heap.size,1,none⟩=some (.slice s.a s.xs.length s.c):=by have h:=HBX10.out;simp [World.cell?,h]
                 clear hown10 hg10)
    go_quiet (fail)
    obtain ⟨w11,hw11⟩:∃ w11,w11=w10.drewN nq:=⟨_,rfl⟩
    have hb11:Below w10.heap.size w10 w11:=by rw [hw11];exact Below_drewN (Below.refl _ _) _
    have HB11:=Lib.hid (bel2 HB10.out hb11)
    have HACT11:Hid (ActsAt F p q s.n w w11 (.slice va2 1 vc2) ([] ++ [clV 111 w8.heap.size]) ([] ++ [fun m=>appendF m s.n (bs (frL l))])):=HACT10.out.below (Nat.lt_of_lt_of_le HQ.out HB10.out.size) hb11
    have c0:w11.cell? ⟨q,0,none⟩=some (.pointer (some ⟨p,0,none⟩)):=(HBO.out _ HB11.out).c0
    have HS11:Hid (w.heap.size≤w11.heap.size):=HB11.out.size
    rw [← hw11]
    clear hw11 c1 c2 hb11
    have hse:=HSEE.out
    cases se
    · go_wp2_with fail
      go_ret
      refine ⟨va2,vc2,1,[] ++ [clV 111 w8.heap.size],rfl,rfl,HB11.out,?_⟩
      have e:actsF g s.n l false false=[] ++ [fun m=>appendF m s.n (bs (frL l))]:=by unfold actsF;rw [← HK.out];rfl
      rw [e]
      exact HACT11.out
    · have HOA11 : Hid ((w11.alloc (.cells #[meV 65 p] 146)).ownsRow w.heap.size 146 1 (.slice va2 1 vc2) 1 ([] ++ [clV 111 w8.heap.size])) := own_below HACT11.out.own (box1 w11 _)
      go_wp2_with (at_builtin; (refine wpList_append_rd _ rfl (.tmp 56) (.tmp 62) 121 rfl w.heap.size 146 i0 _ 1 8 Tryz.underlying121 hi0 hz0 hz1 HZ2.out rfl (by omega) _ 1 ([] ++ [clV 111 w8.heap.size]) rfl HOA11.out _ _ 1 _ [meV 65 p] rfl rfl (lit_rd w11 #[meV 65 p] _) (by simp [Value.oneCell', meV]) (by unfold maxLen; omega) (by omega) (by have := HS11.out; simp; omega) ?_)
                   intro v12 w12 hown12 hg12 _
                   obtain ⟨va3,vc3,rfl,_,_,_⟩:=own_slice hown12
                   have HACT12:Hid (ActsAt F p q s.n w w12 (.slice va3 (1+1) vc3) (([] ++ [clV 111 w8.heap.size]) ++ [meV 65 p]) (([] ++ [fun m=>appendF m s.n (bs (frL l))]) ++ [fun m=>syncF m s.n])) :=
                     (HACT11.out.below (Nat.lt_of_lt_of_le HQ.out HB11.out.size) (box1 w11 _)).push HQ.out (by have:=HS11.out;simp;omega) rfl (fun i f A h1 h2=>by
                       match i,h1,h2 with
                       | 0,h1,h2 =>
                         injection h1 with h1;injection h2 with h2;subst h1 h2
                         exact ok_sync F p s.n hs _ _
                       | i+1,h1,h2=>simp at h1) hg12 hown12
                   have HB12:=Lib.hid (Below.of_grown (HB11.out.alloc HB11.out.size (.cells #[meV 65 p] 146)) hg12 (by have:=HS11.out;simp;omega) (by intro g hg;exact (own_shape HOA11.out hg).1))
                   clear hown12 hg12)
      go_ret
      refine ⟨va3,vc3,1+1,([] ++ [clV 111 w8.heap.size]) ++ [meV 65 p],rfl,rfl,HB12.out,?_⟩
      have e:actsF g s.n l false true=([] ++ [fun m=>appendF m s.n (bs (frL l))]) ++ [fun m=>syncF m s.n]:=by unfold actsF;rw [← HK.out];rfl
      rw [e]
      exact HACT12.out
  · have x0 := box_cell w #[.int .u32 (s.n : Int), .slice s.a s.xs.length s.c] 115 (i := 0) rfl
    rw [← hw1] at x0
    have x1:w1.cell? ⟨q,1,none⟩=some (.int .i64 (K:Int)):=by rw [HK.out];exact HL1.out.box.c1
    have kh:∀ w',Below w1.drew.heap.size w1.drew w'→w'.cell? ⟨w.heap.size,0,none⟩=some (.int .u32 (s.n:Int))∧w'.cell? ⟨q,1,none⟩=some (.int .i64 (K:Int)):=fun w' h =>
      ⟨(h.cell (p:=⟨w.heap.size,0,none⟩) (by show w.heap.size < w1.heap.size;rw [hw1];simp)).trans x0,(h.cell (p:=⟨q,1,none⟩) HL1.out.box.lt).trans x1⟩
    clear x0 x1
    go_enter Tryz.func59,Tryz.ntmps59
    go_wp2_with fail
    rw [← hw1]
    clear hw1
    go_region_held_law (fun w'=>w'.cell? ⟨w.heap.size,0,none⟩=some (.int .u32 (s.n:Int))∧w'.cell? ⟨q,1,none⟩=some (.int .i64 (K:Int))) (first | exact kh _ HBH.out | exact kh _ (Below.refl _ _))
      (first
        | (go_at_call 81
           refine (head_own s.n K w1.drew hs hk16.1 hk16.2).mono ?_
           rintro e wy ⟨hv,rfl,hho,hby⟩
           obtain ⟨ha,hc,rfl,_,_,_⟩:=own_slice hho
           have HBH:=Lib.hid hby
           have HHO:=Lib.hid (own_base (base':=w.heap.size) hho HB1.out.size)
           have HBY:=Lib.hid (bel2 (Below_drew HB1.out) hby)
           clear hho hby))
    all_goals
      have kq:∀ w',Below wy.drew.heap.size wy.drew w'→w'.cell? ⟨q,0,none⟩=some (.pointer (some ⟨p,0,none⟩)):=fun w' h=>(h.cell (p:=⟨q,0,none⟩) (by have:=HBY.out.size;have:=HQ.out;show q < wy.heap.size;omega)).trans ((Below_drew HBY.out).cell (p:=⟨q,0,none⟩) HQ.out |>.trans HL.out.box.c0)
      go_wp2_with fail
      go_region_held_law (fun w'=>w'.cell? ⟨q,0,none⟩=some (.pointer (some ⟨p,0,none⟩))) (first | exact HC9.out | exact HC7.out | exact kq _ (Below.refl _ _) | exact kq _ HB6.out | exact kq _ (HB6.out.alloc HB6.out.size _))
        (first
          | (go_at_call 82
             refine (lay_is q 14 hc ha wy.drew).mono ?_
             rintro e w6 ⟨rfl,hb6,hs6,hx1,hx2⟩
             have HB6:=Lib.hid hb6
             have HB06:=Lib.hid (bel2 (Below_drew HBY.out) hb6)
             have HX1:=Lib.hid hx1;have HX2:=Lib.hid hx2
             have HS6:=Lib.hid hs6
             have HOLAY:Hid (ActOk F p s.n w6 (UA w q w6) (clV 111 wy.drew.heap.size) (fun m=>appendF m s.n (bs (headL s.n K)))) :=
               UA.lay (w1:=wy.drew) hs (HBO.out _ HB06.out) HBY.out.size hb6 hx1 (by rw [headL_length];exact hx2) (by rw [headL_length];exact own_below HHO.out (Below_drew (Below.refl _ _))) (by rw [headL_length];omega)
             clear hb6 hx1 hx2 hs6)
          | (refine step_append_lies _ (by rfl) (.tmp 25) (.tmp 34) 121 (by rfl) w.heap.size 146 i0 _ 1 8 Tryz.underlying121 hi0 hz0 hz1 HZ2.out rfl (by omega) (.slice none 0 0) 0 [] (by rfl) (World.ownsRow_nil _ _ _ _) ⟨w6.heap.size, 0, none⟩ 2 2 [meV 9 p, clV 111 wy.drew.heap.size] (by rfl) rfl (lit_cells w6 #[meV 9 p, clV 111 wy.drew.heap.size] _) (by simp [Value.oneCell', meV, clV]) (by omega) (by unfold maxLen; omega) (by omega) (by have := HB06.out.size; simp; omega) (w6.heap.size + 1) (by simp) ?_
             intro va vc w7 hown7 hg7 hnew7 hlt7
             have HB67:Hid (Below w6.heap.size w6 w7):=Below.of_grown (box1 w6 (.cells #[meV 9 p,clV 111 wy.drew.heap.size] 146)) hg7 (by simp) (fun g e=>(by cases e))
             have HC7:=Lib.hid (kq _ (HB6.out.trans (HB67.out.mono HB6.out.size)))
             have HOWN7:=Lib.hid hown7
             have HG7:=Lib.hid hg7
             clear hown7 hg7 hnew7 hlt7))
      all_goals
        have HB7:=Lib.hid (bel2 HB06.out HB67.out)
        have HACT7:Hid (ActsAt F p q s.n w w7 (.slice (some ⟨va,0,none⟩) 2 vc) [meV 9 p,clV 111 wy.drew.heap.size] [fun m=>createF m s.n,fun m=>appendF m s.n (bs (headL s.n K))]) :=
          (ActsAt.nil F p q s.n w (w6.alloc (.cells #[meV 9 p,clV 111 wy.drew.heap.size] 146))).push HQ.out (by have:=HB06.out.size;simp;omega) rfl (fun i f A h1 h2=>by
            match i,h1,h2 with
            | 0,h1,h2 =>
              injection h1 with h1;injection h2 with h2;subst h1 h2
              exact ok_create F p s.n hs _ _
            | 1,h1,h2 =>
              injection h1 with h1;injection h2 with h2;subst h1 h2
              exact HOLAY.out.more (box1 w6 _).size fun _ hk=>hk.below (Nat.lt_of_lt_of_le HQ.out HB06.out.size) (box1 w6 _)
            | i+2,h1,h2=>simp at h1) HG7.out HOWN7.out
        have HBX7:Hid (w7.heap[w.heap.size]?=some (.cells #[.int .u32 (s.n:Int),.slice s.a s.xs.length s.c] 115)):=by
          have h1:=(HBH.out.block _ (Array.getElem?_eq_some_iff.1 HBX1.out).1).trans HBX1.out
          have h2:=(HB6.out.block _ (Array.getElem?_eq_some_iff.1 h1).1).trans h1
          exact (HB67.out.block _ (Array.getElem?_eq_some_iff.1 h2).1).trans h2
        clear kq HOWN7 HG7 HC7 HOLAY HHO HX1 HX2 HS6
        go_wp2_with fail
        refine (putR_own ba nb bc l w7 HNB.out HM.out ((HR.out.below HB7.out).more HB7.out.size)).mono ?_
        rintro e w8 ⟨fv,rfl,hfo,hb8⟩
        obtain ⟨fa,fc,rfl,_,_,_⟩:=own_slice hfo
        have HFO:=Lib.hid (own_base (base':=w.heap.size) hfo HB7.out.size)
        have HB8:=Lib.hid (bel2 HB7.out hb8)
        have HACT8:=Lib.hid (HACT7.out.below (Nat.lt_of_lt_of_le HQ.out HB7.out.size) hb8)
        have HBX8:Hid (w8.heap[w.heap.size]?=some (.cells #[.int .u32 (s.n:Int),.slice s.a s.xs.length s.c] 115)):=(hb8.block _ (Array.getElem?_eq_some_iff.1 HBX7.out).1).trans HBX7.out
        obtain ⟨fl,hfl⟩:∃ fl,fl=(frL l).length:=⟨_,rfl⟩
        have HFL:=Lib.hid hfl
        rw [← hfl] at HFO ⊢
        clear hfo hb8 hfl
        go_wp2_with fail
        refine (lay_is q fl fc fa w8).mono ?_
        rintro e w9 ⟨rfl,hb9,hs9,hx1,hx2⟩
        have HB9:=Lib.hid (bel2 HB8.out hb9)
        have HACT9:=Lib.hid (HACT8.out.below (Nat.lt_of_lt_of_le HQ.out HB8.out.size) hb9)
        have HBX9:Hid (w9.heap[w.heap.size]?=some (.cells #[.int .u32 (s.n:Int),.slice s.a s.xs.length s.c] 115)):=(hb9.block _ (Array.getElem?_eq_some_iff.1 HBX8.out).1).trans HBX8.out
        have HOLAY9:Hid (ActOk F p s.n w9 (UA w q w9) (clV 111 w8.heap.size) (fun m=>appendF m s.n (bs (frL l)))) :=
          UA.lay (w1:=w8) hs (HBO.out _ HB9.out) HB8.out.size hb9 hx1 (by rw [← HFL.out];exact hx2) (by rw [← HFL.out];exact HFO.out) (by rw [frL_length];omega)
        have HOA9:Hid ((w9.alloc (.cells #[clV 111 w8.heap.size] 146)).ownsRow w.heap.size 146 1 (.slice (some ⟨va,0,none⟩) 2 vc) 2 ([meV 9 p,clV 111 wy.drew.heap.size])):=own_below HACT9.out.own (box1 w9 _)
        have HS9:Hid (w.heap.size≤w9.heap.size):=HB9.out.size
        clear hb9 hs9 hx1 hx2
        go_wp2_with (at_builtin; (refine wpList_append_rd _ rfl (.tmp 41) (.tmp 45) 121 rfl w.heap.size 146 i0 _ 1 8 Tryz.underlying121 hi0 hz0 hz1 HZ2.out rfl (by omega) _ 2 ([meV 9 p, clV 111 wy.drew.heap.size]) rfl HOA9.out _ _ 1 _ [clV 111 w8.heap.size] rfl rfl (lit_rd w9 #[clV 111 w8.heap.size] _) (by simp [Value.oneCell', clV]) (by unfold maxLen; omega) (by omega) (by have := HS9.out; simp; omega) ?_)
                     intro v10 w10 hown10 hg10 _
                     obtain ⟨va2,vc2,rfl,_,_,_⟩:=own_slice hown10
                     have HACT10:Hid (ActsAt F p q s.n w w10 (.slice va2 (2+1) vc2) ([meV 9 p,clV 111 wy.drew.heap.size] ++ [clV 111 w8.heap.size]) ([fun m=>createF m s.n,fun m=>appendF m s.n (bs (headL s.n K))] ++ [fun m=>appendF m s.n (bs (frL l))])) :=
                       (HACT9.out.below (Nat.lt_of_lt_of_le HQ.out HB9.out.size) (box1 w9 _)).push HQ.out (by have:=HS9.out;simp;omega) rfl (fun i f A h1 h2=>by
                         match i,h1,h2 with
                         | 0,h1,h2 =>
                           injection h1 with h1;injection h2 with h2;subst h1 h2
                           exact HOLAY9.out.more (box1 w9 _).size fun _ hk=>hk.below (Nat.lt_of_lt_of_le HQ.out HB9.out.size) (box1 w9 _)
                         | i+1,h1,h2=>simp at h1) hg10 hown10
                     have HB10:=Lib.hid (Below.of_grown (HB9.out.alloc HB9.out.size (.cells #[clV 111 w8.heap.size] 146)) hg10 (by have:=HS9.out;simp;omega) (by intro g hg;exact (own_shape HOA9.out hg).1))
                     have HBX10:Hid (w10.heap[w.heap.size]?=some (.cells #[.int .u32 (s.n:Int),.slice s.a s.xs.length s.c] 115)):=by
                       have h9:=((box1 w9 (.cells #[clV 111 w8.heap.size] 146)).block _ (Array.getElem?_eq_some_iff.1 HBX9.out).1).trans HBX9.out
                       exact (hg10.block _ (Array.getElem?_eq_some_iff.1 h9).1 fun e=>by
                         obtain ⟨c1,e1⟩:=own_tag HOA9.out e.symm
                         rw [e1] at h9;simp at h9).trans h9
                     have c1:w10.cell? ⟨q,1,none⟩=some (.int .i64 (K:Int)):=by rw [HK.out];exact (HBO.out _ HB10.out).c1
                     have c2:w10.cell? ⟨w.heap.size,1,none⟩=some (.slice s.a s.xs.length s.c):=by have h:=HBX10.out;simp [World.cell?,h]
                     clear hown10 hg10)
        go_quiet (fail)
        obtain ⟨w11,hw11⟩:∃ w11,w11=w10.drewN nq:=⟨_,rfl⟩
        have hb11:Below w10.heap.size w10 w11:=by rw [hw11];exact Below_drewN (Below.refl _ _) _
        have HB11:=Lib.hid (bel2 HB10.out hb11)
        have HACT11:Hid (ActsAt F p q s.n w w11 (.slice va2 3 vc2) ([meV 9 p,clV 111 wy.drew.heap.size] ++ [clV 111 w8.heap.size]) ([fun m=>createF m s.n,fun m=>appendF m s.n (bs (headL s.n K))] ++ [fun m=>appendF m s.n (bs (frL l))])):=HACT10.out.below (Nat.lt_of_lt_of_le HQ.out HB10.out.size) hb11
        have c0:w11.cell? ⟨q,0,none⟩=some (.pointer (some ⟨p,0,none⟩)):=(HBO.out _ HB11.out).c0
        have HS11:Hid (w.heap.size≤w11.heap.size):=HB11.out.size
        rw [← hw11]
        clear hw11 c1 c2 hb11
        have hse:=HSEE.out
        cases se
        · go_wp2_with fail
          go_ret
          refine ⟨va2,vc2,3,[meV 9 p,clV 111 wy.drew.heap.size] ++ [clV 111 w8.heap.size],rfl,rfl,HB11.out,?_⟩
          have e:actsF g s.n l true false=[fun m=>createF m s.n,fun m=>appendF m s.n (bs (headL s.n K))] ++ [fun m=>appendF m s.n (bs (frL l))]:=by unfold actsF;rw [← HK.out];rfl
          rw [e]
          exact HACT11.out
        · have HOA11 : Hid ((w11.alloc (.cells #[meV 65 p] 146)).ownsRow w.heap.size 146 1 (.slice va2 3 vc2) 3 ([meV 9 p, clV 111 wy.drew.heap.size] ++ [clV 111 w8.heap.size])) := own_below HACT11.out.own (box1 w11 _)
          go_wp2_with (at_builtin; (refine wpList_append_rd _ rfl (.tmp 56) (.tmp 62) 121 rfl w.heap.size 146 i0 _ 1 8 Tryz.underlying121 hi0 hz0 hz1 HZ2.out rfl (by omega) _ 3 ([meV 9 p, clV 111 wy.drew.heap.size] ++ [clV 111 w8.heap.size]) rfl HOA11.out _ _ 1 _ [meV 65 p] rfl rfl (lit_rd w11 #[meV 65 p] _) (by simp [Value.oneCell', meV]) (by unfold maxLen; omega) (by omega) (by have := HS11.out; simp; omega) ?_)
                       intro v12 w12 hown12 hg12 _
                       obtain ⟨va3,vc3,rfl,_,_,_⟩:=own_slice hown12
                       have HACT12:Hid (ActsAt F p q s.n w w12 (.slice va3 (3+1) vc3) (([meV 9 p,clV 111 wy.drew.heap.size] ++ [clV 111 w8.heap.size]) ++ [meV 65 p]) (([fun m=>createF m s.n,fun m=>appendF m s.n (bs (headL s.n K))] ++ [fun m=>appendF m s.n (bs (frL l))]) ++ [fun m=>syncF m s.n])) :=
                         (HACT11.out.below (Nat.lt_of_lt_of_le HQ.out HB11.out.size) (box1 w11 _)).push HQ.out (by have:=HS11.out;simp;omega) rfl (fun i f A h1 h2=>by
                           match i,h1,h2 with
                           | 0,h1,h2 =>
                             injection h1 with h1;injection h2 with h2;subst h1 h2
                             exact ok_sync F p s.n hs _ _
                           | i+1,h1,h2=>simp at h1) hg12 hown12
                       have HB12:=Lib.hid (Below.of_grown (HB11.out.alloc HB11.out.size (.cells #[meV 65 p] 146)) hg12 (by have:=HS11.out;simp;omega) (by intro g hg;exact (own_shape HOA11.out hg).1))
                       clear hown12 hg12)
          go_ret
          refine ⟨va3,vc3,3+1,([meV 9 p,clV 111 wy.drew.heap.size] ++ [clV 111 w8.heap.size]) ++ [meV 65 p],rfl,rfl,HB12.out,?_⟩
          have e:actsF g s.n l true true=([fun m=>createF m s.n,fun m=>appendF m s.n (bs (headL s.n K))] ++ [fun m=>appendF m s.n (bs (frL l))]) ++ [fun m=>syncF m s.n]:=by unfold actsF;rw [← HK.out];rfl
          rw [e]
          exact HACT12.out
end Go.Proofs.YtccbpngehedbaaaGreat

