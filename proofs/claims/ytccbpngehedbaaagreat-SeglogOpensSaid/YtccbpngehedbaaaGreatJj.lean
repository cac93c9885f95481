import Derived.Test.YtccbpngehedbaaaGreatJi
import Derived.Deep.RegionLaw
import Derived.Deep.AppendLies
namespace Go.Proofs.YtccbpngehedbaaaGreat
open Go Go.RowKit Go.Sort

/-! The document's Read. -/
def RX (w:World) (rb N K:Nat) (v:Value) (g:Int):Prop:=w.heap[rb]?=some (.cells #[.int .u32 (N:Int),.int .i64 (K:Int),v,.int .i64 g] 133)
section
variable {w w':World} {rb N K:Nat} {v:Value} {g:Int}
theorem RX.lt (h:RX w rb N K v g):rb < w.heap.size:=(Array.getElem?_eq_some_iff.1 h).1
theorem RX.c0 (h:RX w rb N K v g):w.cell? ⟨rb,0,none⟩=some (.int .u32 (N:Int)):=by unfold RX at h;simp [World.cell?,h]
theorem RX.c1 (h:RX w rb N K v g):w.cell? ⟨rb,1,none⟩=some (.int .i64 (K:Int)):=by unfold RX at h;simp [World.cell?,h]
theorem RX.c2 (h:RX w rb N K v g):w.cell? ⟨rb,2,none⟩=some v:=by unfold RX at h;simp [World.cell?,h]
theorem RX.c3 (h:RX w rb N K v g):w.cell? ⟨rb,3,none⟩=some (.int .i64 g):=by unfold RX at h;simp [World.cell?,h]
theorem RX.fz (h:RX w rb N K v g) (i:Nat):w.frozen? ⟨rb,i,none⟩=false:=by unfold RX at h;simp [World.frozen?,h]
theorem RX.grown (h:RX w rb N K v g) {row:Option Nat} (hg:w.grownBy w' row) (hr:some rb ≠ row):RX w' rb N K v g:=(hg.block rb h.lt hr).trans h
theorem RX.below (h:RX w rb N K v g) {B:Nat} (hb:Below B w w') (hB:rb < B):RX w' rb N K v g:=(hb.block rb hB).trans h
theorem RX.alloc (h:RX w rb N K v g) (o:Obj):RX (w.alloc o) rb N K v g:=h.below (box1 w o) h.lt
theorem RX.drew (h:RX w rb N K v g):RX w.drew rb N K v g:=h
theorem RX.set2 (h:RX w rb N K v g) (v':Value):RX (w.setCell ⟨rb,2,none⟩ v') rb N K v' g:=by
  unfold RX at h ⊢
  simp [World.setCell,Array.getElem?_modify,h]
theorem RX.set3 (h:RX w rb N K v g) (g':Int):RX (w.setCell ⟨rb,3,none⟩ (.int .i64 g')) rb N K v g':=by
  unfold RX at h ⊢
  simp [World.setCell,Array.getElem?_modify,h]
end
def sgR (N K:Nat) (v:Value) (g:Int):Array Value:=#[.int .u32 (N:Int),.int .i64 (K:Int),v,.int .i64 g]
theorem sgR_one (N K:Nat) (a:Option Addr) (n c:Nat) (g:Int):(sgR N K (.slice a n c) g).all (·.oneCell')=true:=by simp [sgR,Value.oneCell']
theorem size_sgR:(Tryz.prog.info? 133).map (·.size)=some 4:=by kernel_rfl
theorem load_sgR (W:World) (b N K:Nat) (v:Value) (g:Int) (ht:W.there b 0 4):(loadVar 133 ⟨b,0,none⟩).run Tryz.prog (W.setCells b 0 (sgR N K v g).toList)=.ok (.agg (sgR N K v g)) (W.setCells b 0 (sgR N K v g).toList) :=
  run_loadVar_mid (P:=Tryz.prog) _ b 0 133 _ _ (World.rangeAt_setCells_same W b 0 (sgR N K v g).toList ht) Tryz.underlying133 rfl size_sgR
/-- What the document's Read answers. -/
def RefReadOut (w:World) (b:List UInt8) (e:Ending) (w':World):Prop:=Below w.heap.size w w' ∧
  ((∃ n,headOf b=.error n∧e=.returned (.tuple #[.agg (sgR 0 0 (.slice none 0 0) 0),.int .i64 (n:Int)])) ∨
   ∃ (N K:Nat) (v:Value),headOf b=.ok (N,K)∧e=.returned (.tuple #[.agg (sgR N K v (endF 14 (segB b K))),.int .i64 0])∧w'.ownsRow w.heap.size 9 1 v (segB b K).length (sV (segB b K)))
theorem sum_text {b:List UInt8} {T:Nat} (hT:T < 4294967296) (h14:¬ b.length < 14):(putL T 4=(b.drop 10).take 4) ↔ T=gN b 10 4:=by
  constructor
  · intro h
    rw [gN_slab h.symm];omega
  · intro h
    rw [h,putL_gN b 10 4 (by omega)]
theorem all_take_len {b:List UInt8} {K:Nat}:(allF b K 14).length≤K:=by
  have h:∀ (m:Nat) (p:Int),(allF b m p).length≤m:=by
    intro m
    induction m with
    | zero=>intro p;simp [allF]
    | succ m ih =>
      intro p
      rw [allF]
      cases gotF b p with
      | error e=>simp
      | ok x=>simp only [List.length_cons];have:=ih (p+((6+x.length:Nat):Int));omega
  exact h K 14
theorem endF_bounds:∀ {L:List (List UInt8)} {p:Int},(∀ x ∈ L,x.length≤2406)→p≤endF p L∧endF p L≤p+2412 * (L.length:Int)
  | [],p,_=>by simp [endF]
  | x :: L,p,h=>by
    have h1:=endF_bounds (L:=L) (p:=p+((6+x.length:Nat):Int)) fun y hy=>h y (List.mem_cons_of_mem _ hy)
    have h2:=h x (List.mem_cons_self ..)
    rw [endF,List.length_cons]
    omega
theorem endF_takes {L:List (List UInt8)} {k:Nat} (h:k < L.length):endF 14 (L.take (k+1))=endF 14 (L.take k)+6+(L[k].length:Int):=by
  rw [← List.take_append_getElem h,endF_snoc];omega
theorem sV_takes {L:List (List UInt8)} {k:Nat} (h:k < L.length):sV (L.take (k+1))=sV (L.take k) ++ [.string (bs L[k])]:=by
  have e:=(List.take_append_getElem h).symm
  rw [e];unfold sV;rw [List.map_append];rfl
theorem seg_all {b:List UInt8} {K k:Nat} (h:∀ x ∈ (allF b K 14).take k,isB x=true) (hk:(allF b K 14).length≤k):segB b K=(allF b K 14).take k:=by
  rw [List.take_of_length_le hk] at h ⊢
  unfold segB bodiesF;exact while_all h
theorem seg_stop {b:List UInt8} {K k:Nat} (h:∀ x ∈ (allF b K 14).take k,isB x=true) (hk:k < (allF b K 14).length) (hb:isB (allF b K 14)[k]=false):segB b K=(allF b K 14).take k:=by
  unfold segB bodiesF
  have e:allF b K 14=(allF b K 14).take k ++ (allF b K 14)[k] :: (allF b K 14).drop (k+1):=by
    rw [List.getElem_cons_drop,List.take_append_drop]
  have:=while_stop (R:=(allF b K 14).drop (k+1)) hb h
  rw [← e] at this
  exact this
theorem all_bounds {b : List UInt8} {K : Nat} : ∀ x ∈ allF b K 14, 1 ≤ x.length ∧ x.length ≤ 2406 := by
  have h:∀ (m:Nat) (p:Int),∀ x ∈ allF b m p,1≤x.length∧x.length≤2406:=by
    intro m
    induction m with
    | zero=>intro p x hx;simp [allF] at hx
    | succ m ih =>
      intro p x hx
      rw [allF] at hx
      cases hg:gotF b p with
      | error e=>rw [hg] at hx;simp at hx
      | ok y =>
        rw [hg] at hx
        rcases List.mem_cons.1 hx with hx | hx
        · subst hx;have:=gotF_fits hg;omega
        · exact ih _ x hx
  exact h K 14
theorem refGetL_is (l:List UInt8) (w:World) (hl:l.length≤1000000000000) :
    Calls Tryz.prog 93 #[.string (bs l)] w fun e w'=>(∃ a n c,e=.returned (.tuple #[.slice a n c,.int .i64 (errW (getW l):Nat)]))∧Below w.heap.size w w':=by
  refine (refGetL_any (bs l) l (bs_toList l) w hl).mono ?_
  rintro e w1 ⟨a,c,rfl,_,_,_,hb⟩
  exact ⟨⟨a,_,c,rfl⟩,hb⟩
set_option maxRecDepth 20000 in
set_option maxHeartbeats 4000000 in
theorem refRead_any (t : ByteArray) (b : List UInt8) (w : World) (ht : t = bs b) (hl : b.length ≤ 1000000000000) :
    Calls Tryz.prog 69 #[.string t] w (RefReadOut w b):=by
  have hsz:t.size=b.length:=by rw [ht,bs_size]
  have HTB:=Lib.hid ht;clear ht
  obtain ⟨v,hv⟩:∃ v,v=w.alloc (.cells #[.int .u32 0,.int .i64 0,.slice none 0 0,.int .i64 0] 133):=⟨_,rfl⟩
  have HBV:Hid (Below w.heap.size w v):=by show Below _ _ _;rw [hv];exact box1 _ _
  have HVS:Hid (v.heap.size=w.heap.size+1):=by show _=_;rw [hv];simp
  have HTV:Hid (v.there w.heap.size 0 4):=by show v.there _ _ _;rw [hv];exact there_last _ _ _ _ _ rfl rfl
  by_cases h14:b.length < 14
  · have HE:=Lib.hid (headOf_short h14)
    clear hv
    go_enter Tryz.func69,Tryz.ntmps69
    go_wp2_with fail
    refine bodyPost_ret (v:=.tuple #[.agg (sgR 0 0 (.slice none 0 0) 0),.int .i64 2]) (results_cell_two (p:=2) (u:=3) (ty:=133) (b:=w.heap.size) (x:=.int .i64 2) rfl rfl rfl (run_loadVar_mid (P:=Tryz.prog) _ w.heap.size 0 133 _ _ (rangeAt_last _ _ _ _ rfl) Tryz.underlying133 rfl size_sgR)) rfl ?_
    exact ⟨box1 _ _,.inl ⟨2,HE.out,rfl⟩⟩
  have HX:Hid (t.extract 0 4=bs (b.take 4)):=by show _=_;rw [HTB.out,extract_part,List.drop_zero]
  have HXT:Hid (t.extract 0 10=bs (b.take 10)):=by show _=_;rw [HTB.out,extract_part,List.drop_zero]
  have HXS:Hid (t.extract 10 14=bs ((b.drop 10).take 4)):=by show _=_;rw [HTB.out,extract_part]
  have e4:(ByteArray.mk #[83,69,71,49]).toList=[83,69,71,49]:=by rw [ByteArray.toList_eq]
  by_cases h4:b.take 4=let7
  case neg =>
    have HE:=Lib.hid (headOf_form h14 h4)
    obtain ⟨t1,t2⟩:=str_eq (x:=t.extract 0 4) (y:=ByteArray.mk #[83,69,71,49]) (b:=false) (by
      rw [HX.out]
      have:¬ bs (b.take 4)=ByteArray.mk #[83,69,71,49]:=fun e=>h4 (bs_inj e)
      simp [this])
    rw [e4] at t1
    clear t2 e4 hv
    go_enter Tryz.func69,Tryz.ntmps69
    go_wp2_with fail
    refine bodyPost_ret (v:=.tuple #[.agg (sgR 0 0 (.slice none 0 0) 0),.int .i64 3]) (results_cell_two (p:=2) (u:=3) (ty:=133) (b:=w.heap.size) (x:=.int .i64 3) rfl rfl rfl (run_loadVar_mid (P:=Tryz.prog) _ w.heap.size 0 133 _ _ (rangeAt_last _ _ _ _ rfl) Tryz.underlying133 rfl size_sgR)) rfl ?_
    exact ⟨box1 _ _,.inl ⟨3,HE.out,rfl⟩⟩
  obtain ⟨t1,t2⟩:=str_eq (x:=t.extract 0 4) (y:=ByteArray.mk #[83,69,71,49]) (b:=true) (by
    rw [HX.out,h4];decide)
  rw [e4] at t1
  clear t2 e4
  obtain ⟨T,hT⟩:∃ T,moreL 0 (b.take 10)=T:=⟨_,rfl⟩
  have hT32:T < 4294967296:=by rw [← hT];exact moreL_lt _ _
  have hw3:IntKind.u64.wrap (T:Int)=(T:Int):=IntWalk.u64_in _ ⟨by omega,by omega⟩
  obtain ⟨P,hP⟩:∃ P,P=putL T 4:=⟨_,rfl⟩
  have HT:=Lib.hid hT;have HP:=Lib.hid hP
  have j1:(10:Int)≤(b.length:Int):=by omega
  have j2:(14:Int)≤(b.length:Int):=by omega
  have j3:(10:Int)≤14:=by omega
  have HT10:Hid ((b.take 10).length≤1000000000000):=by show _≤_;rw [List.length_take];omega
  by_cases h8:T=gN b 10 4
  case neg =>
    have HE:=Lib.hid (headOf_sum h14 h4 (by rw [hT];exact h8))
    obtain ⟨u1,u2⟩:=str_eq (x:=bs P) (y:=t.extract 10 14) (b:=false) (by
      rw [HXS.out,hP]
      have:¬ bs (putL T 4)=bs ((b.drop 10).take 4):=fun e=>h8 ((sum_text hT32 h14).1 (bs_inj e))
      simp [this])
    clear h4 hT hP h8
    go_enter Tryz.func69,Tryz.ntmps69
    go_wp2_with fail
    rw [← hv]
    clear hv
    refine wp_region_quiet_below (by kernel_rfl) (by kernel_rfl) ?_
    iterate 8 (first | go_big_quiet_step (first
      | (go_at_call 90;exact Calls.regrown_of (refSum_is _ (b.take 10) T _ HXT.out HT.out HT10.out))
      | (go_at_call 85;exact Calls.regrown_of (refPut6_is T 4 4 P _ rfl HP.out (by omega)))) | fail)
    refine wpQuiet_nil ?_
    intro W3 hw'
    obtain ⟨⟨d,os⟩,hw''⟩:=hw'
    have hb3:=below_regrown v d os
    rw [← hw''] at hb3
    clear hw''
    have HB3:=Lib.hid (HBV.out.trans (hb3.mono HBV.out.size))
    have HT3:=Lib.hid (there_below HTV.out hb3 (by rw [HVS.out];omega))
    clear hb3
    go_wp2_with (refine wpList_store_mid rfl 133 (.tmp 2) (.tmp 30) rfl w.heap.size 0 (sgR 0 0 (.slice none 0 0) 0) rfl rfl HT3.out size_sgR (sgR_one _ _ _ _ _ _) ?_)
    refine bodyPost_ret (v:=.tuple #[.agg (sgR 0 0 (.slice none 0 0) 0),.int .i64 8]) (results_cell_two (p:=2) (u:=3) (ty:=133) (b:=w.heap.size) (x:=.int .i64 8) rfl rfl rfl (load_sgR _ _ _ _ _ _ HT3.out)) rfl ?_
    exact ⟨Below_setCells (Nat.le_refl _) _ _ _ HB3.out,.inl ⟨8,HE.out,rfl⟩⟩
  obtain ⟨u1,u2⟩:=str_eq (x:=bs P) (y:=t.extract 10 14) (b:=true) (by
    rw [HXS.out,hP]
    have:bs (putL T 4)=bs ((b.drop 10).take 4):=by rw [(sum_text hT32 h14).2 h8]
    simp [this])
  obtain ⟨N,hN⟩:∃ N,gN b 4 4=N:=⟨_,rfl⟩
  obtain ⟨K,hK⟩:∃ K,gN b 8 2=K:=⟨_,rfl⟩
  have hN32:N < 4294967296:=by have:=gN_lt b 4 4;omega
  have hK16:K < 65536:=by have:=gN_lt b 8 2;omega
  have hw1:IntKind.u32.wrap (N:Int)=(N:Int):=IntWalk.u32_in _ ⟨by omega,by omega⟩
  have hw2:IntKind.i64.wrap (K:Int)=(K:Int):=i64_small (by omega)
  have HN:=Lib.hid hN;have HK:=Lib.hid hK
  by_cases hk:K=0∨16 < K
  · have HE:=Lib.hid (headOf_keep h14 h4 (by rw [hT];exact h8) (by rw [hK];exact hk))
    have HKK:=Lib.hid hk
    clear h4 hT hP h8 hN hK hk
    by_cases hk0:K=0
    · have hk1:(K:Int) < 1:=by omega
      go_enter Tryz.func69,Tryz.ntmps69
      go_wp2_with fail
      rw [← hv]
      clear hv
      refine wp_region_quiet_below (by kernel_rfl) (by kernel_rfl) ?_
      iterate 8 (first | go_big_quiet_step (first
        | (go_at_call 90;exact Calls.regrown_of (refSum_is _ (b.take 10) T _ HXT.out HT.out HT10.out))
        | (go_at_call 85;exact Calls.regrown_of (refPut6_is T 4 4 P _ rfl HP.out (by omega)))) | fail)
      refine wpQuiet_nil ?_
      intro W3 hw'
      obtain ⟨⟨d,os⟩,hw''⟩:=hw'
      have hb3:=below_regrown v d os
      rw [← hw''] at hb3
      clear hw''
      have HB3:=Lib.hid (HBV.out.trans (hb3.mono HBV.out.size))
      have HT3:=Lib.hid (there_below HTV.out hb3 (by rw [HVS.out];omega))
      have HS3:Hid (w.heap.size < W3.heap.size):=by show _ < _;have:=hb3.size;rw [HVS.out] at this;omega
      clear hb3
      go_wp2_with fail
      refine (refGet6_is t b 4 4 N _ HTB.out hl rfl (by omega) (by omega) HN.out).mono ?_;rintro e w4 ⟨rfl,hb4⟩
      have HB4:=Lib.hid (HB3.out.trans (hb4.mono HB3.out.size));have HT4:=Lib.hid (there_below HT3.out hb4 HS3.out);have HS4:Hid (w.heap.size < w4.heap.size):=Nat.lt_of_lt_of_le HS3.out hb4.size
      clear hb4
      go_wp2_with fail
      refine (refGet6_is t b 8 2 K _ HTB.out hl rfl (by omega) (by omega) HK.out).mono ?_;rintro e w5 ⟨rfl,hb5⟩
      have HB5:=Lib.hid (HB4.out.trans (hb5.mono HB4.out.size));have HT5:=Lib.hid (there_below HT4.out hb5 HS4.out)
      clear hb5
      go_wp2_with (refine wpList_store_mid rfl 133 (.tmp 2) (.tmp 47) rfl w.heap.size 0 (sgR 0 0 (.slice none 0 0) 0) rfl rfl HT5.out size_sgR (sgR_one _ _ _ _ _ _) ?_)
      refine bodyPost_ret (v:=.tuple #[.agg (sgR 0 0 (.slice none 0 0) 0),.int .i64 4]) (results_cell_two (p:=2) (u:=3) (ty:=133) (b:=w.heap.size) (x:=.int .i64 4) rfl rfl rfl (load_sgR _ _ _ _ _ _ HT5.out)) rfl ?_
      exact ⟨Below_setCells (Nat.le_refl _) _ _ _ HB5.out,.inl ⟨4,HE.out,rfl⟩⟩
    · have hk1:¬ (K:Int) < 1:=by omega
      have hk2:(16:Int) < (K:Int):=by have:=HKK.out;omega
      go_enter Tryz.func69,Tryz.ntmps69
      go_wp2_with fail
      rw [← hv]
      clear hv
      refine wp_region_quiet_below (by kernel_rfl) (by kernel_rfl) ?_
      iterate 8 (first | go_big_quiet_step (first
        | (go_at_call 90;exact Calls.regrown_of (refSum_is _ (b.take 10) T _ HXT.out HT.out HT10.out))
        | (go_at_call 85;exact Calls.regrown_of (refPut6_is T 4 4 P _ rfl HP.out (by omega)))) | fail)
      refine wpQuiet_nil ?_
      intro W3 hw'
      obtain ⟨⟨d,os⟩,hw''⟩:=hw'
      have hb3:=below_regrown v d os
      rw [← hw''] at hb3
      clear hw''
      have HB3:=Lib.hid (HBV.out.trans (hb3.mono HBV.out.size))
      have HT3:=Lib.hid (there_below HTV.out hb3 (by rw [HVS.out];omega))
      have HS3:Hid (w.heap.size < W3.heap.size):=by show _ < _;have:=hb3.size;rw [HVS.out] at this;omega
      clear hb3
      go_wp2_with fail
      refine (refGet6_is t b 4 4 N _ HTB.out hl rfl (by omega) (by omega) HN.out).mono ?_;rintro e w4 ⟨rfl,hb4⟩
      have HB4:=Lib.hid (HB3.out.trans (hb4.mono HB3.out.size));have HT4:=Lib.hid (there_below HT3.out hb4 HS3.out);have HS4:Hid (w.heap.size < w4.heap.size):=Nat.lt_of_lt_of_le HS3.out hb4.size
      clear hb4
      go_wp2_with fail
      refine (refGet6_is t b 8 2 K _ HTB.out hl rfl (by omega) (by omega) HK.out).mono ?_;rintro e w5 ⟨rfl,hb5⟩
      have HB5:=Lib.hid (HB4.out.trans (hb5.mono HB4.out.size));have HT5:=Lib.hid (there_below HT4.out hb5 HS4.out)
      clear hb5
      go_wp2_with (refine wpList_store_mid rfl 133 (.tmp 2) (.tmp 47) rfl w.heap.size 0 (sgR 0 0 (.slice none 0 0) 0) rfl rfl HT5.out size_sgR (sgR_one _ _ _ _ _ _) ?_)
      refine bodyPost_ret (v:=.tuple #[.agg (sgR 0 0 (.slice none 0 0) 0),.int .i64 4]) (results_cell_two (p:=2) (u:=3) (ty:=133) (b:=w.heap.size) (x:=.int .i64 4) rfl rfl rfl (load_sgR _ _ _ _ _ _ HT5.out)) rfl ?_
      exact ⟨Below_setCells (Nat.le_refl _) _ _ _ HB5.out,.inl ⟨4,HE.out,rfl⟩⟩
  have HE:=Lib.hid (headOf_ok h14 h4 (by rw [hT];exact h8) (by rw [hK];exact hk))
  rw [hN,hK] at HE
  have hk1:¬ (K:Int) < 1:=by omega
  have hk2:¬ (16:Int) < (K:Int):=by omega
  have hKn:K≤16:=by omega
  clear h4 hT hP h8 hN hK hk
  go_enter Tryz.func69,Tryz.ntmps69
  go_wp2_with fail
  rw [← hv]
  clear hv
  refine wp_region_quiet_below (by kernel_rfl) (by kernel_rfl) ?_
  iterate 8 (first | go_big_quiet_step (first
    | (go_at_call 90;exact Calls.regrown_of (refSum_is _ (b.take 10) T _ HXT.out HT.out HT10.out))
    | (go_at_call 85;exact Calls.regrown_of (refPut6_is T 4 4 P _ rfl HP.out (by omega)))) | fail)
  refine wpQuiet_nil ?_
  intro W3 hw'
  obtain ⟨⟨d,os⟩,hw''⟩:=hw'
  have hb3:=below_regrown v d os
  rw [← hw''] at hb3
  clear hw''
  have HB3:=Lib.hid (HBV.out.trans (hb3.mono HBV.out.size))
  have HT3:=Lib.hid (there_below HTV.out hb3 (by rw [HVS.out];omega))
  have HS3:Hid (w.heap.size < W3.heap.size):=by show _ < _;have:=hb3.size;rw [HVS.out] at this;omega
  clear hb3
  go_wp2_with fail
  refine (refGet6_is t b 4 4 N _ HTB.out hl rfl (by omega) (by omega) HN.out).mono ?_;rintro e w4 ⟨rfl,hb4⟩
  have HB4:=Lib.hid (HB3.out.trans (hb4.mono HB3.out.size));have HT4:=Lib.hid (there_below HT3.out hb4 HS3.out);have HS4:Hid (w.heap.size < w4.heap.size):=Nat.lt_of_lt_of_le HS3.out hb4.size
  clear hb4
  go_wp2_with fail
  refine (refGet6_is t b 8 2 K _ HTB.out hl rfl (by omega) (by omega) HK.out).mono ?_;rintro e w5 ⟨rfl,hb5⟩
  have HB5:=Lib.hid (HB4.out.trans (hb5.mono HB4.out.size));have HT5:=Lib.hid (there_below HT4.out hb5 HS4.out);have HS5:Hid (w.heap.size < w5.heap.size):=Nat.lt_of_lt_of_le HS4.out hb5.size
  clear hb5
  clear t1 u1 u2 HTV HBV HVS HX HXT HXS HS3 HS4 HT3 HT4 HB3 HB4
  go_wp2_with fail
  obtain ⟨A,hA⟩:∃ A,A=w5.alloc (.cells #[.int .u32 (N:Int),.int .i64 (K:Int),.slice none 0 0,.int .i64 14] 133):=⟨_,rfl⟩
  have HXA:Hid (RX A w5.heap.size N K (.slice none 0 0) 14):=by show RX _ _ _ _ _ _;rw [hA];exact heap_alloc_new w5 _
  have HAS:Hid (A.heap.size=w5.heap.size+1):=by show _=_;rw [hA];simp
  have HAB:Hid (Below w5.heap.size w5 A):=by show Below _ _ _;rw [hA];exact box1 _ _
  rw [← hA]
  clear hA
  refine (refAll_any t b 14 K A HTB.out hl (by omega)).mono ?_;rintro e w6 ⟨av,rfl,ho6,hb6⟩
  rw [Int.toNat_natCast] at ho6 ⊢
  obtain ⟨L,hL⟩:∃ L,L=allF b K 14:=⟨_,rfl⟩
  have hLK:L.length≤K:=by rw [hL];exact all_take_len
  have hLB:∀ x ∈ L,1≤x.length∧x.length≤2406:=by rw [hL];exact all_bounds
  have HL:=Lib.hid hL;have HLB:=Lib.hid hLB
  rw [← hL] at ho6
  obtain ⟨E0,hE0⟩:∃ E0,E0=endF 14 (allF b K 14):=⟨_,rfl⟩
  rw [← hE0]
  clear hL hE0 hLB
  obtain ⟨n,hn⟩:∃ n,n=L.length:=⟨_,rfl⟩
  rw [← hn] at ho6 hLK
  have HNL:=Lib.hid hn
  clear hn
  obtain ⟨aa,ca,rfl,_,_,hax⟩:=own_slice ho6
  have HAX:=Lib.hid hax
  have HAV:Hid (∀ j,(Value.slice aa n ca).ownBlock=some j→j < w6.heap.size):=fun j e=>(own_shape ho6 e).2.1
  obtain ⟨rx,hrx⟩:∃ rx,rx=w5.heap.size:=⟨_,rfl⟩
  have HRX:=Lib.hid hrx
  rw [← hrx] at HXA ⊢
  have hrx6:rx < w6.heap.size:=by have:=hb6.size;rw [HAS.out] at this;omega
  have HO6:=Lib.hid ho6
  have HX6:=Lib.hid (HXA.out.below hb6 HXA.out.lt)
  have HB6:Hid (Below w5.heap.size w5 w6):=HAB.out.trans (hb6.mono HAB.out.size)
  have HR6:Hid (rx < w6.heap.size):=hrx6
  clear ho6 hb6 hax hrx hrx6
  obtain ⟨i0,hi0,hz0,hz1,hz2⟩:=info_parts info_str
  have HZ2:=Lib.hid hz2;clear hz2
  go_wp2_with fail
  go_loopw [11,12,13] (fun i _ _ wr=>∃ (k:Nat) (v:Value),i=.int .i64 k∧k≤n∧(∀ x ∈ L.take k,isB x=true)∧RX wr rx N K v (endF 14 (L.take k))∧wr.ownsRow w6.heap.size 9 1 v k (sV (L.take k))∧wr.ownsRow A.heap.size 9 1 (.slice aa n ca) n (sV L)∧Below w5.heap.size w5 wr∧w6.heap.size≤wr.heap.size)
    (fun i _ _ _=>n - (intOf i).toNat)
  case atStart=>exact ⟨0,_,rfl,Nat.zero_le _,fun _ h=>absurd h (by simp),HX6.out,World.ownsRow_nil _ _ _ _,HO6.out,HB6.out,Nat.le_refl _⟩
  case round =>
    obtain ⟨k,v,rfl,hk,hall,hx,ho,hoa,hb,hs⟩:=hrel
    have HALL:=Lib.hid hall;have HX:=Lib.hid hx;have HO:=Lib.hid ho;have HOA:=Lib.hid hoa;have HB:=Lib.hid hb;have HS:=Lib.hid hs
    obtain ⟨va,vc,rfl,_,_,_⟩:=own_slice ho
    clear hall hx ho hoa hb hs
    by_cases hlt:k < n
    · have HLT:=Lib.hid hlt
      have hkL:k < L.length:=by rw [← HNL.out];exact hlt
      obtain ⟨g,rfl,hgA,hg6⟩:=HAX.out (by omega)
      have hcell:=HOA.out.cellAt k (by omega)
      rw [show (sV L)[k]?=some (.string (bs L[k])) by simp [sV,hkL]] at hcell
      obtain ⟨B,hBk⟩:∃ B,L[k]=B:=⟨_,rfl⟩
      rw [hBk] at hcell
      have hBl:1≤B.length∧B.length≤2406:=by rw [← hBk];exact HLB.out _ (List.getElem_mem _)
      have HBK:=Lib.hid hBk;have HBL:=Lib.hid hBl
      have i1:(0:Int)≤(k:Int):=by omega
      have i2:(k:Int) < (n:Int):=by omega
      clear hBk hBl
      have HCELL:=Lib.hid hcell
      go_wp2_with fail
      refine (refGetL_is B wr (by have:=HBL.out;omega)).mono ?_;rintro e w7 ⟨⟨a7,n7,c7,rfl⟩,hb7⟩
      have HX7:=Lib.hid (HX.out.below hb7 HX.out.lt);have HO7:=Lib.hid (own_below HO.out hb7);have HOA7:=Lib.hid (own_below HOA.out hb7)
      have HB7:=Lib.hid (HB.out.trans (hb7.mono HB.out.size));have HS7:=Lib.hid (Nat.le_trans HS.out hb7.size)
      have hg7:g < wr.heap.size:=Nat.lt_of_lt_of_le hg6 HS.out
      have hcell7:w7.cell? ⟨g,k,none⟩=some (.string (bs B)):=by rw [hb7.cell (p:=⟨g,k,none⟩) hg7];exact HCELL.out
      clear hb7 hcell
      by_cases he:errW (getW B)=0
      · have he0:((errW (getW B):Int) != 0)=false:=by simp [he]
        have HISB:Hid (isB B=true):=by show _=_;simp [isB,he]
        generalize errW (getW B)=er at he0
        clear he
        obtain ⟨E,hE⟩:∃ E,E=endF 14 (L.take k):=⟨_,rfl⟩
        rw [← hE] at HX7
        have HE1:=Lib.hid hE
        clear hE
        have hg7':g < w7.heap.size:=Nat.lt_of_lt_of_le hg6 HS7.out
        have m2:=HX7.out.c2
        have mlt:=HX7.out.lt
        have HXT7:Hid (RX (w7.drew.alloc (.cells #[.string (bs B)] 9)) rx N K (.slice va k vc) E):=(HX7.out.drew).alloc _
        have HOT7:=Lib.hid ((own_below HO7.out (Below_drew (Below.refl w7.heap.size w7))).alloc (.cells #[.string (bs B)] 9))
        have hs7:w6.heap.size≤w7.heap.size:=HS7.out
        have hr6:rx < w6.heap.size:=HR6.out
        have hrA:rx < A.heap.size:=by have:=HAS.out;have:=HRX.out;omega
        clear HXA HX6 HAB HB6 HO6 HAS
        go_wp2_with fail
        go_region_law
          ((refine step_append_lies _ (by rfl) (.tmp 78) (.tmp 83) 62 (by rfl) w6.heap.size 9 i0 _ 1 16 Tryz.underlying62 hi0 hz0 hz1 HZ2.out rfl (by omega) (.slice va k vc) k _ (by rfl) HOT7.out ⟨w7.heap.size,0,none⟩ 1 1 [.string (bs B)] (by rfl) rfl (lit_cells w7.drew #[.string (bs B)] _) (by simp [Value.oneCell']) (by omega) (by unfold maxLen;omega) (by omega) (by simp;omega) (w7.heap.size+1) (by simp) ?_
            intro g8 c8 w8 hown8 hg8 _ _
            have hne8:some rx ≠ (Value.slice va k vc).ownBlock:=fun e=>by have:=(own_shape HOT7.out e.symm).1;omega
            have X8:=HXT7.out.grown hg8 hne8
            have c8':=X8.c2
            have f8':=X8.fz 2))
        all_goals
          have HOA8:Hid (w8.ownsRow A.heap.size 9 1 (.slice (some ⟨g,0,none⟩) n ca) n (sV L)):=by
            refine World.ownsRow.kept ((own_below HOA7.out (Below_drew (Below.refl w7.heap.size w7))).alloc (.cells #[.string (bs B)] 9)) hg8 (.inr fun e=>?_)
            have h1:w6.heap.size≤g:=(own_shape HOT7.out (show (Value.slice va k vc).ownBlock=some g from e.symm)).1
            omega
          have HB8:Hid (Below w5.heap.size w5 w8):=Below.of_grown ((Below_drew HB7.out).alloc (Nat.le_trans HB7.out.size (Nat.le_refl _)) (.cells #[.string (bs B)] 9)) hg8 (by have:=HB7.out.size;simp;omega) (fun j e=>by
            have:=(own_shape HOT7.out e).1;have:=HRX.out;omega)
          have HS8:Hid (w6.heap.size≤w8.heap.size):=by have:=hg8.size;simp at this;show _≤_;omega
          obtain ⟨w9,hw9⟩:∃ w9,w9=w8.setCell ⟨rx,2,none⟩ (.slice (some ⟨g8,0,none⟩) (k+1) c8):=⟨_,rfl⟩
          rw [← hw9]
          have X9:RX w9 rx N K (.slice (some ⟨g8,0,none⟩) (k+1) c8) E:=by rw [hw9];exact X8.set2 _
          have HX9:=Lib.hid X9
          have HO9:Hid (w9.ownsRow w6.heap.size 9 1 (.slice (some ⟨g8,0,none⟩) (k+1) c8) (k+1) (sV (L.take (k+1)))):=by
            show World.ownsRow _ _ _ _ _ _ _
            rw [hw9,sV_takes hkL,HBK.out];exact own_off hown8 hr6 2 _
          have HOA9:Hid (w9.ownsRow A.heap.size 9 1 (.slice (some ⟨g,0,none⟩) n ca) n (sV L)):=by
            show World.ownsRow _ _ _ _ _ _ _
            rw [hw9];exact own_off HOA8.out hrA 2 _
          have HB9:Hid (Below w5.heap.size w5 w9):=by show Below _ _ _;rw [hw9];exact HB8.out.setCell (by have:=HRX.out;show _≤rx;omega) _
          have HS9:Hid (w6.heap.size≤w9.heap.size):=by show _≤_;rw [hw9];simp;exact HS8.out
          have hcell9:w9.cell? ⟨g,k,none⟩=some (.string (bs B)):=by
            have h:=HOA9.out.cellAt k (by omega)
            rw [show (sV L)[k]?=some (.string (bs L[k])) by simp [sV,hkL],HBK.out] at h
            exact h
          have hg9:g < w9.heap.size:=Nat.lt_of_lt_of_le hg6 HS9.out
          have kx:∀ (d:Nat) (os:Array Obj),(grow (redrawn w9 d) os).cell? ⟨rx,3,none⟩=some (.int .i64 E):=fun d os=>(X9.below (below_regrown w9 d os) X9.lt).c3
          have kc:∀ (d:Nat) (os:Array Obj),(grow (redrawn w9 d) os).cell? ⟨g,k,none⟩=some (.string (bs B)):=fun d os=>by rw [(below_regrown w9 d os).cell (p:=⟨g,k,none⟩) hg9];exact hcell9
          have hbz:(bs B).size=B.length:=bs_size B
          obtain ⟨he1,he2⟩:=endF_bounds (L:=L.take k) (fun x hx=>(HLB.out x (List.mem_of_mem_take hx)).2)
          rw [← HE1.out] at he1 he2
          have he3:(L.take k).length≤16:=by rw [List.length_take];omega
          have he4:E≤1000000:=by omega
          have hbl:=HBL.out.2
          clear he2 he3
          clear hown8 hg8 X8 c8' f8' hw9 hne8 m2 mlt hcell7 X9
          go_wp2_with fail
          refine wp_region_below_tail 10 (by kernel_rfl) (by kernel_rfl) ?_
          simp only [List.take_succ_cons,List.take_zero,List.drop_succ_cons,List.drop_zero]
          iterate 10 (first | go_big_quiet_step (fail) | fail)
          refine wpQuiet_nil ?_
          intro wa hw'
          obtain ⟨⟨d,os⟩,hw''⟩:=hw'
          have hba:=below_regrown w9 d os
          rw [← hw''] at hba
          clear hw'' kx kc
          have XA:=HX9.out.below hba HX9.out.lt
          have xa:=XA.c3
          have xf:=XA.fz 3
          have HXA:=Lib.hid XA
          have HOa:=Lib.hid (own_below HO9.out hba);have HOAa:=Lib.hid (own_below HOA9.out hba);have HBa:=Lib.hid (HB9.out.trans (hba.mono HB9.out.size));have HSa:=Lib.hid (Nat.le_trans HS9.out hba.size)
          clear XA hba
          go_wp2_with fail
          go_roundw
          case rel =>
            refine ⟨k+1,.slice (some ⟨g8,0,none⟩) (k+1) c8,by go_num,HLT.out,?_,?_,own_off HOa.out hr6 3 _,own_off HOAa.out hrA 3 _,HBa.out.setCell (by have:=HRX.out;show _≤rx;omega) _,by have:=HSa.out;simp;omega⟩
            · intro x hx
              rw [← List.take_append_getElem hkL] at hx
              rcases List.mem_append.1 hx with hx | hx
              · exact HALL.out x hx
              · rw [List.mem_singleton] at hx;subst hx;rw [HBK.out];exact HISB.out
            · rw [endF_takes hkL,← HE1.out,HBK.out];exact HXA.out.set3 _
          case measure=>have:=HLT.out;simp [intOf];omega
      · have he0:((errW (getW B):Int) != 0)=true:=by simp;omega
        have HISB:Hid (isB B=false):=by show _=_;simp [isB,he]
        generalize errW (getW B)=er at he0
        clear he hcell7
        have x0:=HX7.out.c0;have x1:=HX7.out.c1;have x2:=HX7.out.c2;have x3:=HX7.out.c3
        have HT7:Hid (w7.there w.heap.size 0 4):=there_below HT5.out HB7.out HS5.out
        obtain ⟨E,hE⟩:∃ E,E=endF 14 (L.take k):=⟨_,rfl⟩
        rw [← hE] at x3
        have HE1:=Lib.hid hE
        clear hE
        go_wp2_with (refine wpList_store_mid rfl 133 (.tmp 2) (.tmp 76) rfl w.heap.size 0 (sgR N K (.slice va k vc) E) rfl rfl HT7.out size_sgR (sgR_one _ _ _ _ _ _) ?_)
        refine bodyPost_ret (v:=.tuple #[.agg (sgR N K (.slice va k vc) E),.int .i64 0]) (results_cell_two (p:=2) (u:=3) (ty:=133) (b:=w.heap.size) (x:=.int .i64 0) rfl rfl rfl (load_sgR _ _ _ _ _ _ HT7.out)) rfl ?_
        have hseg:segB b K=L.take k:=by
          have h:=HL.out
          subst h
          exact seg_stop HALL.out hkL (by rw [HBK.out];exact HISB.out)
        have hbase:w.heap.size < w6.heap.size:=by have:=HR6.out;have:=HRX.out;have:=HS5.out;omega
        refine ⟨Below_setCells (Nat.le_refl _) _ _ _ (HB5.out.trans (HB7.out.mono HB5.out.size)),.inr ⟨N,K,.slice va k vc,HE.out,by rw [hseg,← HE1.out],?_⟩⟩
        rw [hseg,List.length_take,Nat.min_eq_left (Nat.le_of_lt hkL)]
        exact own_base (own_offs HO7.out hbase _ _) (Nat.le_of_lt hbase)
    · have:k=n:=by omega
      subst this
      have x0:=HX.out.c0;have x1:=HX.out.c1;have x2:=HX.out.c2;have x3:=HX.out.c3
      have HT7:Hid (wr.there w.heap.size 0 4):=there_below HT5.out HB.out HS5.out
      obtain ⟨E,hE⟩:∃ E,E=endF 14 (L.take k):=⟨_,rfl⟩
      rw [← hE] at x3
      have HE1:=Lib.hid hE
      clear hE
      go_wp2_with (refine wpList_store_mid rfl 133 (.tmp 2) (.tmp 96) rfl w.heap.size 0 (sgR N K (.slice va k vc) E) rfl rfl HT7.out size_sgR (sgR_one _ _ _ _ _ _) ?_)
      refine bodyPost_ret (v:=.tuple #[.agg (sgR N K (.slice va k vc) E),.int .i64 0]) (results_cell_two (p:=2) (u:=3) (ty:=133) (b:=w.heap.size) (x:=.int .i64 0) rfl rfl rfl (load_sgR _ _ _ _ _ _ HT7.out)) rfl ?_
      have hseg:segB b K=L.take k:=by
        have h:=HL.out
        have h2:=HNL.out
        subst h
        exact seg_all HALL.out (by omega)
      have hbase:w.heap.size < w6.heap.size:=by have:=HR6.out;have:=HRX.out;have:=HS5.out;omega
      refine ⟨Below_setCells (Nat.le_refl _) _ _ _ (HB5.out.trans (HB.out.mono HB5.out.size)),.inr ⟨N,K,.slice va k vc,HE.out,by rw [hseg,← HE1.out],?_⟩⟩
      rw [hseg,List.length_take,HNL.out,Nat.min_self]
      have h:=HO.out
      rw [HNL.out] at h
      exact own_base (own_offs h hbase _ _) (Nat.le_of_lt hbase)
end Go.Proofs.YtccbpngehedbaaaGreat

namespace Go.Proofs.YtccbpngehedbaaaGreat
open Go Go.RowKit Go.Sort

/-! The law's 'same' and the chapter's example. -/
end Go.Proofs.YtccbpngehedbaaaGreat

