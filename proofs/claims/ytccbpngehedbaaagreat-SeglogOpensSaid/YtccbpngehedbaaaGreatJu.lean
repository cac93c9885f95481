import Derived.Test.YtccbpngehedbaaaGreatJt
import Derived.Test.YtccbpngehedbaaaGreatJm
import Derived.Laws.Concat
import Derived.Deep.RegionHeldLaw
import Derived.Shelf.SlMaps.Clone
namespace Go.Proofs.YtccbpngehedbaaaGreat
open Go Go.RowKit Go.Sort

/-! The landed file system: what bytes begin with; bytes garbled. -/
def pre (a b:ByteArray):Bool:=decide (b.size≤a.size) && decide (a.extract 0 b.size=b)
theorem pre_is (a b : ByteArray) : pre a b = decide (commonF a.data.toList b.data.toList = b.size) := by
  have key:∀ (x y:List UInt8),commonF x y=y.length ↔ y.length≤x.length∧x.take y.length=y:=by
    intro x y
    induction x generalizing y with
    | nil=>cases y <;> simp [commonF]
    | cons u us ih =>
      cases y with
      | nil=>simp [commonF]
      | cons v vs =>
        unfold commonF
        split
        · rename_i e;subst e;simp [ih]
        · rename_i e;simp [e]
  have h:=key a.data.toList b.data.toList
  rw [data_length,data_length] at h
  unfold pre
  rw [Bool.eq_iff_iff]
  simp only [Bool.and_eq_true,decide_eq_true_eq,h]
  have e:a.extract 0 b.size=b ↔ a.data.toList.take b.size=b.data.toList:=by
    constructor
    · intro e
      have:=congrArg (fun x:ByteArray=>x.data.toList) e
      simpa [ByteArray.data_extract] using this
    · intro e
      apply ByteArray.ext
      apply Array.toList_inj.1
      simpa [ByteArray.data_extract] using e
  rw [e]
set_option maxRecDepth 20000 in
set_option maxHeartbeats 1000000 in
theorem prefixIn_any (a b:ByteArray) (w:World) :
    Calls Tryz.prog 103 #[.string a,.string b] w fun e w'=>e=.returned (.bool (pre a b))∧w'=w:=by
  by_cases h:b.size≤a.size
  · have i1:(0:Int)≤(b.size:Int):=by omega
    have i2:(b.size:Int)≤(a.size:Int):=by omega
    have d1:decide (b.size≤a.size)=true:=decide_eq_true h
    have HE:Hid (pre a b=decide (a.extract 0 b.size=b)):=by show _=_;unfold pre;rw [d1,Bool.true_and]
    obtain ⟨c,hc⟩:∃ c,c=a.extract 0 b.size:=⟨_,rfl⟩
    rw [← hc] at HE
    have HC:=hc.symm
    clear hc
    by_cases he:c=b
    · obtain ⟨t1,t2⟩:=str_eq (x:=c) (y:=b) (b:=true) (by simp [he])
      have HE2:Hid (pre a b=true):=by show _=_;rw [HE.out];exact decide_eq_true he
      clear he
      go_enter Tryz.func103,Tryz.ntmps103
      go_wp2
      go_ret
      exact ⟨by rw [HE2.out];rfl,rfl⟩
    · obtain ⟨t1,t2⟩:=str_eq (x:=c) (y:=b) (b:=false) (by simp [he])
      have HE2:Hid (pre a b=false):=by show _=_;rw [HE.out];exact decide_eq_false he
      clear he
      go_enter Tryz.func103,Tryz.ntmps103
      go_wp2
      go_ret
      exact ⟨by rw [HE2.out];rfl,rfl⟩
  · have d1:decide (b.size≤a.size)=false:=decide_eq_false h
    have HE:Hid (pre a b=false):=by show _=_;unfold pre;rw [d1,Bool.false_and]
    go_enter Tryz.func103,Tryz.ntmps103
    go_wp2
    go_ret
    exact ⟨by rw [HE.out];rfl,rfl⟩
theorem prefix_any (a b:ByteArray) (w:World) :
    Calls Tryz.prog 77 #[.string a,.string b] w fun e w'=>e=.returned (.bool (pre a b))∧w'=w:=by
  go_enter Tryz.func77,Tryz.ntmps77
  go_wp2_with fail
  refine (prefixIn_any a b w).mono ?_
  rintro e w1 ⟨rfl,rfl⟩
  go_wp2_with fail
  go_ret
  exact ⟨rfl,rfl⟩
end Go.Proofs.YtccbpngehedbaaaGreat

namespace Go.Proofs.YtccbpngehedbaaaGreat
open Go Go.RowKit Go.Sort

/-! The landed file system: what is common; the first part. -/
set_option maxRecDepth 20000 in
set_option maxHeartbeats 2000000 in
theorem comm_any (a b : ByteArray) (w : World) (ha : a.size ≤ 1000000000000) (_hb : b.size ≤ 1000000000000) :
    Calls Tryz.prog 79 #[.string a,.string b] w fun e w'=>e=.returned (.int .i64 (commonF a.data.toList b.data.toList:Nat))∧Below w.heap.size w w':=by
  obtain ⟨M,hM1,hM2,hM3⟩:∃ M,M≤a.size∧M≤b.size∧(M=a.size∨M=b.size):=⟨min a.size b.size,by omega,by omega,by omega⟩
  have hif:(if b.size < a.size then (b.size:Int) else (a.size:Int))=(M:Int):=by split <;> omega
  have hmin:min (a.size:Int) (b.size:Int)=(M:Int):=by omega
  go_enter Tryz.func79,Tryz.ntmps79
  go_wp2_with fail
  go_loopw [5] (fun i wr=>∃ k:Nat,k≤M∧i=.int .i64 k∧commonF a.data.toList b.data.toList=commonF (a.data.toList.drop k) (b.data.toList.drop k)+k∧RowKit.Below w.heap.size w wr) (fun i _=>M - (intOf i).toNat)
  case atStart=>exact ⟨0,Nat.zero_le _,rfl,rfl,Below.refl _ _⟩
  case round =>
    obtain ⟨k,hk,rfl,he,hbw⟩:=hrel
    have HE:=Lib.hid he;have HW:=Lib.hid hbw;clear he hbw
    by_cases h1:k < M
    · have d1:decide (k < M)=true:=decide_eq_true h1
      have i1:(0:Int)≤(k:Int):=by omega
      have i2:(k:Int) < (a.size:Int):=by omega
      have i3:(k:Int) < (b.size:Int):=by omega
      have j1:k < a.size:=by omega
      have j2:k < b.size:=by omega
      by_cases hx:a[k]=b[k]
      · have HT:Hid (commonF a.data.toList b.data.toList=commonF (a.data.toList.drop (k+1)) (b.data.toList.drop (k+1))+(k+1)):=by
          show _=_
          rw [HE.out,common_step (k:=k) (by rw [data_length];exact j1) (by rw [data_length];exact j2) (by simp;exact hx)];omega
        have hy:((a[k].toNat:Int) == (b[k].toNat:Int))=true:=by simp [hx]
        clear hx
        go_wp2_with fail
        refine wp_region_quiet_below (by kernel_rfl) (by kernel_rfl) ?_
        iterate 16 (first | go_big_quiet_step (fail) | fail)
        refine wpQuiet_nil ?_
        intro W3 hw'
        obtain ⟨⟨d,os⟩,hw''⟩:=hw'
        have hb3:=below_regrown wr d os
        rw [← hw''] at hb3
        clear hw''
        have HB3:=Lib.hid (HW.out.trans (hb3.mono HW.out.size));clear hb3
        go_wp2_with fail
        go_roundw
        case rel=>exact ⟨k+1,by omega,by go_num,HT.out,HB3.out⟩
        case measure=>simp [intOf];omega
      · have HT:Hid (commonF a.data.toList b.data.toList=k):=by
          show _=_
          rw [HE.out,common_diff (k:=k) (by rw [data_length];exact j1) (by rw [data_length];exact j2) (by simp;exact hx)];omega
        have hy:((a[k].toNat:Int) == (b[k].toNat:Int))=false:=by
          refine beq_eq_false_iff_ne.2 fun e=>hx (UInt8.toNat_inj.1 (by omega))
        clear hx
        go_wp2_with fail
        refine wp_region_quiet_below (by kernel_rfl) (by kernel_rfl) ?_
        iterate 16 (first | go_big_quiet_step (fail) | fail)
        refine wpQuiet_nil ?_
        intro W3 hw'
        obtain ⟨⟨d,os⟩,hw''⟩:=hw'
        have hb3:=below_regrown wr d os
        rw [← hw''] at hb3
        clear hw''
        have HB3:=Lib.hid (HW.out.trans (hb3.mono HW.out.size));clear hb3
        go_wp2_with fail
        go_ret
        exact ⟨by rw [HT.out];rfl,HB3.out⟩
    · have d1:decide (k < M)=false:=decide_eq_false h1
      have HT:Hid (commonF a.data.toList b.data.toList=k):=by
        show _=_
        rw [HE.out,common_end (by rw [data_length,data_length];omega)];omega
      go_wp2_with fail
      refine wp_region_quiet_below (by kernel_rfl) (by kernel_rfl) ?_
      iterate 16 (first | go_big_quiet_step (fail) | fail)
      refine wpQuiet_nil ?_
      intro W3 hw'
      obtain ⟨⟨d,os⟩,hw''⟩:=hw'
      have hb3:=below_regrown wr d os
      rw [← hw''] at hb3
      clear hw''
      have HB3:=Lib.hid (HW.out.trans (hb3.mono HW.out.size));clear hb3
      go_wp2_with fail
      go_ret
      exact ⟨by rw [HT.out];rfl,HB3.out⟩
set_option maxRecDepth 20000 in
set_option maxHeartbeats 4000000 in
theorem garb_any (S : ByteArray) (ga : Option Addr) (gc : Nat) (g : List UInt8) (w : World) (hr : Rd w w.heap.size ga (bV g)) (hs : S.size ≤ 1000000000000) (_hgl : g.length ≤ maxLen) :
    Calls Tryz.prog 104 #[.string S,.slice ga g.length gc] w fun e w'=>e=.returned (.string (bs (xorL S.data.toList g)))∧Below w.heap.size w w':=by
  have HR:=Lib.hid hr;clear hr
  unfold maxLen at _hgl
  have kb:=fun (w:World) (S:ByteArray)=>run_bytes_of_string (P:=Tryz.prog) w 9 38 5 S Tryz.underlying9 Tryz.underlying38 Tryz.underlying5
  obtain ⟨q,hq⟩:∃ q,q=S.size:=⟨_,rfl⟩
  obtain ⟨l,hl⟩:∃ l,l=S.data.toList:=⟨_,rfl⟩
  have HLQ:Hid (l.length=q):=by show _=_;rw [hl,data_length,hq]
  obtain ⟨M,hM1,hM2,hM3⟩:∃ M,M≤q∧M≤g.length∧(M=q∨M=g.length):=⟨min q g.length,by omega,by omega,by omega⟩
  have hif:(if g.length < S.size then (g.length:Int) else (S.size:Int))=(M:Int):=by split <;> omega
  have HSL:Hid (S.data.toList=l):=hl.symm
  have HSQ:Hid (S.size=q):=hq.symm
  rw [← hl]
  clear hl hq
  go_enter Tryz.func104,Tryz.ntmps104
  obtain ⟨hra,hth⟩:=alloc_bytes w S (grownCap w S.size 0 5) ((bytesRow S (grownCap w S.size 0 5)).size,(bytesRow S (grownCap w S.size 0 5)).size+1) (by unfold bytesRow;simp)
  have HRA:=Lib.hid hra;have HTH:=Lib.hid hth;clear hra hth
  have HB0:Hid (Below w.heap.size w (w.alloc (.cells (bytesRow S (grownCap w S.size 0 5)) 5 ((bytesRow S (grownCap w S.size 0 5)).size,(bytesRow S (grownCap w S.size 0 5)).size+1))).drew):=Below_drew (box1 w _)
  go_wp2_with fail
  go_loopw [14] (fun i wr=>∃ k:Nat,i=.int .i64 k∧k≤M∧wr.rangeAt w.heap.size 0 (bV (garbTo l 0 g k))∧wr.there w.heap.size 0 q∧w.heap.size < wr.heap.size∧RowKit.Below w.heap.size w wr) (fun i _=>M - (intOf i).toNat)
  case atStart=>exact ⟨0,rfl,Nat.zero_le _,by have h:=HRA.out;rw [HSL.out] at h;rw [show garbTo l 0 g 0=l from by simp [garbTo,xorL_nil]];exact (World.rangeAt_drew _ _ _ _).2 h,by rw [← HSQ.out];exact (World.there_drew _ _ _ _).2 HTH.out,by simp,HB0.out⟩
  case round =>
    obtain ⟨k,rfl,hkM,hra,hth,hgs,hbw⟩:=hrel
    have HA:=Lib.hid hra;have HT:=Lib.hid hth;have HW:=Lib.hid hbw;clear hra hth hbw
    by_cases h1:k < M
    · have hl1:0+k < l.length:=by rw [HLQ.out];omega
      have hkg:k < g.length:=by omega
      have hkq:k < q:=by omega
      obtain ⟨gb,go,hga,hgbl,e1⟩:=(HR.out.below HW.out).byte hkg
      subst hga
      have hlk:k < l.length:=by rw [HLQ.out];omega
      have hgt:(garbTo l 0 g k)[k]?=some l[k]:=by simpa using garbTo_get g hl1
      have HN0:Hid (garbTo l 0 g (k+1)=(garbTo l 0 g k).set k (l[k] ^^^ g[k])):=by show _=_;simpa using garbTo_next hl1 hkg
      have HGL:Hid (k < (garbTo l 0 g k).length):=(List.getElem?_eq_some_iff.1 hgt).1
      have e0:wr.cell? ⟨w.heap.size,k,none⟩=some (.int .u8 (l[k].toNat:Int)):=by
        have h:=HA.out k _ (bV_get _ _ HGL.out)
        rw [Nat.zero_add] at h
        rw [h]
        rw [List.getElem?_eq_getElem HGL.out] at hgt
        injection hgt with hgt;rw [hgt]
      clear hgt
      have f0:wr.frozen? ⟨w.heap.size,k,none⟩=false:=by have:=(HT.out k hkq).2;rwa [Nat.zero_add] at this
      have i1:(0:Int)≤(k:Int):=by omega
      have i2:(k:Int) < (S.size:Int):=by rw [HSQ.out];omega
      have i4:(k:Int) < (g.length:Int):=by omega
      obtain ⟨z,hz⟩:∃ z,z=l[k] ^^^ g[k]:=⟨_,rfl⟩
      have hxr:bits .xor .u8 (l[k].toNat:Int) (g[k].toNat:Int)=(z.toNat:Int):=by rw [hz,u8_xor_nat _ _ l[k].toNat_lt g[k].toNat_lt,UInt8.toNat_xor]
      have HN:Hid (garbTo l 0 g (k+1)=(garbTo l 0 g k).set k z):=by show _=_;rw [HN0.out,hz]
      clear hz HN0 hl1
      generalize l[k]=x at *
      generalize g[k]=y at *
      go_wp2_with fail
      go_region
      all_goals
        go_wp2_with fail
        go_roundw
        case rel=>exact ⟨k+1,by go_num,by omega,by rw [HN.out];exact range_set HA.out _ HGL.out z,fun j hj=>(World.there_setCells HT.out w.heap.size k [.int .u8 (z.toNat:Int)]) j hj,by simp;exact hgs,(Below_drew HW.out).setCell (Nat.le_refl _) _⟩
        case measure=>simp [intOf];omega
    · have HE:Hid (garbTo l 0 g k=xorL l g):=by show _=_;rw [garbTo_end (by rw [HLQ.out];omega)];rfl
      have HRD:=Lib.hid (Rd_range HA.out hgs)
      have HGL:Hid (S.size=(garbTo l 0 g k).length):=by show _=_;rw [garbTo_length (Nat.zero_le _),HLQ.out,HSQ.out]
      have hcv:=run_string_rd (P:=Tryz.prog) wr 38 9 5 Tryz.underlying38 Tryz.underlying5 Tryz.underlying9 (l:=garbTo l 0 g k) S.size (grownCap w S.size 0 5) HRD.out HGL.out
      go_wp2_with fail
      go_ret
      exact ⟨by rw [HE.out];rfl,HW.out⟩
end Go.Proofs.YtccbpngehedbaaaGreat

namespace Go.Proofs.YtccbpngehedbaaaGreat
open Go Go.RowKit Go.Sort

/-! The landed file system: what a crash leaves of an unsafe number. -/
set_option maxRecDepth 20000 in
set_option maxHeartbeats 4000000 in
theorem first_any (s:ByteArray) (base:Nat) (keep:Bool) (count:Int) (ga:Option Addr) (gc:Nat) (g:List UInt8) (w:World) (hr:Rd w w.heap.size ga (bV g)) (hb:base≤s.size) (hs:s.size≤1000000000) (hgl:g.length≤maxLen) (hc1:-9223372036854775808≤count) (hc2:count≤9223372036854775807) :
    Calls Tryz.prog 78 #[.string s,.int .i64 (base:Int),.agg #[.bool keep,.int .i64 count,.slice ga g.length gc]] w fun e w'=>e=.returned (.string (bs (partF s.data.toList base count g)))∧Below w.heap.size w w':=by
  have HR:=Lib.hid hr;clear hr
  obtain ⟨C,hC⟩:∃ C:Nat,(if count < 0 then (0:Int) else count)=(C:Int):=⟨(max count 0).toNat,by split <;> omega⟩
  have hC2:max count 0=(C:Int):=by rw [← hC];split <;> omega
  have hCm:C=(max count 0).toNat:=by split at hC <;> omega
  obtain ⟨D,hD⟩:∃ D:Nat,(if (s.size:Int) - (base:Int) < (C:Int) then (s.size:Int) - (base:Int) else (C:Int))=(D:Int):=⟨min C (s.size - base),by split <;> omega⟩
  have hD2:min (C:Int) ((s.size:Int) - (base:Int))=(D:Int):=by rw [← hD];split <;> omega
  have hDm:D=min C (s.size - base):=by split at hD <;> omega
  obtain ⟨q,hq⟩:∃ q:Nat,(base:Int)+(D:Int)=(q:Int):=⟨base+D,by omega⟩
  obtain ⟨F,hF⟩:∃ F:Nat,(if (base:Int) < (q:Int) - 16 then (q:Int) - 16 else (base:Int))=(F:Int):=⟨max (q - 16) base,by split <;> omega⟩
  have hF2:max (base:Int) ((q:Int) - 16)=(F:Int):=by rw [← hF];split <;> omega
  have hFm:F=max (q - 16) base:=by split at hF <;> omega
  have hqs:q≤s.size:=by omega
  have hFq:F≤q:=by omega
  have hP:=partF_is (s:=s.data.toList) (base:=base) (count:=count) (g:=g) (q:=q) (F:=F) (by rw [data_length];omega) (by rw [List.length_take,data_length];omega)
  have HP:=Lib.hid hP
  clear hP hCm hDm hFm
  obtain ⟨A,hA⟩:∃ A,A=s.extract 0 F:=⟨_,rfl⟩
  obtain ⟨E,hE⟩:∃ E,E=s.extract F q:=⟨_,rfl⟩
  have hAs:A.size=F:=by rw [hA,ByteArray.size_extract];omega
  have hEs:E.size=q - F:=by rw [hE,ByteArray.size_extract];omega
  have HAL:Hid (A.data.toList=s.data.toList.take F):=by show _=_;rw [hA];simp [ByteArray.data_extract]
  have HEL:Hid (E.data.toList=(s.data.toList.take q).drop F):=by show _=_;rw [hE,ByteArray.data_extract,Array.toList_extract];simp [List.extract_eq_take_drop,List.drop_take]
  have hadd:∀ w,(Op.stringOp .add A (bs (xorL E.data.toList g))).run Tryz.prog w=.ok (.string (A ++ bs (xorL E.data.toList g))) w:=fun w=>run_string_add_sum w _ _ (by rw [bs_size,xorL_length,data_length];omega)
  have HRES:Hid (A ++ bs (xorL E.data.toList g)=bs (partF s.data.toList base count g)):=by
    show _=_
    rw [HP.out,HEL.out,List.take_take,show min F q=F by omega,← HAL.out,← bs_append,bs_of]
  have hex1:=hA.symm
  have hex2:=hE.symm
  have HES:=Lib.hid hEs
  clear hA hE hAs
  have i0:(0:Int)≤(F:Int):=by omega
  have i1:(F:Int)≤(s.size:Int):=by omega
  have i2:(F:Int)≤(q:Int):=by omega
  have i3:(q:Int)≤(s.size:Int):=by omega
  go_enter Tryz.func78,Tryz.ntmps78
  go_wp2_with fail
  have k2:∀ d os,(grow (redrawn (w.alloc (.cells #[.bool keep,.int .i64 count,.slice ga g.length gc] 111)) d) os).cell? ⟨w.heap.size,2,none⟩=some (.slice ga g.length gc):=fun d os=>cell_regrown (by go_simp) d os
  have HBA:=Lib.hid (box1 w (.cells #[.bool keep,.int .i64 count,.slice ga g.length gc] 111))
  have HRA:=Lib.hid ((HR.out.below HBA.out).more HBA.out.size)
  generalize (w.alloc (.cells #[.bool keep,.int .i64 count,.slice ga g.length gc] 111))=W at *
  refine wp_region_quiet_below (by kernel_rfl) (by kernel_rfl) ?_
  iterate 12 (first | go_big_quiet_step (first
    | (go_at_call 104;with_reducible (show Calls Tryz.prog 104 #[.string E,.slice ga g.length gc] _ _);exact Calls.regrown_of (garb_any E ga gc g _ ((HRA.out.below (below_regrown W _ _)).more (below_regrown W _ _).size) (by omega) hgl))) | fail)
  refine wpQuiet_nil ?_
  intro W3 hw'
  obtain ⟨⟨d,os⟩,hw''⟩:=hw'
  have hb3:=below_regrown W d os
  rw [← hw''] at hb3
  clear hw'' k2
  have HB3:=Lib.hid (HBA.out.trans (hb3.mono HBA.out.size));clear hb3
  go_wp2_with fail
  go_ret
  exact ⟨by rw [← HRES.out];rfl,HB3.out⟩
end Go.Proofs.YtccbpngehedbaaaGreat

namespace Go.Proofs.YtccbpngehedbaaaGreat
open Go Go.RowKit Go.Sort

/-! The landed file system: what a crash leaves of an unsafe number, whole. -/
theorem size_st:(Tryz.prog.info? 80).map (·.size)=some 2:=by kernel_rfl
theorem load_stA (W:World) (b:Nat) (cs:Array Value) (ht:W.there b 0 cs.size) (hc:cs.size=2):(loadVar 80 ⟨b,0,none⟩).run Tryz.prog (W.setCells b 0 cs.toList)=.ok (.agg cs) (W.setCells b 0 cs.toList) :=
  run_loadVar_mid (P:=Tryz.prog) _ b 0 80 _ _ (World.rangeAt_setCells_same W b 0 cs.toList ht) Tryz.underlying80 rfl (by rw [size_st];simp [hc])
theorem load_stS (W:World) (b:Nat) (u v:Value) (ht:W.there b 0 2):(loadVar 80 ⟨b,0,none⟩).run Tryz.prog ((W.setCell ⟨b,0,none⟩ u).setCell ⟨b,1,none⟩ v)=.ok (.agg #[u,v]) ((W.setCell ⟨b,0,none⟩ u).setCell ⟨b,1,none⟩ v) :=
  load_stA W b #[u,v] ht rfl
theorem load_st (W:World) (u v:Value) (n:Nat) (hn:n=W.heap.size):(loadVar 80 ⟨n,0,none⟩).run Tryz.prog (W.alloc (.cells #[u,v] 80))=.ok (.agg #[u,v]) (W.alloc (.cells #[u,v] 80)):=by
  have h:=run_loadVar_mid (P:=Tryz.prog) _ n 0 80 _ _ (rangeAt_last W #[u,v] 80 n hn) Tryz.underlying80 rfl size_st
  exact h
theorem there2 {w:World} {b:Nat} (h:w.there b 0 2):w.frozen? ⟨b,0,none⟩=false∧w.frozen? ⟨b,1,none⟩=false∧∃ u0 u1,w.cell? ⟨b,0,none⟩=some u0∧w.cell? ⟨b,1,none⟩=some u1:=by
  obtain ⟨a0,f0⟩:=h 0 (by omega)
  obtain ⟨a1,f1⟩:=h 1 (by omega)
  obtain ⟨u0,h0⟩:=Option.isSome_iff_exists.1 a0
  obtain ⟨u1,h1⟩:=Option.isSome_iff_exists.1 a1
  exact ⟨f0,f1,u0,u1,h0,h1⟩
theorem comm_is {a b:ByteArray} {K:Nat} (hK:commonF a.data.toList b.data.toList=K) (w:World) (ha:a.size≤1000000000000) (hb:b.size≤1000000000000) :
    Calls Tryz.prog 79 #[.string a,.string b] w fun e w'=>e=.returned (.int .i64 (K:Nat))∧Below w.heap.size w w':=by subst hK;exact comm_any a b w ha hb
theorem first_is {s:ByteArray} {base:Nat} {count:Int} {g:List UInt8} {T:ByteArray} (hT:bs (partF s.data.toList base count g)=T) (keep:Bool) (ga:Option Addr) (gc:Nat) (w:World) (hr:Rd w w.heap.size ga (bV g)) (hb:base≤s.size) (hs:s.size≤1000000000) (hgl:g.length≤maxLen) (hc1:-9223372036854775808≤count) (hc2:count≤9223372036854775807) :
    Calls Tryz.prog 78 #[.string s,.int .i64 (base:Int),.agg #[.bool keep,.int .i64 count,.slice ga g.length gc]] w fun e w'=>e=.returned (.string T)∧Below w.heap.size w w':=by
  subst hT;exact first_any s base keep count ga gc g w hr hb hs hgl hc1 hc2
set_option maxRecDepth 20000 in
set_option maxHeartbeats 8000000 in
theorem leftOf_any (x : Fl) (hx : OkX x) (t : Ft) (w : World) (hr : Rd w w.heap.size t.ga (bV t.g)) (hs1 : x.now.size ≤ 1000000000) (hs2 : x.safe.size ≤ 1000000000) (hgl : t.g.length ≤ maxLen) (hc1 : -9223372036854775808 ≤ t.bytes) (hc2 : t.bytes ≤ 9223372036854775807) :
    Calls Tryz.prog 52 #[flV x,t.v] w fun e w'=>e=.returned (.agg #[.bool (leftF x t).there,.string (leftF x t).now])∧Below w.heap.size w w':=by
  have HR:=Lib.hid hr;clear hr
  obtain ⟨n,th,kt,nw,sf⟩:=x
  obtain ⟨kp,tb,ga,gc,g⟩:=t
  simp only at *
  obtain ⟨hx1,hx2⟩:=hx
  simp only at hx1 hx2
  unfold flV Ft.v
  simp only
  obtain ⟨K,hK⟩:∃ K,commonF nw.data.toList sf.data.toList=K:=⟨_,rfl⟩
  have HKL:Hid (K≤nw.size):=by show _≤_;rw [← hK,← data_length nw];exact (common_le _ _).1
  have HPR:=Lib.hid (pre_is nw sf)
  obtain ⟨T,hT⟩:∃ T,bs (partF nw.data.toList K tb g)=T:=⟨_,rfl⟩
  have HK:=Lib.hid hK;have HT:=Lib.hid hT
  rw [hK] at HPR
  have HB3:=Lib.hid (((box1 w (.cells #[.bool th,.string nw,.bool kt,.string sf] 82)).alloc (by simp) (.cells #[.bool kp,.int .i64 tb,.slice ga g.length gc] 111)).alloc (by simp;omega) (.cells #[.bool false,.string ⟨#[]⟩] 80))
  cases kt
  · have hsf:sf=⟨#[]⟩:=hx2 rfl
    have HSF:=Lib.hid hsf
    clear hx1 hx2 hsf
    cases kp
    · have HE:Hid (leftF ⟨n,th,false,nw,sf⟩ ⟨false,tb,ga,gc,g⟩=⟨n,false,false,⟨#[]⟩,⟨#[]⟩⟩):=by show _=_;simp [leftF];rfl
      go_enter Tryz.func52,Tryz.ntmps52
      go_wp2_with fail
      refine bodyPost_ret (v:=.agg #[.bool false,.string ⟨#[]⟩]) (results_cell (p:=4) (ty:=80) (b:=w.heap.size+1+1) rfl rfl (load_st _ _ _ _ (by simp))) rfl ⟨by rw [HE.out],HB3.out⟩
    · have hK0:K=0:=by rw [← hK,HSF.out];cases nw.data.toList <;> rfl
      have HE:Hid (leftF ⟨n,th,false,nw,sf⟩ ⟨true,tb,ga,gc,g⟩=⟨n,true,true,T,T⟩):=by show _=_;rw [← hT,hK0];simp [leftF]
      clear hK0 hK hT
      go_enter Tryz.func52,Tryz.ntmps52
      go_wp2_with fail
      obtain ⟨W,hW⟩:∃ W,W=(((w.alloc (.cells #[.bool th,.string nw,.bool false,.string sf] 82)).alloc (.cells #[.bool true,.int .i64 tb,.slice ga g.length gc] 111)).alloc (.cells #[.bool false,.string ⟨#[]⟩] 80)):=⟨_,rfl⟩
      have z1:W.cell? ⟨w.heap.size,1,none⟩=some (.string nw):=by rw [hW];go_simp
      have z2:W.cell? ⟨w.heap.size,3,none⟩=some (.string sf):=by rw [hW];go_simp
      have z3:W.cell? ⟨w.heap.size+1,0,none⟩=some (.bool true):=by rw [hW];go_simp
      have z4:W.cell? ⟨w.heap.size+1,1,none⟩=some (.int .i64 tb):=by rw [hW];go_simp
      have z5:W.cell? ⟨w.heap.size+1,2,none⟩=some (.slice ga g.length gc):=by rw [hW];go_simp
      have HTH:Hid (W.there (w.heap.size+1+1) 0 2):=by
        show W.there _ _ _;rw [hW]
        exact there_last _ _ _ _ 2 rfl (by simp)
      rw [← hW] at HB3
      have HSW:Hid (W.heap.size=w.heap.size+3):=by show _=_;rw [hW];simp
      rw [← hW]
      clear hW
      have k1:=fun d os=>cell_regrown z1 d os
      have k2:=fun d os=>cell_regrown z2 d os
      have k3:=fun d os=>cell_regrown z3 d os
      have k4:=fun d os=>cell_regrown z4 d os
      have k5:=fun d os=>cell_regrown z5 d os
      clear z1 z2 z3 z4 z5
      have HRW:=Lib.hid ((HR.out.below HB3.out).more HB3.out.size)
      refine wp_region_below_tail 13 (by kernel_rfl) (by kernel_rfl) ?_
      simp only [List.take_succ_cons,List.take_zero,List.drop_succ_cons,List.drop_zero]
      iterate 13 (first | go_big_quiet_step (first
        | (go_at_call 79;with_reducible (show Calls Tryz.prog 79 #[.string nw,.string sf] _ _);exact Calls.regrown_of (comm_is HK.out _ (by omega) (by omega)))
        | (go_at_call 78;with_reducible (show Calls Tryz.prog 78 #[.string nw,.int .i64 (K:Int),.agg #[.bool true,.int .i64 tb,.slice ga g.length gc]] _ _);exact Calls.regrown_of (first_is HT.out true ga gc _ ((HRW.out.below (below_regrown W _ _)).more (below_regrown W _ _).size) HKL.out (by omega) hgl hc1 hc2))) | fail)
      refine wpQuiet_nil ?_
      intro W3 hw'
      obtain ⟨⟨d,os⟩,hw''⟩:=hw'
      have hb3:=below_regrown W d os
      rw [← hw''] at hb3
      clear hw'' k1 k2 k3 k4 k5
      have HT3:Hid (W3.there (w.heap.size+1+1) 0 2):=there_below HTH.out hb3 (by have:=HSW.out;omega)
      have HB4:=Lib.hid (HB3.out.trans (hb3.mono HB3.out.size));clear hb3
      obtain ⟨f0,f1,u0,u1,c0,c1⟩:=there2 HT3.out
      go_wp2_with fail
      refine bodyPost_ret (v:=.agg #[.bool true,.string T]) (results_cell (p:=4) (ty:=80) (b:=w.heap.size+1+1) rfl rfl (load_stS W3 (w.heap.size+1+1) (.bool true) (.string T) HT3.out)) rfl ⟨by rw [HE.out],(HB4.out.setCell (by show w.heap.size≤w.heap.size+1+1;omega) _).setCell (by show w.heap.size≤w.heap.size+1+1;omega) _⟩
  · clear hx1 hx2
    cases th
    · cases kp
      · have HE:Hid (leftF ⟨n,false,true,nw,sf⟩ ⟨false,tb,ga,gc,g⟩=⟨n,true,true,sf,sf⟩):=by show _=_;simp [leftF]
        go_enter Tryz.func52,Tryz.ntmps52
        go_wp2_with fail
        refine bodyPost_ret (v:=.agg #[.bool true,.string sf]) (results_cell (p:=4) (ty:=80) (b:=w.heap.size+1+1) rfl rfl (load_st _ _ _ _ (by simp))) rfl ⟨by rw [HE.out],((box1 w _).alloc (by simp) _).alloc (by simp;omega) _⟩
      · have HE:Hid (leftF ⟨n,false,true,nw,sf⟩ ⟨true,tb,ga,gc,g⟩=⟨n,false,false,⟨#[]⟩,⟨#[]⟩⟩):=by show _=_;simp [leftF];rfl
        go_enter Tryz.func52,Tryz.ntmps52
        go_wp2_with fail
        refine bodyPost_ret (v:=.agg #[.bool false,.string ⟨#[]⟩]) (results_cell (p:=4) (ty:=80) (b:=w.heap.size+1+1) rfl rfl (load_st _ _ _ _ (by simp))) rfl ⟨by rw [HE.out],HB3.out⟩
    · by_cases hp:K=sf.size
      · have HE:Hid (leftF ⟨n,true,true,nw,sf⟩ ⟨kp,tb,ga,gc,g⟩=⟨n,true,true,T,T⟩):=by
          show _=_
          unfold leftF
          simp only [hK,hT]
          simp [hp]
        have HP:Hid (pre nw sf=true):=by show _=_;rw [HPR.out];exact decide_eq_true hp
        clear hK hT hp
        go_enter Tryz.func52,Tryz.ntmps52
        go_wp2_with fail
        refine (prefix_any nw sf _).mono ?_
        rintro e w5 ⟨rfl,rfl⟩
        rw [HP.out]
        go_wp2_with fail
        obtain ⟨W,hW⟩:∃ W,W=(((w.alloc (.cells #[.bool true,.string nw,.bool true,.string sf] 82)).alloc (.cells #[.bool kp,.int .i64 tb,.slice ga g.length gc] 111)).alloc (.cells #[.bool false,.string ⟨#[]⟩] 80)):=⟨_,rfl⟩
        have z1:W.cell? ⟨w.heap.size,1,none⟩=some (.string nw):=by rw [hW];go_simp
        have z2:W.cell? ⟨w.heap.size,3,none⟩=some (.string sf):=by rw [hW];go_simp
        have z3:W.cell? ⟨w.heap.size+1,0,none⟩=some (.bool kp):=by rw [hW];go_simp
        have z4:W.cell? ⟨w.heap.size+1,1,none⟩=some (.int .i64 tb):=by rw [hW];go_simp
        have z5:W.cell? ⟨w.heap.size+1,2,none⟩=some (.slice ga g.length gc):=by rw [hW];go_simp
        have HTH:Hid (W.there (w.heap.size+1+1) 0 2):=by
          show W.there _ _ _;rw [hW]
          exact there_last _ _ _ _ 2 rfl (by simp)
        rw [← hW] at HB3
        have HSW:Hid (W.heap.size=w.heap.size+3):=by show _=_;rw [hW];simp
        rw [← hW]
        clear hW
        have k1:=fun d os=>cell_regrown z1 d os
        have k2:=fun d os=>cell_regrown z2 d os
        have k3:=fun d os=>cell_regrown z3 d os
        have k4:=fun d os=>cell_regrown z4 d os
        have k5:=fun d os=>cell_regrown z5 d os
        clear z1 z2 z3 z4 z5
        have HRW:=Lib.hid ((HR.out.below HB3.out).more HB3.out.size)
        refine wp_region_below_tail 13 (by kernel_rfl) (by kernel_rfl) ?_
        simp only [List.take_succ_cons,List.take_zero,List.drop_succ_cons,List.drop_zero]
        iterate 13 (first | go_big_quiet_step (first
          | (go_at_call 79;with_reducible (show Calls Tryz.prog 79 #[.string nw,.string sf] _ _);exact Calls.regrown_of (comm_is HK.out _ (by omega) (by omega)))
          | (go_at_call 78;with_reducible (show Calls Tryz.prog 78 #[.string nw,.int .i64 (K:Int),.agg #[.bool kp,.int .i64 tb,.slice ga g.length gc]] _ _);exact Calls.regrown_of (first_is HT.out kp ga gc _ ((HRW.out.below (below_regrown W _ _)).more (below_regrown W _ _).size) HKL.out (by omega) hgl hc1 hc2))) | fail)
        refine wpQuiet_nil ?_
        intro W3 hw'
        obtain ⟨⟨d,os⟩,hw''⟩:=hw'
        have hb3:=below_regrown W d os
        rw [← hw''] at hb3
        clear hw'' k1 k2 k3 k4 k5
        have HT3:Hid (W3.there (w.heap.size+1+1) 0 2):=there_below HTH.out hb3 (by have:=HSW.out;omega)
        have HB4:=Lib.hid (HB3.out.trans (hb3.mono HB3.out.size));clear hb3
        obtain ⟨f0,f1,u0,u1,c0,c1⟩:=there2 HT3.out
        go_wp2_with fail
        refine bodyPost_ret (v:=.agg #[.bool true,.string T]) (results_cell (p:=4) (ty:=80) (b:=w.heap.size+1+1) rfl rfl (load_stS W3 (w.heap.size+1+1) (.bool true) (.string T) HT3.out)) rfl ⟨by rw [HE.out],(HB4.out.setCell (by show w.heap.size≤w.heap.size+1+1;omega) _).setCell (by show w.heap.size≤w.heap.size+1+1;omega) _⟩
      · have HP:Hid (pre nw sf=false):=by show _=_;rw [HPR.out];exact decide_eq_false hp
        have hlt:K < sf.size:=by have:=(common_le nw.data.toList sf.data.toList).2;rw [hK,data_length] at this;omega
        cases kp
        · have HE:Hid (leftF ⟨n,true,true,nw,sf⟩ ⟨false,tb,ga,gc,g⟩=⟨n,true,true,sf,sf⟩):=by
            show _=_
            unfold leftF
            simp only [hK]
            simp [hlt]
          clear hK hT hp hlt
          go_enter Tryz.func52,Tryz.ntmps52
          go_wp2_with fail
          refine (prefix_any nw sf _).mono ?_
          rintro e w5 ⟨rfl,rfl⟩
          rw [HP.out]
          go_wp2_with fail
          refine bodyPost_ret (v:=.agg #[.bool true,.string sf]) (results_cell (p:=4) (ty:=80) (b:=w.heap.size+1+1) rfl rfl (load_st _ _ _ _ (by simp))) rfl ⟨by rw [HE.out],((box1 w _).alloc (by simp) _).alloc (by simp;omega) _⟩
        · have HE:Hid (leftF ⟨n,true,true,nw,sf⟩ ⟨true,tb,ga,gc,g⟩=⟨n,true,true,T,T⟩):=by
            show _=_
            unfold leftF
            simp only [hK,hT]
            simp
          clear hK hT hp hlt
          go_enter Tryz.func52,Tryz.ntmps52
          go_wp2_with fail
          refine (prefix_any nw sf _).mono ?_
          rintro e w5 ⟨rfl,rfl⟩
          rw [HP.out]
          go_wp2_with fail
          obtain ⟨W,hW⟩:∃ W,W=(((w.alloc (.cells #[.bool true,.string nw,.bool true,.string sf] 82)).alloc (.cells #[.bool true,.int .i64 tb,.slice ga g.length gc] 111)).alloc (.cells #[.bool false,.string ⟨#[]⟩] 80)):=⟨_,rfl⟩
          have z1:W.cell? ⟨w.heap.size,1,none⟩=some (.string nw):=by rw [hW];go_simp
          have z2:W.cell? ⟨w.heap.size,3,none⟩=some (.string sf):=by rw [hW];go_simp
          have z3:W.cell? ⟨w.heap.size+1,0,none⟩=some (.bool true):=by rw [hW];go_simp
          have z4:W.cell? ⟨w.heap.size+1,1,none⟩=some (.int .i64 tb):=by rw [hW];go_simp
          have z5:W.cell? ⟨w.heap.size+1,2,none⟩=some (.slice ga g.length gc):=by rw [hW];go_simp
          have HTH:Hid (W.there (w.heap.size+1+1) 0 2):=by
            show W.there _ _ _;rw [hW]
            exact there_last _ _ _ _ 2 rfl (by simp)
          rw [← hW] at HB3
          have HSW:Hid (W.heap.size=w.heap.size+3):=by show _=_;rw [hW];simp
          rw [← hW]
          clear hW
          have k1:=fun d os=>cell_regrown z1 d os
          have k2:=fun d os=>cell_regrown z2 d os
          have k3:=fun d os=>cell_regrown z3 d os
          have k4:=fun d os=>cell_regrown z4 d os
          have k5:=fun d os=>cell_regrown z5 d os
          clear z1 z2 z3 z4 z5
          have HRW:=Lib.hid ((HR.out.below HB3.out).more HB3.out.size)
          refine wp_region_below_tail 13 (by kernel_rfl) (by kernel_rfl) ?_
          simp only [List.take_succ_cons,List.take_zero,List.drop_succ_cons,List.drop_zero]
          iterate 13 (first | go_big_quiet_step (first
            | (go_at_call 79;with_reducible (show Calls Tryz.prog 79 #[.string nw,.string sf] _ _);exact Calls.regrown_of (comm_is HK.out _ (by omega) (by omega)))
            | (go_at_call 78;with_reducible (show Calls Tryz.prog 78 #[.string nw,.int .i64 (K:Int),.agg #[.bool true,.int .i64 tb,.slice ga g.length gc]] _ _);exact Calls.regrown_of (first_is HT.out true ga gc _ ((HRW.out.below (below_regrown W _ _)).more (below_regrown W _ _).size) HKL.out (by omega) hgl hc1 hc2))) | fail)
          refine wpQuiet_nil ?_
          intro W3 hw'
          obtain ⟨⟨d,os⟩,hw''⟩:=hw'
          have hb3:=below_regrown W d os
          rw [← hw''] at hb3
          clear hw'' k1 k2 k3 k4 k5
          have HT3:Hid (W3.there (w.heap.size+1+1) 0 2):=there_below HTH.out hb3 (by have:=HSW.out;omega)
          have HB4:=Lib.hid (HB3.out.trans (hb3.mono HB3.out.size));clear hb3
          obtain ⟨f0,f1,u0,u1,c0,c1⟩:=there2 HT3.out
          go_wp2_with fail
          refine bodyPost_ret (v:=.agg #[.bool true,.string T]) (results_cell (p:=4) (ty:=80) (b:=w.heap.size+1+1) rfl rfl (load_stS W3 (w.heap.size+1+1) (.bool true) (.string T) HT3.out)) rfl ⟨by rw [HE.out],(HB4.out.setCell (by show w.heap.size≤w.heap.size+1+1;omega) _).setCell (by show w.heap.size≤w.heap.size+1+1;omega) _⟩
end Go.Proofs.YtccbpngehedbaaaGreat

namespace Go.Proofs.YtccbpngehedbaaaGreat
open Go Go.RowKit Go.Maps Go.Sort

/-! The landed file system: a crash. -/
theorem leftOf_is {x:Fl} {t:Ft} {n:Nat} {tt:Bool} {nn:ByteArray} (hy:leftF x t=⟨n,tt,tt,nn,nn⟩) (hx:OkX x) (w:World) (hr:Rd w w.heap.size t.ga (bV t.g)) (hs1:x.now.size≤1000000000) (hs2:x.safe.size≤1000000000) (hgl:t.g.length≤maxLen) (hc1:-9223372036854775808≤t.bytes) (hc2:t.bytes≤9223372036854775807) :
    Calls Tryz.prog 52 #[flV x,t.v] w fun e w'=>e=.returned (.agg #[.bool tt,.string nn])∧Below w.heap.size w w':=by
  have h:=leftOf_any x hx t w hr hs1 hs2 hgl hc1 hc2
  rw [hy] at h
  exact h
theorem left_shape (x:Fl) (t:Ft):∃ tt nn,leftF x t=⟨x.n,tt,tt,nn,nn⟩:=⟨_,_,rfl⟩
theorem RdN.new {S:Nat→Prop} {w w':World} {a:Option Addr} {cs:List Value} (h:Rd w' w'.heap.size a cs) (hn:∀ b o s,a=some ⟨b,o,s⟩→w.heap.size≤b) (hS:∀ k,S k→k < w.heap.size):RdN S w' a cs:=fun h0=>by
  obtain ⟨b,off,ha,hb,hc⟩:=h h0
  exact ⟨b,off,ha,hb,fun hs=>by have h1:=hS b hs;have h2:=hn b off none ha;omega,hc⟩
theorem num_elem {w:World} {B:Nat} {a:Option Addr} {N:List Nat} (h:Rd w B a (u32V N)) {k:Nat} (hk:k < N.length):∃ b off,a=some ⟨b,off,none⟩∧b < B∧w.cell? ⟨b,off+k,none⟩=some (.int .u32 (N[k]:Int)):=by
  obtain ⟨b,off,ha,hb,hc⟩:=h (by rw [u32V_length];omega)
  exact ⟨b,off,ha,hb,hc k _ (by simp [u32V,hk])⟩
theorem FsL.back {w:World} {S R:Nat→Prop} {p:Nat} {m:FSm} (h:FsL w S R p m):FsL ((w.setCell ⟨p,1,none⟩ (.int .i64 (-1))).setCell ⟨p,2,none⟩ (.bool false)) S R p ⟨m.files,-1,false⟩∧Off S w ((w.setCell ⟨p,1,none⟩ (.int .i64 (-1))).setCell ⟨p,2,none⟩ (.bool false)):=by
  obtain ⟨b,fu,hne,hS,hR,hp,ho,h1,h2,h3,ok⟩:=h
  exact ⟨⟨b,-1,hne,hS,hR,set_heap (set_heap hp 1 _) 2 _,owns_move (owns_move ho (set_other _ _ hne)) (set_other _ _ hne),by omega,by omega,(by show (-1:Int)=max (-1) (-1);omega),ok.1,ok.2.1,(by show (-1:Int)≤-1;omega),(by show (-1:Int)≤9223372036854775807;omega)⟩,(set_off S w p 1 _ ((hS p).2 (.inl rfl))).trans (set_off S _ p 2 _ ((hS p).2 (.inl rfl)))⟩
set_option maxRecDepth 20000 in
set_option maxHeartbeats 8000000 in
theorem crash_any (w : World) (S R : Nat → Prop) (p : Nat) (m : FSm) (a : Option Addr) (c : Nat) (T : List Ft) (hF : FsL w S R p m) (hb : Bnd m) (hr : RdN S w a (flatG Ft.l T)) (_hT : T.length ≤ 1000000) (_hTc : T.length ≤ c) (_hcm : c ≤ maxLen)
    (ht:∀ t ∈ T,RdN S w t.ga (bV t.g)∧t.g.length≤t.gc∧t.gc≤maxLen∧-9223372036854775808≤t.bytes∧t.bytes≤9223372036854775807) :
    Calls Tryz.prog 19 #[.pointer (some ⟨p,0,none⟩),.slice a T.length c] w fun e w'=>e=.returned (.tuple #[])∧FsL w' S R p (crashF m T)∧Off S w w':=by
  have HF:=Lib.hid hF;have HBN:=Lib.hid hb;have HR:=Lib.hid hr;have HT:=Lib.hid ht;have HK32:=Lib.hid hF.u32
  clear hF hr ht
  go_enter Tryz.func19,Tryz.ntmps19
  go_wp2_with fail
  refine (unsafe_any w S R p m HF.out (by have:=hb.1;omega)).mono ?_
  rintro e w1 ⟨a1,c1,rfl,h1,h2,h3,h4,h5⟩
  have HN1:=Lib.hid (RdN.new (S:=S) h3 h4 HF.out.low.1)
  have HF1:=Lib.hid (HF.out.below h5)
  have HB1:=Lib.hid h5
  obtain ⟨N,hN⟩:∃ N,N=numsF true m.files:=⟨_,rfl⟩
  have HNL:Hid (N.length≤1000000):=by show _≤_;rw [hN];exact Nat.le_trans (numsF_le _ _) HBN.out.1
  have HND:=Lib.hid hN
  have HN32:Hid (∀ n ∈ N,n < 4294967296):=fun n hn=>by
    rw [hN] at hn
    obtain ⟨y,hy,rfl,_⟩:=mem_nums.1 hn
    exact HK32.out y hy
  rw [← hN] at HN1 h1 ⊢
  have H2:=Lib.hid h2
  clear hN h1 h2 h3 h4 h5 hb
  go_wp2_with fail
  go_loopw [11] (fun i wr=>∃ k:Nat,k≤N.length∧i=.int .i64 k∧FsL wr S R p ⟨crashTo m.files T N k,m.fuse,m.down⟩∧Off S w1 wr) (fun i _=>N.length - (intOf i).toNat)
  case atStart=>exact ⟨0,Nat.zero_le _,rfl,HF1.out,Off.refl _ _⟩
  case round =>
    obtain ⟨k,hk,rfl,hfk,hok⟩:=hrel
    have HFK:=Lib.hid hfk;have HOK:=Lib.hid hok;clear hfk hok
    by_cases hlt:k < N.length
    · have HNR:=Lib.hid (HN1.out.off HOK.out (fun _ h=>.inl h))
      obtain ⟨b1,o1,ha1,hb1,en⟩:=num_elem HNR.out.rd hlt
      subst ha1
      have i1:(0:Int)≤(k:Int):=by omega
      have i2:(k:Int) < (N.length:Int):=by omega
      have hkb:k < 1000000:=by have:=HNL.out;omega
      have HOW:Hid (Off S w wr):=(Off.of_below HB1.out).trans HOK.out
      have HSK:Hid (∀ y ∈ crashTo m.files T N k,SzF 1000000000 y):=crashTo_sz T N HBN.out.2 k
      have HLK:Hid ((crashTo m.files T N k).length≤1000000000):=by show _≤_;have h1:=crashTo_le m.files T N k;have h2:=HBN.out.1;have h3:=HNL.out;omega
      have HN3:Hid (N[k] < 4294967296):=HN32.out _ (List.getElem_mem _)
      by_cases hkT:k < T.length
      · have HTK : Hid (T.getD k zeroT = T[k]) := by show _ = _; simp [List.getD, hkT]
        have HNX:=Lib.hid (crashTo_next m.files T N hlt T[k] HTK.out)
        have HTR:=Lib.hid (HT.out _ (List.getElem_mem hkT))
        have HRK:=Lib.hid (HR.out.off HOW.out (fun _ h=>.inl h))
        obtain ⟨bt,ot,hat,hbt,et⟩:=Rd.elemG Ft_len (by omega) HRK.out.rd hkT
        subst hat
        have HTG:=Lib.hid (HTR.out.1.off HOW.out (fun _ h=>.inl h))
        have HTI:=Lib.hid HTR.out.2
        clear HTR HTK
        generalize T[k]=t at *
        generalize N[k]=nn at *
        obtain ⟨kp,tb,ga,gc,g⟩:=t
        have e0:=et 0 _ rfl
        have e1:=et 1 _ rfl
        have e2:=et 2 _ rfl
        simp only [Nat.add_zero] at e0 e1 e2
        clear et
        have d2:decide (k < T.length)=true:=decide_eq_true hkT
        go_wp2_with fail
        obtain ⟨W,hW⟩:∃ W,W=(wr.alloc (.cells #[.bool kp,.int .i64 tb,.slice ga g.length gc] 111)):=⟨_,rfl⟩
        have hbW:RowKit.Below wr.heap.size wr W:=by rw [hW];exact box1 _ _
        have z3:W.cell? ⟨wr.heap.size,0,none⟩=some (.bool kp):=by rw [hW];go_simp
        have z4:W.cell? ⟨wr.heap.size,1,none⟩=some (.int .i64 tb):=by rw [hW];go_simp
        have z5:W.cell? ⟨wr.heap.size,2,none⟩=some (.slice ga g.length gc):=by rw [hW];go_simp
        have HSW:Hid (W.heap.size=wr.heap.size+1):=by show _=_;rw [hW];simp
        have hsW:wr.heap.size < W.heap.size:=by rw [hW];simp
        have HFW:=Lib.hid (HFK.out.below hbW)
        have HBW:=Lib.hid hbW
        have HGW:Hid (Rd W W.heap.size ga (bV g)):=(HTG.out.rd.below hbW).more hbW.size
        obtain ⟨bm,fu,c0,_,_,_,_,ho,_,_,_,hpl,hSp⟩:=HFW.out.cells
        obtain ⟨Lk,hLk⟩:∃ Lk,Lk=crashTo m.files T N k:=⟨_,rfl⟩
        rw [← hLk] at HSK HLK HNX HFW ho
        have HLKE:=Lib.hid hLk
        have hlk:=fun w' (h:RowKit.Below W.heap.size W w')=>look_any (owns_move ho (h.block bm ho.lt)) HFW.out.ok.1 HN3.out
        have HX1:=Lib.hid (get_okx HFW.out.ok.2.1 nn)
        have HX2:=Lib.hid (get_sz HSK.out nn)
        have HX3:=Lib.hid (getF_n Lk nn)
        simp only at hlk
        generalize getF Lk nn=x at *
        obtain ⟨tt,nw,hy⟩:=left_shape x ⟨kp,tb,ga,gc,g⟩
        rw [hy,HX3.out] at HNX
        have HY:=Lib.hid hy
        have HYO:Hid (OkX ⟨nn,tt,tt,nw,nw⟩):=by have:=left_okx x ⟨kp,tb,ga,gc,g⟩;rw [hy,HX3.out] at this;exact this
        clear hy hLk ho hbW
        rw [← hW]
        clear hW
        have k0:∀ w',RowKit.Below W.heap.size W w'→w'.cell? ⟨p,0,none⟩=some (.map (some bm)):=fun w' h=>(h.cell (p:=⟨p,0,none⟩) hpl).trans c0
        have k3:∀ w',RowKit.Below W.heap.size W w'→w'.cell? ⟨wr.heap.size,0,none⟩=some (.bool kp):=fun w' h=>(h.cell (p:=⟨wr.heap.size,0,none⟩) hsW).trans z3
        have k4:∀ w',RowKit.Below W.heap.size W w'→w'.cell? ⟨wr.heap.size,1,none⟩=some (.int .i64 tb):=fun w' h=>(h.cell (p:=⟨wr.heap.size,1,none⟩) hsW).trans z4
        have k5:∀ w',RowKit.Below W.heap.size W w'→w'.cell? ⟨wr.heap.size,2,none⟩=some (.slice ga g.length gc):=fun w' h=>(h.cell (p:=⟨wr.heap.size,2,none⟩) hsW).trans z5
        clear c0 z3 z4 z5
        unfold flV at hlk
        go_region_held_law (fun w'=>RowKit.Below W.heap.size W w') (first | assumption | exact HB5.out | exact Below_drew (Below.refl _ _) | exact (Below_drew (Below.refl _ _)).alloc (by simp) _ | exact HB5.out.alloc HB5.out.size _ | exact (HB5.out.setCell (Nat.le_refl _) _).setCell (Nat.le_refl _) _) (first
          | (go_simp
             go_at_call 52
             refine (leftOf_is HY.out HX1.out _ ((HGW.out.below (Below_drew (Below.refl _ _))).more (Nat.le_refl _)) HX2.out.1 HX2.out.2 (Nat.le_trans HTI.out.1 HTI.out.2.1) HTI.out.2.2.1 HTI.out.2.2.2).mono ?_
             rintro e w5 ⟨rfl,hb5⟩
             have HB5:Hid (RowKit.Below W.heap.size W w5):=(Below_drew (Below.refl _ _)).trans hb5
             have HD5:=Lib.hid hb5
             clear hb5)
          | (go_simp
             go_at_call 52
             refine (leftOf_is HY.out HX1.out _ ((HGW.out.below ((Below_drew (Below.refl _ _)).alloc (by simp) _)).more (by simp)) HX2.out.1 HX2.out.2 (Nat.le_trans HTI.out.1 HTI.out.2.1) HTI.out.2.2.1 HTI.out.2.2.2).mono ?_
             rintro e w5 ⟨rfl,hb5⟩
             have HB5:Hid (RowKit.Below W.heap.size W w5):=((Below_drew (Below.refl _ _)).alloc (by simp) _).trans (hb5.mono (by simp))
             have HD5:=Lib.hid hb5
             have m0:w5.cell? ⟨W.heap.size,0,none⟩=some (.bool false):=(hb5.cell (p:=⟨W.heap.size,0,none⟩) (by simp)).trans (by go_simp)
             have m1:w5.cell? ⟨W.heap.size,1,none⟩=some (.string ⟨#[]⟩):=(hb5.cell (p:=⟨W.heap.size,1,none⟩) (by simp)).trans (by go_simp)
             have f0:w5.frozen? ⟨W.heap.size,0,none⟩=false:=(hb5.frozen (p:=⟨W.heap.size,0,none⟩) (by simp)).trans (by go_simp)
             have f1:w5.frozen? ⟨W.heap.size,1,none⟩=false:=(hb5.frozen (p:=⟨W.heap.size,1,none⟩) (by simp)).trans (by go_simp)
             clear hb5))
        all_goals
          clear hlk k0 k3 k4 k5
          obtain ⟨V,hV,hBV⟩:∃ V,V=_∧RowKit.Below W.heap.size W V:=⟨_,rfl,by assumption⟩
          have HBV:=Lib.hid hBV
          have HVV:=Lib.hid hV
          clear hBV
          go_wp2_with fail
          refine (putK_any _ S R p ⟨Lk,m.fuse,m.down⟩ ⟨nn,tt,tt,nw,nw⟩ (HFW.out.below (by rw [← HVV.out];exact HBV.out)) HYO.out HN3.out HLK.out).mono ?_
          rintro e w6 ⟨rfl,hF6,hO6⟩
          rw [← HVV.out] at hO6
          have HF6:=Lib.hid hF6;have HO6:=Lib.hid hO6
          clear hF6 hO6 hV
          go_wp2_with fail
          go_roundw
          case rel=>exact ⟨k+1,by omega,by go_num,by rw [HNX.out];exact HF6.out,((HOK.out.trans (Off.of_below HBW.out)).trans (Off.of_below HBV.out)).trans HO6.out⟩
          case measure=>simp [intOf];omega
      · have HTK : Hid (T.getD k zeroT = zeroT) := by show _ = _; simp [List.getD, hkT]
        have HNX:=Lib.hid (crashTo_next m.files T N hlt ⟨false,0,none,0,[]⟩ HTK.out)
        clear HTK
        generalize N[k]=nn at *
        have d2:decide (k < T.length)=false:=decide_eq_false hkT
        go_wp2_with fail
        obtain ⟨W,hW⟩:∃ W,W=(wr.alloc (.cells #[.bool false,.int .i64 0,.slice none 0 0] 111)):=⟨_,rfl⟩
        have hbW:RowKit.Below wr.heap.size wr W:=by rw [hW];exact box1 _ _
        have z3:W.cell? ⟨wr.heap.size,0,none⟩=some (.bool false):=by rw [hW];go_simp
        have z4:W.cell? ⟨wr.heap.size,1,none⟩=some (.int .i64 0):=by rw [hW];go_simp
        have z5:W.cell? ⟨wr.heap.size,2,none⟩=some (.slice none 0 0):=by rw [hW];go_simp
        have HSW:Hid (W.heap.size=wr.heap.size+1):=by show _=_;rw [hW];simp
        have hsW:wr.heap.size < W.heap.size:=by rw [hW];simp
        have HFW:=Lib.hid (HFK.out.below hbW)
        have HBW:=Lib.hid hbW
        have HGW:Hid (Rd W W.heap.size none (bV ([]:List UInt8))):=Rd.nil _ _ _
        obtain ⟨bm,fu,c0,_,_,_,_,ho,_,_,_,hpl,hSp⟩:=HFW.out.cells
        obtain ⟨Lk,hLk⟩:∃ Lk,Lk=crashTo m.files T N k:=⟨_,rfl⟩
        rw [← hLk] at HSK HLK HNX HFW ho
        have HLKE:=Lib.hid hLk
        have hlk:=fun w' (h:RowKit.Below W.heap.size W w')=>look_any (owns_move ho (h.block bm ho.lt)) HFW.out.ok.1 HN3.out
        have HX1:=Lib.hid (get_okx HFW.out.ok.2.1 nn)
        have HX2:=Lib.hid (get_sz HSK.out nn)
        have HX3:=Lib.hid (getF_n Lk nn)
        simp only at hlk
        generalize getF Lk nn=x at *
        obtain ⟨tt,nw,hy⟩:=left_shape x ⟨false,0,none,0,([]:List UInt8)⟩
        rw [hy,HX3.out] at HNX
        have HY:=Lib.hid hy
        have HYO:Hid (OkX ⟨nn,tt,tt,nw,nw⟩):=by have:=left_okx x ⟨false,0,none,0,([]:List UInt8)⟩;rw [hy,HX3.out] at this;exact this
        clear hy hLk ho hbW
        rw [← hW]
        clear hW
        have k0:∀ w',RowKit.Below W.heap.size W w'→w'.cell? ⟨p,0,none⟩=some (.map (some bm)):=fun w' h=>(h.cell (p:=⟨p,0,none⟩) hpl).trans c0
        have k3:∀ w',RowKit.Below W.heap.size W w'→w'.cell? ⟨wr.heap.size,0,none⟩=some (.bool false):=fun w' h=>(h.cell (p:=⟨wr.heap.size,0,none⟩) hsW).trans z3
        have k4:∀ w',RowKit.Below W.heap.size W w'→w'.cell? ⟨wr.heap.size,1,none⟩=some (.int .i64 0):=fun w' h=>(h.cell (p:=⟨wr.heap.size,1,none⟩) hsW).trans z4
        have k5:∀ w',RowKit.Below W.heap.size W w'→w'.cell? ⟨wr.heap.size,2,none⟩=some (.slice none 0 0):=fun w' h=>(h.cell (p:=⟨wr.heap.size,2,none⟩) hsW).trans z5
        clear c0 z3 z4 z5
        unfold flV at hlk
        go_region_held_law (fun w'=>RowKit.Below W.heap.size W w') (first | assumption | exact HB5.out | exact Below_drew (Below.refl _ _) | exact (Below_drew (Below.refl _ _)).alloc (by simp) _ | exact HB5.out.alloc HB5.out.size _ | exact (HB5.out.setCell (Nat.le_refl _) _).setCell (Nat.le_refl _) _) (first
          | (go_simp
             go_at_call 52
             refine (leftOf_is HY.out HX1.out _ ((HGW.out.below (Below_drew (Below.refl _ _))).more (Nat.le_refl _)) HX2.out.1 HX2.out.2 (Nat.zero_le _) (by decide) (by decide)).mono ?_
             rintro e w5 ⟨rfl,hb5⟩
             have HB5:Hid (RowKit.Below W.heap.size W w5):=(Below_drew (Below.refl _ _)).trans hb5
             have HD5:=Lib.hid hb5
             clear hb5)
          | (go_simp
             go_at_call 52
             refine (leftOf_is HY.out HX1.out _ ((HGW.out.below ((Below_drew (Below.refl _ _)).alloc (by simp) _)).more (by simp)) HX2.out.1 HX2.out.2 (Nat.zero_le _) (by decide) (by decide)).mono ?_
             rintro e w5 ⟨rfl,hb5⟩
             have HB5:Hid (RowKit.Below W.heap.size W w5):=((Below_drew (Below.refl _ _)).alloc (by simp) _).trans (hb5.mono (by simp))
             have HD5:=Lib.hid hb5
             have m0:w5.cell? ⟨W.heap.size,0,none⟩=some (.bool false):=(hb5.cell (p:=⟨W.heap.size,0,none⟩) (by simp)).trans (by go_simp)
             have m1:w5.cell? ⟨W.heap.size,1,none⟩=some (.string ⟨#[]⟩):=(hb5.cell (p:=⟨W.heap.size,1,none⟩) (by simp)).trans (by go_simp)
             have f0:w5.frozen? ⟨W.heap.size,0,none⟩=false:=(hb5.frozen (p:=⟨W.heap.size,0,none⟩) (by simp)).trans (by go_simp)
             have f1:w5.frozen? ⟨W.heap.size,1,none⟩=false:=(hb5.frozen (p:=⟨W.heap.size,1,none⟩) (by simp)).trans (by go_simp)
             clear hb5))
        all_goals
          clear hlk k0 k3 k4 k5
          obtain ⟨V,hV,hBV⟩:∃ V,V=_∧RowKit.Below W.heap.size W V:=⟨_,rfl,by assumption⟩
          have HBV:=Lib.hid hBV
          have HVV:=Lib.hid hV
          clear hBV
          go_wp2_with fail
          refine (putK_any _ S R p ⟨Lk,m.fuse,m.down⟩ ⟨nn,tt,tt,nw,nw⟩ (HFW.out.below (by rw [← HVV.out];exact HBV.out)) HYO.out HN3.out HLK.out).mono ?_
          rintro e w6 ⟨rfl,hF6,hO6⟩
          rw [← HVV.out] at hO6
          have HF6:=Lib.hid hF6;have HO6:=Lib.hid hO6
          clear hF6 hO6 hV
          go_wp2_with fail
          go_roundw
          case rel=>exact ⟨k+1,by omega,by go_num,by rw [HNX.out];exact HF6.out,((HOK.out.trans (Off.of_below HBW.out)).trans (Off.of_below HBV.out)).trans HO6.out⟩
          case measure=>simp [intOf];omega
    · have hkN:k=N.length:=by omega
      have HE:Hid (crashF m T=⟨crashTo m.files T N k,-1,false⟩):=by show _=_;unfold crashF;rw [hkN,← HND.out]
      obtain ⟨bm,fu,c0,c1,c2,f1,f2,_⟩:=HFK.out.cells
      clear hkN
      go_wp2
      go_end0
      rw [HE.out]
      exact ⟨rfl,HFK.out.back.1,((Off.of_below HB1.out).trans HOK.out).trans HFK.out.back.2⟩
end Go.Proofs.YtccbpngehedbaaaGreat

namespace Go.Proofs.YtccbpngehedbaaaGreat
open Go Go.RowKit Go.Maps Go.Sort

/-! The landed file system: a copy. -/
end Go.Proofs.YtccbpngehedbaaaGreat

namespace Go.Proofs.YtccbpngehedbaaaGreat
open Go Go.RowKit

/-! THE LANDED CODE's KIT. -/
def kit:FsKit where
  Fs:=FsL
  low:=FsL.low
  move:=fun h _ hb=>h.move hb
  ok:=FsL.ok
  new:=new_any
  create:=fun w S R p m n hF hb hn=>(create_any w S R p m n hF (by have:=hb.1;omega) hn).mono fun _ _ ⟨h1,h2,h3⟩=>⟨S,R,h1,h2,h3.did⟩
  append:=fun w S R p m n a c b hF hb hn hr hl _ _=>(append_any w S R p m n a c b hF hb hn hr.rd hl).mono fun _ _ ⟨h1,h2,h3⟩=>⟨S,R,h1,h2,h3.did⟩
  trunc:=fun w S R p m n s hF hb hn h1 h2=>(trunc_any w S R p m n s hF hb hn h1 h2).mono fun _ _ ⟨h1,h2,h3⟩=>⟨S,R,h1,h2,h3.did⟩
  sync:=fun w S R p m n hF hb hn=>(sync_any w S R p m n hF (by have:=hb.1;omega) hn).mono fun _ _ ⟨h1,h2,h3⟩=>⟨S,R,h1,h2,h3.did⟩
  remove:=fun w S R p m n hF hb hn=>(remove_any w S R p m n hF (by have:=hb.1;omega) hn).mono fun _ _ ⟨h1,h2,h3⟩=>⟨S,R,h1,h2,h3.did⟩
  read:=fun w S R p m n hF hb hn=>(readK_any w S R p m n hF hb hn).mono fun _ _ ⟨a,c,h1,h2,h3,h4,h5⟩=>⟨S,R,a,c,h1,h2,h3,h4,hF.below h5,(Off.of_below h5).did⟩
  list:=fun w S R p m hF hb=>(list_any w S R p m hF (by have:=hb.1;omega)).mono fun _ _ ⟨a,c,h1,h2,h3,h4,h5,h6⟩=>⟨S,R,a,c,h1,h2,h3,RdN.new h4 h5 hF.low.1,hF.below h6,(Off.of_below h6).did⟩
  unsafe_:=fun w S R p m hF hb=>(unsafe_any w S R p m hF (by have:=hb.1;omega)).mono fun _ _ ⟨a,c,h1,h2,h3,h4,h5,h6⟩=>⟨S,R,a,c,h1,h2,h3,RdN.new h4 h5 hF.low.1,hF.below h6,(Off.of_below h6).did⟩
  fuse:=fun w S R p m f hF h1 h2=>(fuse_any w S R p m f hF h1 h2).mono fun _ _ ⟨h1,h2,h3⟩=>⟨S,R,h1,h2,h3.did⟩
  down:=fun w S R p m hF=>(down_any w S R p m hF).mono fun _ w' ⟨h1,h2⟩=>⟨S,R,h1,by rw [h2];exact hF,by rw [h2];exact Did.refl S R w⟩
  crash:=fun w S R p m a c T hF hb hr hT hTc hcm ht=>(crash_any w S R p m a c T hF hb hr hT hTc hcm ht).mono fun _ _ ⟨h1,h2,h3⟩=>⟨S,R,h1,h2,h3.did⟩
end Go.Proofs.YtccbpngehedbaaaGreat

