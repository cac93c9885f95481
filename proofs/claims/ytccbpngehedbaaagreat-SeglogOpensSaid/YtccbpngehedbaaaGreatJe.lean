import Derived.Test.YtccbpngehedbaaaGreatJd
import Derived.Lib.SlBytesConst
import Derived.Deep.WholeRow
import Derived.Test.YtccbpngehedbaaaGreatJa
import Derived.Lib.AppendStr
import Derived.Laws.MakeOwn
namespace Go.Proofs.YtccbpngehedbaaaGreat
open Go Go.RowKit

set_option maxRecDepth 20000
/-! The program's Put: a span's bytes, field by field. -/
set_option maxHeartbeats 400000 in
theorem batchSize_is (k K:Nat) (hK:6+75 * k=K) (w:World) (h:k≤1000000000000) :
    Calls Tryz.prog 107 #[.int .i64 (k:Int)] w fun e w'=>e=.returned (.int .i64 (K:Int))∧w=w':=by
  have h1:IntKind.i64.wrap ((k:Int) * 75)=(k:Int) * 75:=IntWalk.i64_in _ ⟨by omega,by omega⟩
  have h2:IntKind.i64.wrap (6+(k:Int) * 75)=(K:Int):=by rw [← hK];exact (IntWalk.i64_in _ ⟨by omega,by omega⟩).trans (by omega)
  have HE:=Lib.hid hK
  clear hK
  go_enter Tryz.func107,Tryz.ntmps107
  go_wp2_with fail
  go_ret
  exact ⟨rfl,rfl⟩
set_option maxHeartbeats 400000 in
theorem countMay_is (k:Nat) (b:Bool) (hb:(decide (1≤k) && decide (k≤32))=b) (w:World) :
    Calls Tryz.prog 130 #[.int .i64 (k:Int)] w fun e w'=>e=.returned (.bool b)∧w=w':=by
  by_cases h0:1≤k
  · have g0:decide ((1:Int)≤(k:Int))=true:=decide_eq_true (by omega)
    by_cases h1:k≤32
    · have g1:decide ((k:Int)≤32)=true:=decide_eq_true (by omega)
      have HE:Hid (b=true):=by show _=_;rw [← hb];simp [h0,h1]
      clear hb
      go_enter Tryz.func130,Tryz.ntmps130
      go_wp2_with fail
      go_ret
      exact ⟨ret_bool HE.out.symm,rfl⟩
    · have g1:decide ((k:Int)≤32)=false:=decide_eq_false (by omega)
      have HE:Hid (b=false):=by show _=_;rw [← hb];simp [h1]
      clear hb
      go_enter Tryz.func130,Tryz.ntmps130
      go_wp2_with fail
      go_ret
      exact ⟨ret_bool HE.out.symm,rfl⟩
  · have g0:decide ((1:Int)≤(k:Int))=false:=decide_eq_false (by omega)
    have HE:Hid (b=false):=by show _=_;rw [← hb];simp [h0]
    clear hb
    go_enter Tryz.func130,Tryz.ntmps130
    go_wp2_with fail
    go_ret
    exact ⟨ret_bool HE.out.symm,rfl⟩
end Go.Proofs.YtccbpngehedbaaaGreat

namespace Go.Proofs.YtccbpngehedbaaaGreat
open Go Go.RowKit

set_option maxRecDepth 20000
end Go.Proofs.YtccbpngehedbaaaGreat

namespace Go.Proofs.YtccbpngehedbaaaGreat
open Go Go.RowKit

set_option maxRecDepth 20000
/-! A closure that keeps its place: the number of some bytes, a text. -/
set_option maxHeartbeats 1000000 in
theorem number_any (bb ab:Nat) (a:Option Addr) (c:Nat) (b:List UInt8) (p k:Nat) (w:World) (hc0:w.cell? ⟨bb,0,none⟩=some (.slice a b.length c)) (hc1:w.cell? ⟨ab,0,none⟩=some (.int .i64 (p:Int))) (hf:w.frozen? ⟨ab,0,none⟩=false)
    (hr:Rd w w.heap.size a (bV b)) (hl:b.length≤1000000000000) (hk:cnt (k:Int)=k) (hk8:k≤8) (hp:p+k≤b.length) (G:Nat) (hG:gN b p k=G) :
    Calls Tryz.prog 157 #[.int .i64 (k:Int),.pointer (some ⟨bb,0,none⟩),.pointer (some ⟨ab,0,none⟩)] w fun e w'=>e=.returned (.int .u64 (G:Int))∧w'=w.setCell ⟨ab,0,none⟩ (.int .i64 ((p+k:Nat):Int)):=by
  have HR:=Lib.hid hr;clear hr
  have HY:Hid (getR b (p:Int) (k:Int)=(G,true)):=by show _=_;rw [getR_yes (by rw [hk];omega),hk,Int.toNat_natCast,hG]
  have hw:IntKind.i64.wrap ((p:Int)+(k:Int))=(p:Int)+(k:Int):=IntWalk.i64_in _ ⟨by omega,by omega⟩
  clear hk hG
  go_enter Tryz.func157,Tryz.ntmps157
  go_wp2_with fail
  refine (get_any a c b (p:Int) (k:Int) _ HR.out hl (by omega) (by omega) (by omega) (by omega)).mono ?_
  rw [HY.out]
  rintro e w1 ⟨rfl,rfl⟩
  go_wp2_with fail
  go_ret
  exact ⟨rfl,by simp⟩
set_option maxHeartbeats 1000000 in
theorem text_any (bb ab:Nat) (a:Option Addr) (c:Nat) (b:List UInt8) (p:Nat) (w:World) (hc0:w.cell? ⟨bb,0,none⟩=some (.slice a b.length c)) (hc1:w.cell? ⟨ab,0,none⟩=some (.int .i64 (p:Int))) (hf:w.frozen? ⟨ab,0,none⟩=false)
    (hr:Rd w w.heap.size a (bV b)) (hl:b.length≤1000000000000) (hlc:b.length≤c) (hc:c≤maxLen) (hp:p≤b.length) (o:Option (List UInt8)) (ho:getT b (p:Int)=o) :
    Calls Tryz.prog 158 #[.pointer (some ⟨bb,0,none⟩),.pointer (some ⟨ab,0,none⟩)] w fun e w'=>e=.returned (.tuple #[.string (txt o),.bool o.isSome])∧w'=w.setCell ⟨ab,0,none⟩ (.int .i64 ((p+17:Nat):Int)):=by
  have HR:=Lib.hid hr;have HO:=Lib.hid ho;have HC:=Lib.hid hc;clear hr ho hc
  have hw:IntKind.i64.wrap ((p:Int)+17)=(p:Int)+17:=IntWalk.i64_in _ ⟨by omega,by omega⟩
  go_enter Tryz.func158,Tryz.ntmps158
  go_wp2_with fail
  refine (getText_any a c b (p:Int) _ HR.out hl hlc HC.out (by omega) (by omega)).mono ?_
  rw [HO.out]
  rintro e w1 ⟨rfl,rfl⟩
  go_wp2_with fail
  go_ret2
  exact ⟨rfl,by simp⟩
set_option maxHeartbeats 1000000 in
theorem partsFrom_is (a:Option Addr) (n c:Nat) (p:Int) (w:World) :
    Calls Tryz.prog 131 #[.slice a n c,.int .i64 p] w fun e w'=>e=.returned (.tuple #[.func (.func 157) #[] #[.pointer (some ⟨w.heap.size,0,none⟩),.pointer (some ⟨w.heap.size+1,0,none⟩)],.func (.func 158) #[] #[.pointer (some ⟨w.heap.size,0,none⟩),.pointer (some ⟨w.heap.size+1,0,none⟩)]])∧w'=(w.alloc (.cells #[.slice a n c] 38)).alloc (.cells #[.int .i64 p] 3):=by
  have hmf:∀ (fn:Fn) (first cap:Array Value) (w:World),(Instr.makeFunc fn first cap).run Tryz.prog w=.ok (.func fn first cap) w:=fun _ _ _ _=>rfl
  go_enter Tryz.func131,Tryz.ntmps131
  go_wp2_with fail
  go_ret2
  exact ⟨rfl,rfl⟩
end Go.Proofs.YtccbpngehedbaaaGreat

namespace Go.Proofs.YtccbpngehedbaaaGreat
open Go Go.RowKit

set_option maxRecDepth 20000
/-- What spanAt answers: the span and the error's number. -/
def SpanOut (w:World) (r:Except Nat Sp) (e:Ending) (w':World):Prop :=
  (∃ s,r=.ok s∧e=.returned (.tuple #[s.v,.int .i64 0])∧Below w.heap.size w w')∨(∃ n s,r=.error n∧e=.returned (.tuple #[Sp.v s,.int .i64 (n:Int)])∧Below w.heap.size w w')
theorem number3 (w:World) (S:Obj) (bb ab:Nat) (hbb:bb=w.heap.size) (hab:ab=w.heap.size+1) (a:Option Addr) (c:Nat) (b:List UInt8) (q k:Nat) (hr:Rd w w.heap.size a (bV b)) (hl:b.length≤1000000000000) (hk:cnt (k:Int)=k) (hk8:k≤8) (hp:q+k≤b.length) (G:Nat) (hG:gN b q k=G) :
    Calls Tryz.prog 157 #[.int .i64 (k:Int),.pointer (some ⟨bb,0,none⟩),.pointer (some ⟨ab,0,none⟩)] (((w.alloc (.cells #[.slice a b.length c] 38)).alloc (.cells #[.int .i64 (q:Int)] 3)).alloc S)
      fun e w'=>e=.returned (.int .u64 (G:Int))∧w'=(((w.alloc (.cells #[.slice a b.length c] 38)).alloc (.cells #[.int .i64 ((q+k:Nat):Int)] 3)).alloc S):=by
  subst hbb hab
  refine (number_any _ _ a c b q k _ (by go_simp) (by go_simp) (by go_simp) ((hr.below (((box1 w _).alloc (by simp) _).alloc (by simp;omega) S)).more (by simp;omega)) hl hk hk8 hp G hG).mono ?_
  rintro e w' ⟨he,rfl⟩
  refine ⟨he,?_⟩
  rw [World.setCell_alloc_past _ _ _ _ (by simp),World.setCell_alloc_at _ _ _ _ _ (by simp)]
  rfl
theorem text3 (w:World) (S:Obj) (bb ab:Nat) (hbb:bb=w.heap.size) (hab:ab=w.heap.size+1) (a:Option Addr) (c:Nat) (b:List UInt8) (q:Nat) (hr:Rd w w.heap.size a (bV b)) (hl:b.length≤1000000000000) (hlc:b.length≤c) (hc:c≤maxLen) (hp:q≤b.length) (o:Option (List UInt8)) (ho:getT b (q:Int)=o) :
    Calls Tryz.prog 158 #[.pointer (some ⟨bb,0,none⟩),.pointer (some ⟨ab,0,none⟩)] (((w.alloc (.cells #[.slice a b.length c] 38)).alloc (.cells #[.int .i64 (q:Int)] 3)).alloc S)
      fun e w'=>e=.returned (.tuple #[.string (txt o),.bool o.isSome])∧w'=(((w.alloc (.cells #[.slice a b.length c] 38)).alloc (.cells #[.int .i64 ((q+17:Nat):Int)] 3)).alloc S):=by
  subst hbb hab
  refine (text_any _ _ a c b q _ (by go_simp) (by go_simp) (by go_simp) ((hr.below (((box1 w _).alloc (by simp) _).alloc (by simp;omega) S)).more (by simp;omega)) hl hlc hc hp o ho).mono ?_
  rintro e w' ⟨he,rfl⟩
  refine ⟨he,?_⟩
  rw [World.setCell_alloc_past _ _ _ _ (by simp),World.setCell_alloc_at _ _ _ _ _ (by simp)]
  rfl
theorem size_sp:(Tryz.prog.info? 126).map (·.size)=some 8:=by kernel_rfl
theorem sp_one (s:Sp):s.c.all (·.oneCell')=true:=by simp [Sp.c,Value.oneCell']
theorem load_set (W:World) (s:Sp) (b:Nat) (ht:W.there b 0 8):(loadVar 126 ⟨b,0,none⟩).run Tryz.prog (W.setCells b 0 s.c.toList)=.ok s.v (W.setCells b 0 s.c.toList) :=
  run_loadVar_mid (P:=Tryz.prog) _ b 0 126 _ _ (World.rangeAt_setCells_same W b 0 s.c.toList ht) Tryz.underlying126 rfl size_sp
def spanRes (o1 o2:Option (List UInt8)) (f:ByteArray→ByteArray→Sp):Except Nat Sp :=
  match o1,o2 with
  | none,_=>.error 3
  | _,none=>.error 3
  | some h,some n=>if mayB (f (bs h) (bs n))=true then .ok (f (bs h) (bs n)) else .error 4
theorem spanAt_res (b:List UInt8) (p:Nat):spanAt b p=spanRes (getT b ((p+41:Nat):Int)) (getT b ((p+58:Nat):Int)) fun h n=>⟨gN b p 8,gN b (p+8) 8,gN b (p+16) 8,gN b (p+24) 1,h,n,IntKind.i64.wrap (gN b (p+25) 8),IntKind.i64.wrap (gN b (p+33) 8)⟩:=by
  unfold spanAt spanRes
  cases getT b ((p+41:Nat):Int) <;> cases getT b ((p+58:Nat):Int) <;> rfl
set_option maxRecDepth 20000 in
set_option maxHeartbeats 4000000 in
theorem spanAt_any (a : Option Addr) (c : Nat) (b : List UInt8) (p : Nat) (w : World) (hr : Rd w w.heap.size a (bV b)) (hl : b.length ≤ 1000000000000) (hlc : b.length ≤ c) (hc : c ≤ maxLen) (hp : p + 75 ≤ b.length) :
    Calls Tryz.prog 106 #[.slice a b.length c,.int .i64 (p:Int)] w (SpanOut w (spanAt b p)):=by
  have HC:=Lib.hid hc;clear hc
  obtain ⟨v,hv⟩:∃ v,v=w.alloc (.cells (⟨0,0,0,0,⟨#[]⟩,⟨#[]⟩,0,0⟩:Sp).c 126):=⟨_,rfl⟩
  have HBV:Hid (Below w.heap.size w v):=by show Below _ _ _;rw [hv];exact box1 _ _
  have HVS:Hid (v.heap.size=w.heap.size+1):=by show _=_;rw [hv];simp
  have HTV:Hid (v.there w.heap.size 0 8):=by show v.there _ _ _;rw [hv];exact there_last _ _ _ _ _ rfl rfl
  have HR:Hid (Rd v v.heap.size a (bV b)):=by show Rd _ _ _ _;exact (hr.below HBV.out).more HBV.out.size
  have HV:=Lib.hid hv
  clear hr

  obtain ⟨A,hA⟩:∃ A,gN b p 8=A:=⟨_,rfl⟩
  obtain ⟨B,hB⟩:∃ B,gN b (p+8) 8=B:=⟨_,rfl⟩
  obtain ⟨C,hC⟩:∃ C,gN b (p+16) 8=C:=⟨_,rfl⟩
  obtain ⟨K,hK⟩:∃ K,gN b (p+24) 1=K:=⟨_,rfl⟩
  obtain ⟨S,hS⟩:∃ S,gN b (p+25) 8=S:=⟨_,rfl⟩
  obtain ⟨D,hD⟩:∃ D,gN b (p+33) 8=D:=⟨_,rfl⟩
  obtain ⟨st,hst⟩:∃ st,IntKind.i64.wrap (S:Int)=st:=⟨_,rfl⟩
  obtain ⟨du,hdu⟩:∃ du,IntKind.i64.wrap (D:Int)=du:=⟨_,rfl⟩
  obtain ⟨o1,ho1⟩:∃ o,getT b ((p+41:Nat):Int)=o:=⟨_,rfl⟩
  obtain ⟨o2,ho2⟩:∃ o,getT b ((p+58:Nat):Int)=o:=⟨_,rfl⟩
  have hKl:K < 256:=by rw [← hK];exact gN_lt b (p+24) 1
  have hKw:IntKind.u8.wrap (K:Int)=(K:Int):=IntWalk.u8_in _ ⟨by omega,by omega⟩
  have HF:Hid (spanAt b p=spanRes o1 o2 fun h n=>⟨A,B,C,K,h,n,st,du⟩):=by
    show _=_
    rw [spanAt_res,ho1,ho2,hA,hB,hC,hK,hS,hD,hst,hdu]
  have HA:=Lib.hid hA;have HB:=Lib.hid hB;have HC':=Lib.hid hC;have HK:=Lib.hid hK;have HS:=Lib.hid hS;have HD:=Lib.hid hD;have HO1:=Lib.hid ho1;have HO2:=Lib.hid ho2
  clear hA hB hC hK hS hD ho1 ho2
  unfold Sp.c at hv
  go_enter Tryz.func106,Tryz.ntmps106
  go_wp2_with fail
  rw [← hv]
  clear hv
  refine (partsFrom_is a b.length c (p:Int) v).mono ?_;rintro e v1 ⟨rfl,rfl⟩
  go_wp2_with fail
  refine (number3 v _ _ _ rfl rfl a c b p 8 HR.out hl rfl (by omega) (by omega) A HA.out).mono ?_;rintro e w1 ⟨rfl,rfl⟩
  go_wp2_with fail
  refine (number3 v _ _ _ rfl rfl a c b (p+8) 8 HR.out hl rfl (by omega) (by omega) B HB.out).mono ?_;rintro e w1 ⟨rfl,rfl⟩
  go_wp2_with fail
  refine (number3 v _ _ _ rfl rfl a c b (p+8+8) 8 HR.out hl rfl (by omega) (by omega) C HC'.out).mono ?_;rintro e w1 ⟨rfl,rfl⟩
  go_wp2_with fail
  refine (number3 v _ _ _ rfl rfl a c b (p+8+8+8) 1 HR.out hl rfl (by omega) (by omega) K HK.out).mono ?_;rintro e w1 ⟨rfl,rfl⟩
  go_wp2_with fail
  refine (number3 v _ _ _ rfl rfl a c b (p+8+8+8+1) 8 HR.out hl rfl (by omega) (by omega) S HS.out).mono ?_;rintro e w1 ⟨rfl,rfl⟩
  go_wp2_with fail
  refine (number3 v _ _ _ rfl rfl a c b (p+8+8+8+1+8) 8 HR.out hl rfl (by omega) (by omega) D HD.out).mono ?_;rintro e w1 ⟨rfl,rfl⟩
  go_wp2_with fail
  refine (text3 v _ _ _ rfl rfl a c b (p+8+8+8+1+8+8) HR.out hl hlc HC.out (by omega) o1 HO1.out).mono ?_;rintro e w1 ⟨rfl,rfl⟩
  go_wp2_with fail
  refine (text3 v _ _ _ rfl rfl a c b (p+8+8+8+1+8+8+17) HR.out hl hlc HC.out (by omega) o2 HO2.out).mono ?_;rintro e w1 ⟨rfl,rfl⟩
  cases o1 with
  | none =>
    go_wp2_with (refine wpList_store_mid rfl 126 (.tmp 4) (.tmp 56) rfl w.heap.size 0 (⟨0,0,0,0,⟨#[]⟩,⟨#[]⟩,0,0⟩:Sp).c rfl rfl (World.there_alloc (World.there_alloc (World.there_alloc HTV.out _) _) _) size_sp (sp_one _) ?_)
    refine bodyPost_ret (v:=.tuple #[(⟨0,0,0,0,⟨#[]⟩,⟨#[]⟩,0,0⟩:Sp).v,.int .i64 3]) (results_cell_two (p:=4) (u:=5) (ty:=126) (b:=w.heap.size) (x:=.int .i64 3) ?_ ?_ ?_ ?_) rfl ?_
    · rfl
    · rfl
    · rfl
    · exact load_set _ (⟨0,0,0,0,⟨#[]⟩,⟨#[]⟩,0,0⟩:Sp) _ (World.there_alloc (World.there_alloc (World.there_alloc HTV.out _) _) _)
    · rw [HF.out];exact .inr ⟨3,_,rfl,rfl,Below_setCells (Nat.le_refl _) _ 0 _ (((HBV.out.alloc (by have:=HVS.out;omega) _).alloc (by have:=HVS.out;simp;omega) _).alloc (by have:=HVS.out;simp;omega) _)⟩
  | some H =>
    have tx1:txt (some H)=bs H:=rfl
    rw [tx1]
    clear tx1
    cases o2 with
    | none =>
      go_wp2_with (refine wpList_store_mid rfl 126 (.tmp 4) (.tmp 56) rfl w.heap.size 0 (⟨0,0,0,0,⟨#[]⟩,⟨#[]⟩,0,0⟩:Sp).c rfl rfl (World.there_alloc (World.there_alloc (World.there_alloc HTV.out _) _) _) size_sp (sp_one _) ?_)
      refine bodyPost_ret (v:=.tuple #[(⟨0,0,0,0,⟨#[]⟩,⟨#[]⟩,0,0⟩:Sp).v,.int .i64 3]) (results_cell_two (p:=4) (u:=5) (ty:=126) (b:=w.heap.size) (x:=.int .i64 3) ?_ ?_ ?_ ?_) rfl ?_
      · rfl
      · rfl
      · rfl
      · exact load_set _ (⟨0,0,0,0,⟨#[]⟩,⟨#[]⟩,0,0⟩:Sp) _ (World.there_alloc (World.there_alloc (World.there_alloc HTV.out _) _) _)
      · rw [HF.out];exact .inr ⟨3,_,rfl,rfl,Below_setCells (Nat.le_refl _) _ 0 _ (((HBV.out.alloc (by have:=HVS.out;omega) _).alloc (by have:=HVS.out;simp;omega) _).alloc (by have:=HVS.out;simp;omega) _)⟩
    | some M =>
      have tx2:txt (some M)=bs M:=rfl
      rw [tx2]
      clear tx2
      obtain ⟨X,hX⟩:∃ X:Sp,X=⟨A,B,C,K,bs H,bs M,st,du⟩:=⟨_,rfl⟩
      have hH:=(getT_back (l:=b) (h:=H) (p:=p+41) (by omega) HO1.out).2
      have hM:=(getT_back (l:=b) (h:=M) (p:=p+58) (by omega) HO2.out).2
      have HHs:Hid ((bs H).size≤maxLen):=by show _≤_;rw [bs_size];unfold maxLen;omega
      have HMs:Hid ((bs M).size≤maxLen):=by show _≤_;rw [bs_size];unfold maxLen;omega
      have HX:=Lib.hid hX
      have HRES:Hid (spanAt b p=if mayB X=true then .ok X else .error 4):=by show _=_;rw [HF.out,hX];rfl
      clear hH hM hX
      obtain ⟨W,hW⟩:∃ W,W=(((v.alloc (.cells #[.slice a b.length c] 38)).alloc (.cells #[.int .i64 ((p:Int)+8+8+8+1+8+8+17+17)] 3)).alloc (.cells (⟨A,B,C,K,bs H,bs M,st,du⟩:Sp).c 126)):=⟨_,rfl⟩
      have HWB:Hid (Below w.heap.size w W):=by show Below _ _ _;rw [hW];exact ((HBV.out.alloc (by have:=HVS.out;omega) _).alloc (by have:=HVS.out;simp;omega) _).alloc (by have:=HVS.out;simp;omega) _
      have HWT:Hid (W.there w.heap.size 0 8):=by show W.there _ _ _;rw [hW];exact World.there_alloc (World.there_alloc (World.there_alloc HTV.out _) _) _
      have HWX:Hid (Box W (v.heap.size+1+1) X):=by
        show Box _ _ _
        have h:=Box.new (((v.alloc (.cells #[.slice a b.length c] 38)).alloc (.cells #[.int .i64 ((p:Int)+8+8+8+1+8+8+17+17)] 3))) X 126
        rw [World.size_alloc,World.size_alloc] at h
        rw [hW,← HX.out];exact h
      have HWS:Hid (W.heap.size=w.heap.size+4):=by show _=_;rw [hW];have:=HVS.out;simp;omega
      cases hm:mayB X with
      | false =>
        have HM:=Lib.hid hm;rw [hm] at HRES;clear hm
        unfold Sp.c at hW
        go_wp2_with fail
        rw [← hW]
        clear hW
        refine (may_is (s:=⟨A,B,C,K,bs H,bs M,st,du⟩) (b:=false) (by rw [← HX.out];exact HM.out) W HHs.out HMs.out).mono ?_;rintro e w6 ⟨rfl,hb6⟩
        have HT6:=Lib.hid (there_below HWT.out hb6 (by rw [HWS.out];omega))
        have HB6:=Lib.hid (Below_setCells (Nat.le_refl w.heap.size) (⟨0,0,0,0,⟨#[]⟩,⟨#[]⟩,0,0⟩:Sp).c.toList 0 _ (bel2 HWB.out hb6))
        clear hb6
        go_wp2_with (refine wpList_store_mid rfl 126 (.tmp 4) (.tmp 64) rfl w.heap.size 0 (⟨0,0,0,0,⟨#[]⟩,⟨#[]⟩,0,0⟩:Sp).c rfl rfl HT6.out size_sp (sp_one _) ?_)
        refine bodyPost_ret (v:=.tuple #[(⟨0,0,0,0,⟨#[]⟩,⟨#[]⟩,0,0⟩:Sp).v,.int .i64 4]) (results_cell_two (p:=4) (u:=5) (ty:=126) (b:=w.heap.size) (x:=.int .i64 4) ?_ ?_ ?_ ?_) rfl ?_
        · rfl
        · rfl
        · rfl
        · exact load_set _ (⟨0,0,0,0,⟨#[]⟩,⟨#[]⟩,0,0⟩:Sp) _ HT6.out
        · exact (by rw [HRES.out];exact .inr ⟨4,_,rfl,rfl,HB6.out⟩)
      | true =>
        have HM:=Lib.hid hm;rw [hm] at HRES;clear hm
        unfold Sp.c at hW
        go_wp2_with fail
        rw [← hW]
        clear hW
        refine (may_is (s:=⟨A,B,C,K,bs H,bs M,st,du⟩) (b:=true) (by rw [← HX.out];exact HM.out) W HHs.out HMs.out).mono ?_;rintro e w6 ⟨rfl,hb6⟩
        have HT6:=Lib.hid (there_below HWT.out hb6 (by rw [HWS.out];omega))
        have hbx:=Box.below HWX.out hb6 (by rw [HWS.out];have:=HVS.out;omega)
        rw [HX.out] at hbx
        obtain ⟨d0,d1,d2,d3,d4,d5,d6,d7⟩:=hbx.all
        have HB6:=Lib.hid (Below_setCells (Nat.le_refl w.heap.size) (⟨A,B,C,K,bs H,bs M,st,du⟩:Sp).c.toList 0 _ (bel2 HWB.out hb6))
        clear hb6 hbx
        go_wp2_with (refine wpList_store_mid rfl 126 (.tmp 4) (.tmp 65) rfl w.heap.size 0 (⟨A,B,C,K,bs H,bs M,st,du⟩:Sp).c rfl rfl HT6.out size_sp (sp_one _) ?_)
        refine bodyPost_ret (v:=.tuple #[(⟨A,B,C,K,bs H,bs M,st,du⟩:Sp).v,.int .i64 0]) (results_cell_two (p:=4) (u:=5) (ty:=126) (b:=w.heap.size) (x:=.int .i64 0) ?_ ?_ ?_ ?_) rfl ?_
        · rfl
        · rfl
        · rfl
        · exact load_set _ (⟨A,B,C,K,bs H,bs M,st,du⟩:Sp) _ HT6.out
        · exact (by rw [HRES.out];exact .inl ⟨X,rfl,by rw [HX.out],HB6.out⟩)
end Go.Proofs.YtccbpngehedbaaaGreat

namespace Go.Proofs.YtccbpngehedbaaaGreat
open Go Go.RowKit

set_option maxRecDepth 20000
/-- What countOf answers: how many spans, or the error's number. -/
def CountOut (w:World) (b:List UInt8) (e:Ending) (w':World):Prop :=
  (∃ n:Nat,e=.returned (.tuple #[.int .i64 (n:Int),.int .i64 0])∧getW b=spansTo b n∧b.length=6+75 * n∧1≤n∧n≤32∧w=w') ∨
  (∃ k:Nat,e=.returned (.tuple #[.int .i64 0,.int .i64 (k:Int)])∧getW b=.error k∧k ≠ 0∧w=w')
theorem get_is (a:Option Addr) (c:Nat) (b:List UInt8) (p k:Nat) (w:World) (hr:Rd w w.heap.size a (bV b)) (hl:b.length≤1000000000000) (hk:cnt (k:Int)=k) (hk8:k≤8) (hp:p+k≤b.length) (G:Nat) (hG:gN b p k=G) :
    Calls Tryz.prog 129 #[.slice a b.length c,.int .i64 (p:Int),.int .i64 (k:Int)] w fun e w'=>e=.returned (.tuple #[.int .u64 (G:Int),.bool true])∧w=w':=by
  have h:=get_any a c b (p:Int) (k:Int) w hr hl (by omega) (by omega) (by omega) (by omega)
  rw [getR_yes (by rw [hk];omega),hk,Int.toNat_natCast,hG] at h
  exact h
set_option maxHeartbeats 4000000 in
theorem countOf_any (a:Option Addr) (c:Nat) (b:List UInt8) (w:World) (hr:Rd w w.heap.size a (bV b)) (hl:b.length≤1000000000000) (hlc:b.length≤c) (hc:c≤maxLen) :
    Calls Tryz.prog 105 #[.slice a b.length c] w (CountOut w b):=by
  have HR:=Lib.hid hr;clear hr
  unfold maxLen at hc
  by_cases h6:b.length < 6
  · have HE:=Lib.hid (getW_short h6)
    go_enter Tryz.func105,Tryz.ntmps105
    go_wp2_with fail
    go_ret2
    exact .inr ⟨2,rfl,HE.out,by omega,rfl⟩
  have e4:(ByteArray.mk #[83,80,65,78]).toList=[83,80,65,78]:=by rw [ByteArray.toList_eq]
  have hcv:=run_string_of (w:=w) (l:=b.take 4) 4 c (by rw [bV_take];exact HR.out.take 4) (by rw [List.length_take];omega)
  have i1:(4:Int)≤(c:Int):=by omega
  obtain ⟨N,hN⟩:∃ N,gN b 4 2=N:=⟨_,rfl⟩
  have hN16:N < 65536:=by have:=gN_lt b 4 2;omega
  have hw:IntKind.i64.wrap (N:Int)=(N:Int):=i64_small (by omega)
  have HN:=Lib.hid hN
  by_cases h4:b.take 4=letL
  case neg =>
    have HE:=Lib.hid (getW_letters h6 h4)
    obtain ⟨t1,t2⟩:=str_eq (x:=bs (b.take 4)) (y:=ByteArray.mk #[83,80,65,78]) (b:=false) (by
      have:¬ bs (b.take 4)=ByteArray.mk #[83,80,65,78]:=fun e=>h4 (bs_inj e)
      simp [this])
    have t3:((bs (b.take 4)).toList != [83,80,65,78])=true:=by rw [bne,← e4,t1];rfl
    rw [e4] at t1
    clear t2 e4
    clear h4 hN
    generalize b.take 4=B4 at hcv t1 t3
    go_enter Tryz.func105,Tryz.ntmps105
    go_wp2_with fail
    refine (get_is a c b 4 2 _ HR.out hl rfl (by omega) (by omega) N HN.out).mono ?_;rintro e w2 ⟨rfl,rfl⟩
    go_wp2_with fail
    go_ret2
    exact .inr ⟨3,rfl,HE.out,by omega,rfl⟩
  obtain ⟨t1,t2⟩:=str_eq (x:=bs (b.take 4)) (y:=ByteArray.mk #[83,80,65,78]) (b:=true) (by rw [h4];decide)
  have t3:((bs (b.take 4)).toList != [83,80,65,78])=false:=by rw [bne,← e4,t1];rfl
  rw [e4] at t1
  clear t2 e4
  by_cases hin:1≤N∧N≤32
  case neg =>
    have HE:=Lib.hid (getW_count h6 h4 (by omega))
    have HC:Hid ((decide (1≤N) && decide (N≤32))=false):=by
      show _=_
      by_cases h1:1≤N
      · simp [h1];omega
      · simp [h1]
    clear h4 hN
    generalize b.take 4=B4 at hcv t1 t3
    go_enter Tryz.func105,Tryz.ntmps105
    go_wp2_with fail
    refine (get_is a c b 4 2 _ HR.out hl rfl (by omega) (by omega) N HN.out).mono ?_;rintro e w2 ⟨rfl,rfl⟩
    go_wp2_with fail
    refine (countMay_is N false HC.out _).mono ?_;rintro e w3 ⟨rfl,rfl⟩
    go_wp2_with fail
    go_ret2
    exact .inr ⟨3,rfl,HE.out,by omega,rfl⟩
  obtain ⟨hin1,hin2⟩:=hin
  have HC:Hid ((decide (1≤N) && decide (N≤32))=true):=by show _=_;simp [hin1,hin2]
  obtain ⟨sz,hsz⟩:∃ sz,6+75 * N=sz:=⟨_,rfl⟩
  by_cases hless:b.length < sz
  · have HE:=Lib.hid (getW_less h6 h4 (by omega) (by omega))
    have HSZ:=Lib.hid hsz
    clear hsz
    clear h4 hN
    generalize b.take 4=B4 at hcv t1 t3
    go_enter Tryz.func105,Tryz.ntmps105
    go_wp2_with fail
    refine (get_is a c b 4 2 _ HR.out hl rfl (by omega) (by omega) N HN.out).mono ?_;rintro e w2 ⟨rfl,rfl⟩
    go_wp2_with fail
    refine (countMay_is N true HC.out _).mono ?_;rintro e w3 ⟨rfl,rfl⟩
    go_wp2_with fail
    refine (batchSize_is N sz HSZ.out _ (by omega)).mono ?_;rintro e w4 ⟨rfl,rfl⟩
    go_wp2_with fail
    go_ret2
    exact .inr ⟨2,rfl,HE.out,by omega,rfl⟩
  by_cases hgreat:sz < b.length
  · have HE:=Lib.hid (getW_great h6 h4 (by omega) (by omega))
    have HSZ:=Lib.hid hsz
    clear hsz
    clear h4 hN
    generalize b.take 4=B4 at hcv t1 t3
    go_enter Tryz.func105,Tryz.ntmps105
    go_wp2_with fail
    refine (get_is a c b 4 2 _ HR.out hl rfl (by omega) (by omega) N HN.out).mono ?_;rintro e w2 ⟨rfl,rfl⟩
    go_wp2_with fail
    refine (countMay_is N true HC.out _).mono ?_;rintro e w3 ⟨rfl,rfl⟩
    go_wp2_with fail
    refine (batchSize_is N sz HSZ.out _ (by omega)).mono ?_;rintro e w4 ⟨rfl,rfl⟩
    go_wp2_with fail
    refine (batchSize_is N sz HSZ.out _ (by omega)).mono ?_;rintro e w4 ⟨rfl,rfl⟩
    go_wp2_with fail
    go_ret2
    exact .inr ⟨3,rfl,HE.out,by omega,rfl⟩
  · have HLEN:Hid (b.length=6+75 * N):=by show _=_;omega
    have HE:=Lib.hid (getW_fit h6 h4 (by omega) (by omega))
    rw [hN] at HE
    have HSZ:=Lib.hid hsz
    clear hsz
    clear h4 hN
    generalize b.take 4=B4 at hcv t1 t3
    go_enter Tryz.func105,Tryz.ntmps105
    go_wp2_with fail
    refine (get_is a c b 4 2 _ HR.out hl rfl (by omega) (by omega) N HN.out).mono ?_;rintro e w2 ⟨rfl,rfl⟩
    go_wp2_with fail
    refine (countMay_is N true HC.out _).mono ?_;rintro e w3 ⟨rfl,rfl⟩
    go_wp2_with fail
    refine (batchSize_is N sz HSZ.out _ (by omega)).mono ?_;rintro e w4 ⟨rfl,rfl⟩
    go_wp2_with fail
    refine (batchSize_is N sz HSZ.out _ (by omega)).mono ?_;rintro e w4 ⟨rfl,rfl⟩
    go_wp2_with fail
    go_ret2
    exact .inl ⟨N,rfl,HE.out,HLEN.out,by omega,by omega,rfl⟩
theorem own_there {w:World} {base:Nat} {e:TypeId} {size n g c:Nat} {xs:List Value} (h:w.ownsRow base e size (.slice (some ⟨g,0,none⟩) n c) n xs):w.there g 0 (n * size):=by
  rcases h.2 with ⟨hv,_⟩ | ⟨g',cap,cur,hv,hb,hg,hnc,hcm,hcs,ht⟩
  · cases hv
  · obtain ⟨rfl,rfl⟩:g=g'∧c=cap:=by injection hv;simp_all
    intro j hj
    have hj':j < cur.size:=by rw [hcs];exact Nat.lt_of_lt_of_le hj (Nat.mul_le_mul_right _ hnc)
    rw [Nat.zero_add]
    exact ⟨by rw [cell_of_row _ _ j _ _ _ hg];simp [hj'],frozen_of_row w g j cur e hg⟩
theorem there_part {w:World} {b o n o' m:Nat} (h:w.there b o n) (h1:o≤o') (h2:o'+m≤o+n):w.there b o' m:=fun j hj=>by
  have:=h (o' - o+j) (by omega)
  rwa [show o+(o' - o+j)=o'+j by omega] at this
theorem range_below {w w':World} {B b o:Nat} {cs:List Value} (h:w.rangeAt b o cs) (hb:RowKit.Below B w w') (hB:b < B):w'.rangeAt b o cs:=fun j v hv=>by
  rw [hb.cell (p:=⟨b,o+j,none⟩) hB];exact h j v hv
/-- Cells that are stored behind others. -/
theorem range_next {w:World} {b:Nat} {cs vs:List Value} (h:w.rangeAt b 0 cs) (ht:w.there b cs.length vs.length):(w.setCells b cs.length vs).rangeAt b 0 (cs ++ vs):=fun j v hv=>by
  by_cases hj:j < cs.length
  · rw [List.getElem?_append_left hj] at hv
    exact World.rangeAt_setCells_apart h b cs.length vs (.inr (.inl (by omega))) j v hv
  · rw [List.getElem?_append_right (by omega)] at hv
    have:=World.rangeAt_setCells_same w b cs.length vs ht (j - cs.length) v hv
    rwa [show cs.length+(j - cs.length)=0+j by omega] at this
theorem Rd.range {w:World} {b:Nat} {cs:List Value} (h:w.rangeAt b 0 cs) (hb:b < w.heap.size):Rd w w.heap.size (some ⟨b,0,none⟩) cs:=fun _=>⟨b,0,rfl,hb,fun j u hu=>h j u hu⟩
theorem size_setCells (b:Nat):∀ (vs:List Value) (o:Nat) (w:World),(w.setCells b o vs).heap.size=w.heap.size
  | [],_,_=>rfl
  | v :: r,o,w=>by rw [World.setCells,size_setCells b r (o+1)];simp
set_option maxRecDepth 20000 in
set_option maxHeartbeats 4000000 in
theorem getW_any (a : Option Addr) (c : Nat) (b : List UInt8) (w : World) (hr : Rd w w.heap.size a (bV b)) (hl : b.length ≤ 1000000000000) (hlc : b.length ≤ c) (hc : c ≤ maxLen) :
    Calls Tryz.prog 80 #[.slice a b.length c] w (SpansOut w (getW b)):=by
  have HR:=Lib.hid hr;have HC:=Lib.hid hc;clear hr hc
  obtain ⟨i0,hi0,hz0,hz1,hz2⟩:=info_parts info_sp
  have HZ2:=Lib.hid hz2;clear hz2
  go_enter Tryz.func80,Tryz.ntmps80
  go_wp2_with fail
  refine (countOf_any a c b _ HR.out hl hlc HC.out).mono ?_
  rintro e w1 (⟨N,rfl,hg,hlen,hn1,hn2,rfl⟩ | ⟨k,rfl,hg,hk,rfl⟩)
  case inr =>
    have HG:=Lib.hid hg
    have hk':((k:Int) != 0)=true:=by simp;omega
    clear hg hk
    go_wp2_with fail
    go_ret2
    exact SpansOut.no HG.out (Below.refl _ _)
  have HG:=Lib.hid hg;have HLEN:=Lib.hid hlen
  clear hg hlen
  go_wp2_with (refine wpList_make_room _ rfl (.tmp 16) (.tmp 16) 98 rfl w.heap.size 126 i0 _ 8 Tryz.underlying98 hi0 hz0 hz1 .i64 .i64 _ _ N N rfl rfl rfl rfl (Nat.le_refl _) (by rw [HZ2.out]; omega) (by unfold maxLen; omega) (Nat.le_refl _) ?_
               intro w2 hown2 hb2
               have HT2:=Lib.hid (own_there hown2);have HB2:=Lib.hid hb2
               have HS2:Hid (w.heap.size < w2.heap.size):=(own_shape hown2 rfl).2.1
               clear hown2 hb2)
  obtain ⟨g,hg⟩:∃ g,g=w.heap.size:=⟨_,rfl⟩
  rw [← hg]
  rw [← hg] at HT2
  have HGW:=Lib.hid hg
  have HS2':Hid (g < w2.heap.size):=by show _ < _;rw [hg];exact HS2.out
  clear hg HS2
  go_loopw [5,20] (fun _ i wr=>∃ (k:Nat) (l:List Sp),k≤N∧i=.int .i64 k∧l.length=k∧wr.there g 0 (N * 8)∧wr.rangeAt g 0 (flatL l)∧g < wr.heap.size∧spansTo b k=.ok l∧RowKit.Below w.heap.size w wr) (fun _ i _=>N - (intOf i).toNat)
  case atStart=>exact ⟨0,[],Nat.zero_le _,rfl,rfl,HT2.out,fun j v hv=>(by simp [flatL] at hv),HS2'.out,rfl,HB2.out⟩
  case round =>
    obtain ⟨k,l,hk,rfl,hlk,hth,hra,hgs,hsp,hbw⟩:=hrel
    have HLK:=Lib.hid hlk;have HT:=Lib.hid hth;have HA:=Lib.hid hra;have HGS:=Lib.hid hgs;have HL:=Lib.hid hsp;have HW:=Lib.hid hbw;clear hlk hth hra hgs hsp hbw
    by_cases hlt:k < N
    · have hkN:(k:Int) < (N:Int):=by omega
      have i1:(0:Int)≤(k:Int):=by omega
      obtain ⟨q,hq⟩:∃ q,6+75 * k=q:=⟨_,rfl⟩
      have HQ:=Lib.hid hq
      have hq75:q+75≤b.length:=by have:=HLEN.out;omega
      clear hq
      go_wp2_with fail
      refine (batchSize_is k q HQ.out _ (by omega)).mono ?_;rintro e w4 ⟨rfl,rfl⟩
      go_wp2_with fail
      refine (spanAt_any a c b q wr ((HR.out.below HW.out).more HW.out.size) hl hlc HC.out hq75).mono ?_
      rintro e w5 (⟨s,hs,rfl,hb5⟩ | ⟨n,s,hs,rfl,hb5⟩)
      · have HS:=Lib.hid hs
        have HW5:=Lib.hid (bel2 HW.out hb5)
        have HT5:=Lib.hid (there_below HT.out hb5 HGS.out)
        have HA5:=Lib.hid (range_below HA.out hb5 HGS.out)
        have HG5:Hid (g < w5.heap.size):=Nat.lt_of_lt_of_le HGS.out hb5.size
        have HTK:Hid (w5.there g (k * 8) 8):=there_part HT5.out (Nat.zero_le _) (by omega)
        clear hs hb5
        unfold Sp.v
        go_wp2_with (refine wpList_store_mid rfl 126 (.tmp 32) (.tmp 30) rfl g (k * 8) s.c ?hx ?hy ?ht ?hi ?h1 ?h
                     case hx=>rfl
                     case hy=>rfl
                     case ht=>exact HTK.out
                     case hi=>exact size_sp
                     case h1=>exact sp_one _)
        go_roundw
        case rel =>
          refine ⟨k+1,l ++ [s],by omega,by go_num,by rw [List.length_append,HLK.out];rfl,World.there_setCells HT5.out _ _ _,?_,by rw [size_setCells];exact HG5.out,spansTo_next HL.out (by rw [HQ.out];exact HS.out),Below_setCells (by rw [HGW.out];exact Nat.le_refl _) _ _ _ HW5.out⟩
          have h:=range_next (vs:=s.c.toList) HA5.out (by rw [flatL_length,HLK.out];exact HTK.out)
          rw [flatL_length,HLK.out] at h
          rw [flatL_append]
          simpa [flatL] using h
        case measure=>simp [intOf];omega
      · have HS:=Lib.hid hs
        have HE:=Lib.hid (spansTo_err HL.out hlt (by rw [HQ.out];exact hs))
        have hn0:((n:Int) != 0)=true:=by have:=spanAt_err hs;simp;omega
        have HW5:=Lib.hid (bel2 HW.out hb5)
        have HTK:Hid (w5.there g (k * 8) 8):=there_part (there_below HT.out hb5 HGS.out) (Nat.zero_le _) (by omega)
        clear hs hb5
        unfold Sp.v
        go_wp2_with (refine wpList_store_mid rfl 126 (.tmp 32) (.tmp 30) rfl g (k * 8) s.c ?hx ?hy ?ht ?hi ?h1 ?h
                     case hx=>rfl
                     case hy=>rfl
                     case ht=>exact HTK.out
                     case hi=>exact size_sp
                     case h1=>exact sp_one _)
        go_ret2
        exact SpansOut.no (by rw [HG.out];exact HE.out) (Below_setCells (by rw [HGW.out];exact Nat.le_refl _) _ _ _ HW5.out)
    · have:k=N:=by omega
      subst this
      go_wp2_with fail
      go_ret2
      rw [HG.out,HL.out]
      exact ⟨some ⟨g,0,none⟩,k,by rw [show (lstW (Except.ok (ε:=Nat) l)).length=k from HLK.out];rfl,by show l.length≤k;rw [HLK.out];exact Nat.le_refl _,by unfold maxLen;omega,Rd.range HA.out HGS.out,HW.out⟩
end Go.Proofs.YtccbpngehedbaaaGreat



namespace Go.Proofs.YtccbpngehedbaaaGreat
open Go Go.RowKit

set_option maxRecDepth 20000
end Go.Proofs.YtccbpngehedbaaaGreat

namespace Go.Proofs.YtccbpngehedbaaaGreat
open Go Go.RowKit

set_option maxRecDepth 20000
end Go.Proofs.YtccbpngehedbaaaGreat

namespace Go.Proofs.YtccbpngehedbaaaGreat
open Go Go.RowKit

set_option maxRecDepth 20000
theorem getW_is (a:Option Addr) (n c:Nat) (b:List UInt8) (hn:n=b.length) (w:World) (hr:Rd w w.heap.size a (bV b)) (hl:b.length≤1000000000000) (hlc:n≤c) (hc:c≤maxLen) :
    Calls Tryz.prog 80 #[.slice a n c] w (SpansOut w (getW b)):=by
  subst hn;exact getW_any a c b w hr hl hlc hc
end Go.Proofs.YtccbpngehedbaaaGreat

