import Derived.Test.YtccbpngehedbaaaGreatJg
import Derived.Test.YtccbpngehedbaaaGreatJe
import Derived.Lib.SlBytesConst
import Derived.Deep.QuietTactic
import Derived.Test.YtccbpngehedbaaaGreatJh
namespace Go.Proofs.YtccbpngehedbaaaGreat
open Go Go.RowKit

/-! Segments, as plain functions: no program. -/
def let7:List UInt8:=[83,69,71,49]
def hd10 (n k:Nat):List UInt8:=let7 ++ (putL n 4 ++ putL k 2)
def headL (n k:Nat):List UInt8:=hd10 n k ++ putL (moreL 0 (hd10 n k)) 4
theorem hd10_length (n k:Nat):(hd10 n k).length=10:=by simp [hd10,let7,putL_length]
theorem headL_length (n k:Nat):(headL n k).length=14:=by simp [headL,hd10_length,putL_length]
/-- The head with which bytes begin (number, keep), or the error's number. -/
def headOf (b:List UInt8):Except Nat (Nat × Nat) :=
  if b.length < 14 then .error 2
  else if b.take 4 ≠ let7 then .error 3
  else if moreL 0 (b.take 10) ≠ gN b 10 4 then .error 8
  else if gN b 8 2=0∨16 < gN b 8 2 then .error 4
  else .ok (gN b 4 4,gN b 8 2)
/-- The bodies that are a batch's bytes, up to the first that is none; how far they go. -/
def bodiesF (isB:List UInt8→Bool) (all:List (List UInt8)):List (List UInt8):=all.takeWhile isB
end Go.Proofs.YtccbpngehedbaaaGreat

namespace Go.Proofs.YtccbpngehedbaaaGreat
open Go Go.RowKit

/-! The landed Head. -/
set_option maxHeartbeats 400000 in
theorem keepMay_is (k:Int) (b:Bool) (h:(decide (1≤k) && decide (k≤16))=b) (w:World):Calls Tryz.prog 108 #[.int .i64 k] w fun e w'=>e=.returned (.bool b)∧w=w':=by
  subst h
  by_cases h:1≤k
  · go_enter Tryz.func108,Tryz.ntmps108
    go_wp2
    go_ret
    exact ⟨ret_bool (by simp [h]),rfl⟩
  · go_enter Tryz.func108,Tryz.ntmps108
    go_wp2
    go_ret
    exact ⟨ret_bool (by simp;omega),rfl⟩
set_option maxHeartbeats 400000 in
theorem sumOf7_is (a:Option Addr) (n c:Nat) (l:List UInt8) (w:World) (hn:n=l.length) (S:Nat) (hS:S=moreL 0 l) (hr:Rd w w.heap.size a (bV l)) (hl:l.length≤1000000000000) :
    Calls Tryz.prog 110 #[.slice a n c] w fun e w'=>e=.returned (.int .u64 (S:Int))∧Below w.heap.size w w':=by
  have HR:=Lib.hid hr;have HN:=Lib.hid hn;have HS:=Lib.hid hS
  have hSl:S < 4294967296:=by rw [hS];exact moreL_lt _ _
  clear hr hn hS
  have hw:IntKind.u64.wrap (S:Int)=(S:Int):=IntWalk.u64_in _ ⟨by omega,by omega⟩
  go_enter Tryz.func110,Tryz.ntmps110
  go_wp2_with fail
  refine (sum_is a n c l w HN.out S HS.out HR.out hl).mono ?_;rintro e w1 ⟨rfl,hb1⟩
  go_wp2_with fail
  go_ret
  exact ⟨rfl,hb1⟩
theorem lit_tag (w:World) (cs:Array Value) (t:TypeId) (x:Nat × TypeId):Rd (w.alloc (.cells cs t x)) (w.alloc (.cells cs t x)).heap.size (some ⟨w.heap.size,0,none⟩) cs.toList:=fun _ =>
  ⟨w.heap.size,0,rfl,by simp,fun j u hu=>by
    simp only [World.cell?,World.alloc,Nat.zero_add]
    simpa using hu⟩
set_option maxHeartbeats 1000000 in
theorem head_own (n k:Nat) (w:World) (hn:n < 4294967296) (h1:1≤k) (h2:k≤16):Calls Tryz.prog 81 #[.int .u32 (n:Int),.int .i64 (k:Int)] w fun e w'=>∃ v,e=.returned (.tuple #[v,.int .i64 0])∧w'.ownsRow w.heap.size 5 1 v 14 (bV (headL n k))∧Below w.heap.size w w':=by
  have HK:Hid ((decide ((1:Int)≤(k:Int)) && decide ((k:Int)≤16))=true):=by show _=_;simp;omega
  have kc:=fun (w:World) (C:Array Value) (n c:Nat)=>Lib.run_convert_bytes_const (P:=Tryz.prog) w 38 5 C n c Tryz.underlying38 Tryz.underlying5
  obtain ⟨L8,h8⟩:∃ L,L=let7 ++ putL n 4:=⟨_,rfl⟩
  obtain ⟨L10,h10⟩:∃ L,L=L8 ++ putL k 2:=⟨_,rfl⟩
  have h8l:L8.length=8:=by rw [h8];simp [let7,putL_length]
  have h10l:L10.length=10:=by rw [h10];simp [h8l,putL_length]
  have h10e:L10=hd10 n k:=by rw [h10,h8,hd10,List.append_assoc]
  obtain ⟨S,hS⟩:∃ S,S=moreL 0 L10:=⟨_,rfl⟩
  have hSl:S < 4294967296:=by rw [hS];exact moreL_lt _ _
  have HH:Hid (headL n k=L10 ++ putL S 4):=by show _=_;rw [headL,hS,h10e]
  have hw1:IntKind.u64.wrap (n:Int)=(n:Int):=IntWalk.u64_in _ ⟨by omega,by omega⟩
  have hw2:IntKind.u64.wrap (k:Int)=(k:Int):=IntWalk.u64_in _ ⟨by omega,by omega⟩
  have H8:=Lib.hid h8;have H10:=Lib.hid h10;have H8L:=Lib.hid h8l;have H10L:=Lib.hid h10l;have HS:=Lib.hid hS
  clear h8 h10 h8l h10l h10e hS
  obtain ⟨LH,hLH⟩:∃ L,L=headL n k:=⟨_,rfl⟩
  rw [← hLH] at HH ⊢
  clear hLH
  go_enter Tryz.func81,Tryz.ntmps81
  go_wp2_with fail
  refine (keepMay_is k true HK.out _).mono ?_;rintro e w1 ⟨rfl,rfl⟩
  go_wp2_with fail
  refine (put6_is (some ⟨w.heap.size,0,none⟩) 4 4 let7 n _ 4 4 L8 _ rfl rfl rfl H8.out (lit_tag w _ _ _) (by simp [let7]) (by simp [let7]) (by omega) (by omega) (by omega)).mono ?_;rintro e w1 ⟨a1,c1,rfl,hc1,_,hr1,hb1⟩
  have HR1:=Lib.hid hr1;have HB1:=Lib.hid (bel2 (box1 w _) hb1);have HC1:=Lib.hid hc1
  clear hr1 hb1 hc1
  go_wp2_with fail
  refine (put6_is a1 _ c1 L8 k _ 2 2 L10 w1 rfl rfl rfl H10.out HR1.out (by rw [H8L.out];omega) HC1.out (by omega) (by omega) (by omega)).mono ?_;rintro e w2 ⟨a2,c2,rfl,hc2,_,hr2,hb2⟩
  have HR2:=Lib.hid hr2;have HB2:=Lib.hid (bel2 HB1.out hb2);have HC2:=Lib.hid hc2
  clear hr2 hb2 hc2
  go_wp2_with fail
  refine (sumOf7_is a2 _ c2 L10 w2 rfl S HS.out HR2.out (by rw [H10L.out];omega)).mono ?_;rintro e w3 ⟨rfl,hb3⟩
  have HR3:=Lib.hid ((HR2.out.below hb3).more hb3.size);have HB3:=Lib.hid (bel2 HB2.out hb3)
  clear hb3
  go_wp2_with fail
  have hput:=put_any a2 c2 L10 S 4 w3 HR3.out (by rw [H10L.out];omega) HC2.out (by omega) (by omega) (by omega)
  rw [show cnt 4=4 from rfl,← HH.out,H10L.out] at hput
  have HPUT:=Lib.hid hput
  clear hput
  rw [H10L.out]
  refine HPUT.out.mono ?_;rintro e w4 ⟨v4,rfl,ho4,hb4⟩
  have HO4:=Lib.hid (own_base ho4 HB3.out.size);have HB4:=Lib.hid (bel2 HB3.out hb4)
  obtain ⟨a4,c4,rfl,_,_,_⟩:=own_slice ho4
  clear ho4 hb4
  go_wp2_with fail
  go_ret2
  exact ⟨_,rfl,HO4.out,HB4.out⟩
end Go.Proofs.YtccbpngehedbaaaGreat

namespace Go.Proofs.YtccbpngehedbaaaGreat
open Go Go.RowKit

/-! The head with which bytes begin, as the landed code reads it. -/
def hdV (n k:Nat):Array Value:=#[.int .u32 (n:Int),.int .i64 (k:Int)]
theorem hdV_one (n k:Nat):(hdV n k).all (·.oneCell')=true:=by simp [hdV,Value.oneCell']
theorem size_hd:(Tryz.prog.info? 193).map (·.size)=some 2:=by kernel_rfl
theorem load_hd (W:World) (b n k:Nat) (ht:W.there b 0 2):(loadVar 193 ⟨b,0,none⟩).run Tryz.prog (W.setCells b 0 (hdV n k).toList)=.ok (.agg (hdV n k)) (W.setCells b 0 (hdV n k).toList) :=
  run_loadVar_mid (P:=Tryz.prog) _ b 0 193 _ _ (World.rangeAt_setCells_same W b 0 (hdV n k).toList ht) Tryz.underlying193 rfl size_hd
def hdOf:Except Nat (Nat × Nat)→Nat × Nat
  | .ok x=>x
  | .error _=>(0,0)
def hdErr:Except Nat (Nat × Nat)→Nat
  | .ok _=>0
  | .error e=>e
theorem headOf_short {b:List UInt8} (h:b.length < 14):headOf b=.error 2:=if_pos h
theorem headOf_form {b:List UInt8} (h:¬ b.length < 14) (h2:b.take 4 ≠ let7):headOf b=.error 3:=by unfold headOf;rw [if_neg h,if_pos h2]
theorem headOf_sum {b:List UInt8} (h:¬ b.length < 14) (h2:b.take 4=let7) (h3:moreL 0 (b.take 10) ≠ gN b 10 4):headOf b=.error 8:=by unfold headOf;rw [if_neg h,if_neg (by simp [h2]),if_pos h3]
theorem headOf_keep {b:List UInt8} (h:¬ b.length < 14) (h2:b.take 4=let7) (h3:moreL 0 (b.take 10)=gN b 10 4) (h4:gN b 8 2=0∨16 < gN b 8 2):headOf b=.error 4:=by unfold headOf;rw [if_neg h,if_neg (by simp [h2]),if_neg (by simp [h3]),if_pos h4]
theorem headOf_ok {b:List UInt8} (h:¬ b.length < 14) (h2:b.take 4=let7) (h3:moreL 0 (b.take 10)=gN b 10 4) (h4:¬ (gN b 8 2=0∨16 < gN b 8 2)):headOf b=.ok (gN b 4 4,gN b 8 2):=by unfold headOf;rw [if_neg h,if_neg (by simp [h2]),if_neg (by simp [h3]),if_neg h4]
def HeadOut (w:World) (r:Except Nat (Nat × Nat)) (e:Ending) (w':World):Prop :=
  e=.returned (.tuple #[.agg (hdV (hdOf r).1 (hdOf r).2),.int .i64 (hdErr r:Nat)])∧Below w.heap.size w w'
theorem HeadOut.no {w w':World} {r:Except Nat (Nat × Nat)} {n:Nat} (h:r=.error n) (hb:Below w.heap.size w w'):HeadOut w r (.returned (.tuple #[.agg (hdV 0 0),.int .i64 (n:Int)])) w':=by
  subst h;exact ⟨rfl,hb⟩
theorem HeadOut.yes {w w':World} {r:Except Nat (Nat × Nat)} {n k:Nat} (h:r=.ok (n,k)) (hb:Below w.heap.size w w'):HeadOut w r (.returned (.tuple #[.agg (hdV n k),.int .i64 0])) w':=by
  subst h;exact ⟨rfl,hb⟩
set_option maxRecDepth 20000 in
set_option maxHeartbeats 2000000 in
theorem headOf_any (a:Option Addr) (c:Nat) (b:List UInt8) (w:World) (hr:Rd w w.heap.size a (bV b)) (hl:b.length≤1000000000000) (hlc:b.length≤c) (hc:c≤maxLen) :
    Calls Tryz.prog 123 #[.slice a b.length c] w (HeadOut w (headOf b)):=by
  unfold maxLen at hc
  obtain ⟨v,hv⟩:∃ v,v=w.alloc (.cells (hdV 0 0) 193):=⟨_,rfl⟩
  have HBV:Hid (Below w.heap.size w v):=by show Below _ _ _;rw [hv];exact box1 _ _
  have HVS:Hid (v.heap.size=w.heap.size+1):=by show _=_;rw [hv];simp
  have HTV:Hid (v.there w.heap.size 0 2):=by show v.there _ _ _;rw [hv];exact there_last _ _ _ _ _ rfl rfl
  have HR:Hid (Rd v v.heap.size a (bV b)):=by show Rd _ _ _ _;exact (hr.below HBV.out).more HBV.out.size
  have HV:=Lib.hid hv
  clear hr
  replace hv:v=w.alloc (.cells #[.int .u32 0,.int .i64 0] 193):=hv
  by_cases h14:b.length < 14
  · have HE:=Lib.hid (headOf_short h14)
    go_enter Tryz.func123,Tryz.ntmps123
    go_wp2_with fail
    refine bodyPost_ret (v:=.tuple #[.agg (hdV 0 0),.int .i64 2]) (results_cell_two (p:=2) (u:=3) (ty:=193) (b:=w.heap.size) (x:=.int .i64 2) rfl rfl rfl (run_loadVar_mid (P:=Tryz.prog) _ w.heap.size 0 193 _ _ (rangeAt_last _ _ _ _ rfl) Tryz.underlying193 rfl size_hd)) rfl ?_
    exact HeadOut.no HE.out (box1 _ _)
  have e4:(ByteArray.mk #[83,69,71,49]).toList=[83,69,71,49]:=by rw [ByteArray.toList_eq]
  have hcv:=run_string_of (w:=v) (l:=b.take 4) 4 c (by rw [bV_take];exact HR.out.take 4) (by rw [List.length_take];omega)
  have i1:(4:Int)≤(c:Int):=by omega
  have i2:(10:Int)≤(c:Int):=by omega
  obtain ⟨N,hN⟩:∃ N,gN b 4 4=N:=⟨_,rfl⟩
  obtain ⟨K,hK⟩:∃ K,gN b 8 2=K:=⟨_,rfl⟩
  obtain ⟨S,hS⟩:∃ S,gN b 10 4=S:=⟨_,rfl⟩
  obtain ⟨T,hT⟩:∃ T,T=moreL 0 (b.take 10):=⟨_,rfl⟩
  have hN32:N < 4294967296:=by have:=gN_lt b 4 4;omega
  have hK16:K < 65536:=by have:=gN_lt b 8 2;omega
  have hS32:S < 4294967296:=by have:=gN_lt b 10 4;omega
  have hT32:T < 4294967296:=by rw [hT];exact moreL_lt _ _
  have hw1:IntKind.u32.wrap (N:Int)=(N:Int):=IntWalk.u32_in _ ⟨by omega,by omega⟩
  have hw2:IntKind.i64.wrap (K:Int)=(K:Int):=i64_small (by omega)
  have HN:=Lib.hid hN;have HK:=Lib.hid hK;have HS:=Lib.hid hS;have HT:=Lib.hid hT
  have HR10:Hid (Rd v v.heap.size a (bV (b.take 10))):=by show Rd _ _ _ _;rw [bV_take];exact HR.out.take 10
  by_cases h4:b.take 4=let7
  case neg =>
    have HE:=Lib.hid (headOf_form h14 h4)
    obtain ⟨t1,t2⟩:=str_eq (x:=bs (b.take 4)) (y:=ByteArray.mk #[83,69,71,49]) (b:=false) (by
      have:¬ bs (b.take 4)=ByteArray.mk #[83,69,71,49]:=fun e=>h4 (bs_inj e)
      simp [this])
    have t3:((bs (b.take 4)).toList != [83,69,71,49])=true:=by rw [bne,← e4,t1];rfl
    rw [e4] at t1
    clear t2 e4
    clear h4 hN hK hS hT
    generalize b.take 4=B4 at hcv t1 t3
    go_enter Tryz.func123,Tryz.ntmps123
    go_wp2_with fail
    rw [← hv]
    clear hv
    refine (get_is a c b 4 4 _ HR.out hl rfl (by omega) (by omega) N HN.out).mono ?_;rintro e w2 ⟨rfl,rfl⟩
    go_wp2_with fail
    refine (get_is a c b 8 2 _ HR.out hl rfl (by omega) (by omega) K HK.out).mono ?_;rintro e w2 ⟨rfl,rfl⟩
    go_wp2_with fail
    refine (get_is a c b 10 4 _ HR.out hl rfl (by omega) (by omega) S HS.out).mono ?_;rintro e w2 ⟨rfl,rfl⟩
    go_wp2_with (refine wpList_store_mid rfl 193 (.tmp 2) (.tmp 34) rfl w.heap.size 0 (hdV 0 0) rfl rfl HTV.out size_hd (hdV_one _ _) ?_)
    refine bodyPost_ret (v:=.tuple #[.agg (hdV 0 0),.int .i64 3]) (results_cell_two (p:=2) (u:=3) (ty:=193) (b:=w.heap.size) (x:=.int .i64 3) rfl rfl rfl (load_hd _ _ _ _ HTV.out)) rfl ?_
    exact HeadOut.no HE.out (Below_setCells (Nat.le_refl _) _ _ _ HBV.out)
  obtain ⟨t1,t2⟩:=str_eq (x:=bs (b.take 4)) (y:=ByteArray.mk #[83,69,71,49]) (b:=true) (by rw [h4];decide)
  have t3:((bs (b.take 4)).toList != [83,69,71,49])=false:=by rw [bne,← e4,t1];rfl
  rw [e4] at t1
  clear t2 e4
  by_cases h8:T=S
  case neg =>
    have HE:=Lib.hid (headOf_sum h14 h4 (by rw [← hT,hS];exact h8))
    have hne:((T:Int) != (S:Int))=true:=by simp;omega
    clear h4 hN hK hS hT h8
    generalize b.take 4=B4 at hcv t1 t3
    go_enter Tryz.func123,Tryz.ntmps123
    go_wp2_with fail
    rw [← hv]
    clear hv
    refine (get_is a c b 4 4 _ HR.out hl rfl (by omega) (by omega) N HN.out).mono ?_;rintro e w2 ⟨rfl,rfl⟩
    go_wp2_with fail
    refine (get_is a c b 8 2 _ HR.out hl rfl (by omega) (by omega) K HK.out).mono ?_;rintro e w2 ⟨rfl,rfl⟩
    go_wp2_with fail
    refine (get_is a c b 10 4 _ HR.out hl rfl (by omega) (by omega) S HS.out).mono ?_;rintro e w2 ⟨rfl,rfl⟩
    go_wp2_with fail
    refine (sumOf7_is a 10 c (b.take 10) _ (by rw [List.length_take];omega) T HT.out HR10.out (by rw [List.length_take];omega)).mono ?_;rintro e w3 ⟨rfl,hb3⟩
    have HB3:=Lib.hid (HBV.out.trans (hb3.mono HBV.out.size))
    have HT3:=Lib.hid (there_below HTV.out hb3 (by rw [HVS.out];omega))
    clear hb3
    go_wp2_with (refine wpList_store_mid rfl 193 (.tmp 2) (.tmp 41) rfl w.heap.size 0 (hdV 0 0) rfl rfl HT3.out size_hd (hdV_one _ _) ?_)
    refine bodyPost_ret (v:=.tuple #[.agg (hdV 0 0),.int .i64 8]) (results_cell_two (p:=2) (u:=3) (ty:=193) (b:=w.heap.size) (x:=.int .i64 8) rfl rfl rfl (load_hd _ _ _ _ HT3.out)) rfl ?_
    exact HeadOut.no HE.out (Below_setCells (Nat.le_refl _) _ _ _ HB3.out)
  subst h8
  by_cases hk:K=0∨16 < K
  · have HE:=Lib.hid (headOf_keep h14 h4 (by rw [← hT,hS]) (by rw [hK];exact hk))
    have HKM:Hid ((decide ((1:Int)≤(K:Int)) && decide ((K:Int)≤16))=false):=by
      show _=_
      by_cases h1:1≤K
      · simp;omega
      · simp;omega
    clear h4 hN hK hS hT hk
    generalize b.take 4=B4 at hcv t1 t3
    go_enter Tryz.func123,Tryz.ntmps123
    go_wp2_with fail
    rw [← hv]
    clear hv
    refine (get_is a c b 4 4 _ HR.out hl rfl (by omega) (by omega) N HN.out).mono ?_;rintro e w2 ⟨rfl,rfl⟩
    go_wp2_with fail
    refine (get_is a c b 8 2 _ HR.out hl rfl (by omega) (by omega) K HK.out).mono ?_;rintro e w2 ⟨rfl,rfl⟩
    go_wp2_with fail
    refine (get_is a c b 10 4 _ HR.out hl rfl (by omega) (by omega) T HS.out).mono ?_;rintro e w2 ⟨rfl,rfl⟩
    go_wp2_with fail
    refine (sumOf7_is a 10 c (b.take 10) _ (by rw [List.length_take];omega) T HT.out HR10.out (by rw [List.length_take];omega)).mono ?_;rintro e w3 ⟨rfl,hb3⟩
    have HB3:=Lib.hid (HBV.out.trans (hb3.mono HBV.out.size))
    have HT3:=Lib.hid (there_below HTV.out hb3 (by rw [HVS.out];omega))
    clear hb3
    go_wp2_with fail
    refine (keepMay_is K false HKM.out _).mono ?_;rintro e w4 ⟨rfl,rfl⟩
    go_wp2_with (refine wpList_store_mid rfl 193 (.tmp 2) (.tmp 47) rfl w.heap.size 0 (hdV 0 0) rfl rfl HT3.out size_hd (hdV_one _ _) ?_)
    refine bodyPost_ret (v:=.tuple #[.agg (hdV 0 0),.int .i64 4]) (results_cell_two (p:=2) (u:=3) (ty:=193) (b:=w.heap.size) (x:=.int .i64 4) rfl rfl rfl (load_hd _ _ _ _ HT3.out)) rfl ?_
    exact HeadOut.no HE.out (Below_setCells (Nat.le_refl _) _ _ _ HB3.out)
  · have HE:=Lib.hid (headOf_ok h14 h4 (by rw [← hT,hS]) (by rw [hK];exact hk))
    rw [hN,hK] at HE
    have HKM:Hid ((decide ((1:Int)≤(K:Int)) && decide ((K:Int)≤16))=true):=by show _=_;simp;omega
    clear h4 hN hK hS hT hk
    generalize b.take 4=B4 at hcv t1 t3
    go_enter Tryz.func123,Tryz.ntmps123
    go_wp2_with fail
    rw [← hv]
    clear hv
    refine (get_is a c b 4 4 _ HR.out hl rfl (by omega) (by omega) N HN.out).mono ?_;rintro e w2 ⟨rfl,rfl⟩
    go_wp2_with fail
    refine (get_is a c b 8 2 _ HR.out hl rfl (by omega) (by omega) K HK.out).mono ?_;rintro e w2 ⟨rfl,rfl⟩
    go_wp2_with fail
    refine (get_is a c b 10 4 _ HR.out hl rfl (by omega) (by omega) T HS.out).mono ?_;rintro e w2 ⟨rfl,rfl⟩
    go_wp2_with fail
    refine (sumOf7_is a 10 c (b.take 10) _ (by rw [List.length_take];omega) T HT.out HR10.out (by rw [List.length_take];omega)).mono ?_;rintro e w3 ⟨rfl,hb3⟩
    have HB3:=Lib.hid (HBV.out.trans (hb3.mono HBV.out.size))
    have HT3:=Lib.hid (there_below HTV.out hb3 (by rw [HVS.out];omega))
    clear hb3
    go_wp2_with fail
    refine (keepMay_is K true HKM.out _).mono ?_;rintro e w4 ⟨rfl,rfl⟩
    go_wp2_with (refine wpList_store_mid rfl 193 (.tmp 2) (.tmp 52) rfl w.heap.size 0 (hdV N K) rfl rfl HT3.out size_hd (hdV_one _ _) ?_)
    refine bodyPost_ret (v:=.tuple #[.agg (hdV N K),.int .i64 0]) (results_cell_two (p:=2) (u:=3) (ty:=193) (b:=w.heap.size) (x:=.int .i64 0) rfl rfl rfl (load_hd _ _ _ _ HT3.out)) rfl ?_
    exact HeadOut.yes HE.out (Below_setCells (Nat.le_refl _) _ _ _ HB3.out)
end Go.Proofs.YtccbpngehedbaaaGreat

namespace Go.Proofs.YtccbpngehedbaaaGreat
open Go Go.RowKit Go.Sort

/-! What is gathered of a segment. -/
def RB (w:World) (rb N K:Nat) (v:Value) (g:Int):Prop:=w.heap[rb]?=some (.cells #[.int .u32 (N:Int),.int .i64 (K:Int),v,.int .i64 g] 197)
section
variable {w w':World} {rb N K:Nat} {v:Value} {g:Int}
theorem RB.lt (h:RB w rb N K v g):rb < w.heap.size:=(Array.getElem?_eq_some_iff.1 h).1
theorem RB.c0 (h:RB w rb N K v g):w.cell? ⟨rb,0,none⟩=some (.int .u32 (N:Int)):=by unfold RB at h;simp [World.cell?,h]
theorem RB.c1 (h:RB w rb N K v g):w.cell? ⟨rb,1,none⟩=some (.int .i64 (K:Int)):=by unfold RB at h;simp [World.cell?,h]
theorem RB.c2 (h:RB w rb N K v g):w.cell? ⟨rb,2,none⟩=some v:=by unfold RB at h;simp [World.cell?,h]
theorem RB.c3 (h:RB w rb N K v g):w.cell? ⟨rb,3,none⟩=some (.int .i64 g):=by unfold RB at h;simp [World.cell?,h]
theorem RB.fz (h:RB w rb N K v g) (i:Nat):w.frozen? ⟨rb,i,none⟩=false:=by unfold RB at h;simp [World.frozen?,h]
theorem RB.grown (h:RB w rb N K v g) {row:Option Nat} (hg:w.grownBy w' row) (hr:some rb ≠ row):RB w' rb N K v g:=(hg.block rb h.lt hr).trans h
theorem RB.below (h:RB w rb N K v g) {B:Nat} (hb:Below B w w') (hB:rb < B):RB w' rb N K v g:=(hb.block rb hB).trans h
theorem RB.set (h:RB w rb N K v g) (v':Value) (g':Int):RB ((w.setCell ⟨rb,2,none⟩ v').setCell ⟨rb,3,none⟩ (.int .i64 g')) rb N K v' g':=by
  unfold RB at h ⊢
  simp [World.setCell,Array.getElem?_modify,h]
end
theorem beqI (n k:Nat):((n:Int) == (k:Int))=decide (n=k):=by
  by_cases h:n=k
  · subst h;simp
  · have:¬ ((n:Int)=(k:Int)):=by omega
    simp [h,this]
set_option maxHeartbeats 1000000 in
theorem full_is {rb N K:Nat} {a:Option Addr} {n c:Nat} {g:Int} (w:World) (h:RB w rb N K (.slice a n c) g) (r:Bool) (hr:decide (n=K)=r) :
    Calls Tryz.prog 152 #[.pointer (some ⟨rb,0,none⟩)] w fun e w'=>e=.returned (.bool r)∧Below w.heap.size w w':=by
  have HE:Hid (((n:Int) == (K:Int))=r):=by show _=_;rw [← hr];exact beqI n K
  have c1:=h.c1;have c2:=h.c2
  clear h hr
  go_enter Tryz.func152,Tryz.ntmps152
  go_wp2_with fail
  go_quiet (fail)
  go_wp2_with fail
  go_ret
  exact ⟨ret_bool HE.out,Below_drewN (Below.refl _ _) _⟩
set_option maxHeartbeats 1000000 in
theorem isBatch_is (a:Option Addr) (n c:Nat) (b:List UInt8) (w:World) (hn:n=b.length) (hr:Rd w w.heap.size a (bV b)) (hl:b.length≤1000000000000) (hlc:n≤c) (hc:c≤maxLen) :
    Calls Tryz.prog 154 #[.slice a n c] w fun e w'=>e=.returned (.bool (decide (errW (getW b)=0)))∧Below w.heap.size w w':=by
  have HR:=Lib.hid hr;have HN:=Lib.hid hn;have HC:=Lib.hid hc;have HLC:=Lib.hid hlc
  clear hr hn hc hlc
  go_enter Tryz.func154,Tryz.ntmps154
  go_wp2_with fail
  refine (getW_is a n c b HN.out w HR.out hl HLC.out HC.out).mono ?_;rintro e w1 ⟨a1,c1,rfl,_,_,_,hb1⟩
  have HB1:=Lib.hid hb1;clear hb1
  go_wp2_with fail
  go_ret
  exact ⟨ret_bool (beqI _ 0),HB1.out⟩
end Go.Proofs.YtccbpngehedbaaaGreat

namespace Go.Proofs.YtccbpngehedbaaaGreat
open Go Go.RowKit Go.Sort

/-! gather: the bodies that are batches' bytes, from the head on. -/
def isB (b:List UInt8):Bool:=decide (errW (getW b)=0)
def segB (l:List UInt8) (k:Nat):List (List UInt8):=bodiesF isB (allF l k 14)
theorem while_all {p:List UInt8→Bool}:∀ {L:List (List UInt8)},(∀ x ∈ L,p x=true)→L.takeWhile p=L
  | [],_=>rfl
  | x :: L,h=>by rw [List.takeWhile_cons,if_pos (h x (List.mem_cons_self ..)),while_all fun y hy=>h y (List.mem_cons_of_mem _ hy)]
theorem while_stop {p:List UInt8→Bool} {b:List UInt8} (hb:p b=false) {R:List (List UInt8)}:∀ {L:List (List UInt8)},(∀ x ∈ L,p x=true)→(L ++ b :: R).takeWhile p=L
  | [],_=>by rw [List.nil_append,List.takeWhile_cons,if_neg (by simp [hb])]
  | x :: L,h=>by rw [List.cons_append,List.takeWhile_cons,if_pos (h x (List.mem_cons_self ..)),while_stop hb fun y hy=>h y (List.mem_cons_of_mem _ hy)]
/-- L's bodies have been found, each a batch's bytes, of k at most. -/
def Seen (l:List UInt8) (k:Nat) (L:List (List UInt8)):Prop:=Found l k 14 L∧∀ x ∈ L,isB x=true
theorem Seen.start (l:List UInt8) (k:Nat):Seen l k []:=⟨Found.start _ _ _,fun _ h=>absurd h (by simp)⟩
theorem Seen.next {l b:List UInt8} {k:Nat} {L:List (List UInt8)} (h:Seen l k L) (hm:L.length < k) (hg:gotF l (endF 14 L)=.ok b) (hb:isB b=true):Seen l k (L ++ [b]) :=
  ⟨h.1.next hm hg,fun x hx=>by
    rcases List.mem_append.1 hx with hx | hx
    · exact h.2 x hx
    · rw [List.mem_singleton] at hx;subst hx;exact hb⟩
theorem Seen.stop {l:List UInt8} {k:Nat} {L:List (List UInt8)} {e:Nat} (h:Seen l k L) (hg:gotF l (endF 14 L)=.error e):segB l k=L:=by
  unfold segB bodiesF;rw [h.1.stop hg];exact while_all h.2
theorem Seen.full {l:List UInt8} {k:Nat} {L:List (List UInt8)} (h:Seen l k L) (hk:k≤L.length):segB l k=L:=by
  unfold segB bodiesF;rw [h.1.full hk];exact while_all h.2
theorem Seen.none {l b:List UInt8} {k:Nat} {L:List (List UInt8)} (h:Seen l k L) (hm:L.length < k) (hg:gotF l (endF 14 L)=.ok b) (hb:isB b=false):segB l k=L:=by
  have h2:=(h.1.next hm hg).2.1
  unfold segB bodiesF
  rw [h2,List.append_assoc]
  exact while_stop hb h.2
theorem BodAt.below {B0:Nat} {x:Bod} {w w':World} (h:BodAt B0 x w) (hb:RowKit.Below w.heap.size w w'):BodAt B0 x w':=own_below h hb
theorem own_off {w:World} {base:Nat} {e:TypeId} {size n:Nat} {u:Value} {xs:List Value} (h:w.ownsRow base e size u n xs) {rb:Nat} (hb:rb < base) (i:Nat) (z:Value):(w.setCell ⟨rb,i,none⟩ z).ownsRow base e size u n xs :=
  h.kept (row:=some rb) (by refine ⟨rfl,rfl,rfl,by simp,fun k _ hne=>?_⟩;have:¬ rb=k:=fun e=>hne (by rw [e]);simp [World.setCell,Array.getElem?_modify,this]) (by
    cases hk:u.ownBlock with
    | none=>exact .inl rfl
    | some k=>have:=(own_shape h hk).1;exact .inr (by simp;omega))
/-- What gather leaves. -/
def GatherOut (w0 W:World) (rb N K:Nat) (b:List UInt8) (e:Ending) (w':World):Prop :=
  e=.returned (.tuple #[])∧∃ (v:Value) (xs:List Bod),RB w' rb N K v (endF 14 (xs.map Bod.b))∧w'.ownsRow W.heap.size 38 1 v xs.length (xs.map Bod.v)∧(∀ x ∈ xs,BodAt W.heap.size x w')∧xs.map Bod.b=segB b K∧Below w0.heap.size w0 w'∧W.heap.size≤w'.heap.size
set_option maxRecDepth 20000 in
set_option maxHeartbeats 2000000 in
theorem gather_any (rb N K : Nat) (a : Option Addr) (c : Nat) (b : List UInt8) (w0 W : World) (hB : Below w0.heap.size w0 W) (hrb : w0.heap.size ≤ rb) (box : RB W rb N K (.slice none 0 0) 14)
    (hr:Rd w0 w0.heap.size a (bV b)) (hl:b.length≤1000000000000) (hlc:b.length≤c) (hc:c≤maxLen) (hK:K≤16) :
    Calls Tryz.prog 124 #[.pointer (some ⟨rb,0,none⟩),.slice a b.length c] W (GatherOut w0 W rb N K b):=by
  have HB:=Lib.hid hB;have HRB:=Lib.hid hrb;have HBOX:=Lib.hid box;have HR:=Lib.hid hr;have HLC:=Lib.hid hlc;have HC:=Lib.hid hc
  have hws:=box.lt
  clear hB hrb box hr hlc hc
  obtain ⟨i0,hi0,hz0,hz1,hz2⟩:=info_parts info_bytes
  have HZ2:=Lib.hid hz2;clear hz2
  have HW0:Hid (w0.heap.size≤W.heap.size):=HB.out.size
  go_enter Tryz.func124,Tryz.ntmps124
  go_wp2_with fail
  go_loopw [4,5,6] (fun _ _ _ wr=>∃ (v:Value) (xs:List Bod),Seen b K (xs.map Bod.b)∧RB wr rb N K v (endF 14 (xs.map Bod.b))∧wr.ownsRow W.heap.size 38 1 v xs.length (xs.map Bod.v)∧(∀ x ∈ xs,BodAt W.heap.size x wr)∧Below w0.heap.size w0 wr∧W.heap.size≤wr.heap.size)
    (fun _ _ _ wr=>K - (match wr.cell? ⟨rb,2,none⟩ with | some (.slice _ n _)=>n | _=>0))
  case atStart=>exact ⟨_,[],Seen.start _ _,HBOX.out,World.ownsRow_nil _ _ _ _,fun _ h=>absurd h (by simp),HB.out,Nat.le_refl _⟩
  case round =>
    obtain ⟨v,xs,hs,hbox,ho,hbod,hb,hsz⟩:=hrel
    have HS:=Lib.hid hs;have HX:=Lib.hid hbox;have HO:=Lib.hid ho;have HBD:=Lib.hid hbod;have HBW:=Lib.hid hb;have HSZ:=Lib.hid hsz
    have hxk:xs.length≤K:=by have:=hs.1.1;rwa [List.length_map] at this
    obtain ⟨va,vc,rfl,_,_,_⟩:=own_slice ho
    clear hs hbox ho hbod hb hsz
    by_cases hlt:xs.length=K
    · go_wp2_with fail
      refine (full_is wr HX.out true (decide_eq_true hlt)).mono ?_;rintro e w1 ⟨rfl,hb1⟩
      have HB1:=Lib.hid hb1;clear hb1
      go_wp2_with fail
      go_end0
      exact ⟨rfl,_,xs,HX.out.below HB1.out HX.out.lt,own_below HO.out HB1.out,fun x hx=>(HBD.out x hx).below HB1.out,(HS.out.full (by rw [List.length_map];omega)).symm,HBW.out.trans (HB1.out.mono HBW.out.size),Nat.le_trans HSZ.out HB1.out.size⟩
    · have hltk:xs.length < K:=by omega
      have HLT:=Lib.hid hltk
      go_wp2_with fail
      refine (full_is wr HX.out false (decide_eq_false hlt)).mono ?_;rintro e w1 ⟨rfl,hb1⟩
      have HX1:=Lib.hid (HX.out.below hb1 HX.out.lt);have HO1:=Lib.hid (own_below HO.out hb1);have HBD1:Hid (∀ x ∈ xs,BodAt W.heap.size x w1):=fun x hx=>(HBD.out x hx).below hb1
      have HB1:=Lib.hid (HBW.out.trans (hb1.mono HBW.out.size));have HSZ1:Hid (W.heap.size≤w1.heap.size):=Nat.le_trans HSZ.out hb1.size
      clear hb1
      have c3:=HX1.out.c3
      obtain ⟨E,hE⟩:∃ E,E=endF 14 (xs.map Bod.b):=⟨_,rfl⟩
      have HE:=Lib.hid hE
      rw [← hE] at c3 HX1
      clear hE
      go_wp2_with fail
      refine (gotF_any a b.length c b E w1 rfl HLC.out HC.out hl ((HR.out.below HB1.out).more HB1.out.size)).mono ?_
      rintro e w2 ⟨hb2,(⟨B,bv,hg,rfl,ho2⟩ | ⟨k,hg,rfl⟩)⟩
      · have HX2:=Lib.hid (HX1.out.below hb2 HX1.out.lt);have HO2:=Lib.hid (own_below HO1.out hb2);have HBD2:Hid (∀ x ∈ xs,BodAt W.heap.size x w2):=fun x hx=>(HBD1.out x hx).below hb2
        have HB2:=Lib.hid (HB1.out.trans (hb2.mono HB1.out.size));have HSZ2:Hid (W.heap.size≤w2.heap.size):=Nat.le_trans HSZ1.out hb2.size
        have HG:=Lib.hid hg;have HBV:=Lib.hid (own_base ho2 HSZ1.out)
        have hfit:=gotF_fits hg
        obtain ⟨ba,bc,rfl,hbn,hbm,_⟩:=own_slice ho2
        have HBN:=Lib.hid hbn;have HBM:=Lib.hid hbm
        have hBl:B.length≤2406:=hfit.2.2.2
        have HEL:Hid (0≤E∧E≤1000000000000):=⟨by omega,by omega⟩
        clear hb2 hg ho2 hbn hbm hfit
        cases hib:isB B
        · have HIB:=Lib.hid hib
          have HCALL:Hid (decide (errW (getW B)=0)=false):=hib
          clear hib
          go_wp2_with fail
          refine (isBatch_is ba B.length bc B w2 rfl (Rd.own HBV.out) (by omega) HBN.out HBM.out).mono ?_;rintro e w3 ⟨rfl,hb3⟩
          rw [HCALL.out]
          have HX3:=Lib.hid (HX2.out.below hb3 HX2.out.lt);have HO3:=Lib.hid (own_below HO2.out hb3);have HBD3:Hid (∀ x ∈ xs,BodAt W.heap.size x w3):=fun x hx=>(HBD2.out x hx).below hb3
          have HB3:=Lib.hid (HB2.out.trans (hb3.mono HB2.out.size));have HSZ3:Hid (W.heap.size≤w3.heap.size):=Nat.le_trans HSZ2.out hb3.size
          clear hb3
          go_wp2_with fail
          go_end0
          rw [HE.out] at HX3
          exact ⟨rfl,_,xs,HX3.out,HO3.out,HBD3.out,(HS.out.none (by rw [List.length_map];exact HLT.out) (by rw [← HE.out];exact HG.out) HIB.out).symm,HB3.out,HSZ3.out⟩
        · have HIB:=Lib.hid hib
          have HCALL:Hid (decide (errW (getW B)=0)=true):=hib
          clear hib
          go_wp2_with fail
          refine (isBatch_is ba B.length bc B w2 rfl (Rd.own HBV.out) (by omega) HBN.out HBM.out).mono ?_;rintro e w3 ⟨rfl,hb3⟩
          rw [HCALL.out]
          have HX3:=Lib.hid (HX2.out.below hb3 HX2.out.lt);have HO3:=Lib.hid (own_below HO2.out hb3);have HBD3:Hid (∀ x ∈ xs,BodAt W.heap.size x w3):=fun x hx=>(HBD2.out x hx).below hb3
          have HBV3:=Lib.hid (own_below HBV.out hb3)
          have HB3:=Lib.hid (HB2.out.trans (hb3.mono HB2.out.size));have HSZ3:Hid (W.heap.size≤w3.heap.size):=Nat.le_trans HSZ2.out hb3.size
          clear hb3
          have c2:=HX3.out.c2
          have hw0:w0.heap.size≤W.heap.size:=HW0.out
          have hsz3:W.heap.size≤w3.heap.size:=HSZ3.out
          obtain ⟨nx,hnx⟩:∃ nx,nx=xs.length:=⟨_,rfl⟩
          have HNX:=Lib.hid hnx
          have hnx16:nx≤16:=by omega
          rw [← hnx] at c2 HX3 HO3
          clear hnx
          have HOA:=Lib.hid (HO3.out.alloc (.cells #[.slice ba B.length bc] 38))
          have HXA:Hid (RB (w3.alloc (.cells #[.slice ba B.length bc] 38)) rb N K (.slice va nx vc) E):=HX3.out.below (box1 w3 _) HX3.out.lt
          go_wp2_with (at_builtin; go_must (refine wpList_append_rd _ rfl (.tmp 32) (.tmp 34) 23 rfl W.heap.size 38 i0 _ 1 24 Tryz.underlying23 hi0 hz0 hz1 HZ2.out rfl (by omega) _ nx _ rfl HOA.out _ _ 1 _ [.slice ba B.length bc] rfl rfl (lit_rd w3 #[.slice ba B.length bc] _) (by simp [Value.oneCell']) (by unfold maxLen; omega) (by omega) (by simp; omega) ?_)
                       intro v7 w4 hown4 hg4 _
                       obtain ⟨a7,c7,rfl,_,_,_⟩:=own_slice hown4
                       have hne:some rb ≠ (Value.slice va nx vc).ownBlock:=fun e=>by have:=(own_shape HOA.out e.symm).1;omega
                       have X4:=HXA.out.grown hg4 hne
                       have HX4:=Lib.hid X4
                       have d2:=X4.c2
                       have d2f:=X4.fz 2
                       have d3:(w4.setCell ⟨rb,2,none⟩ (.slice a7 (nx+1) c7)).cell? ⟨rb,3,none⟩=some (.int .i64 E):=by rw [World.cell?_setCell_other _ _ _ _ (by simp)];exact X4.c3
                       have d3f:=X4.fz 3
                       have HO4:=Lib.hid hown4
                       have HB4:=Lib.hid (Below.of_grown (HB3.out.alloc HB3.out.size (.cells #[.slice ba B.length bc] 38)) hg4 (by simp;omega) (by intro g hg;have:=(own_shape HOA.out hg).1;omega))
                       have HG4:=Lib.hid hg4
                       clear X4 hown4 hg4)
          go_roundw
          case rel =>
            have HXS:Hid (RB ((w4.setCell ⟨rb,2,none⟩ (.slice a7 (nx+1) c7)).setCell ⟨rb,3,none⟩ (.int .i64 (E+6+(B.length:Int)))) rb N K (.slice a7 (nx+1) c7) (E+6+(B.length:Int))):=HX4.out.set _ _
            obtain ⟨w5,hw5⟩:∃ w5,w5=w4.setCell ⟨rb,2,none⟩ (.slice a7 (nx+1) c7):=⟨_,rfl⟩
            rw [← hw5] at HXS ⊢
            obtain ⟨w6,hw6⟩:∃ w6,w6=w5.setCell ⟨rb,3,none⟩ (.int .i64 (E+6+(B.length:Int))):=⟨_,rfl⟩
            rw [← hw6] at HXS ⊢
            have far:∀ {Y:World} {e:TypeId} {u:Value} {k:Nat} {ys:List Value} (i:Nat) (z:Value),Y.ownsRow W.heap.size e 1 u k ys→(Y.setCell ⟨rb,i,none⟩ z).ownsRow W.heap.size e 1 u k ys:=fun i z h=>own_off h (by omega) i z
            have hbod:∀ y:Bod,BodAt W.heap.size y w3→BodAt W.heap.size y w6:=fun y hy=>by
              rw [hw6,hw5]
              exact far 3 _ (far 2 _ (World.ownsRow.kept (hy.alloc (.cells #[.slice ba B.length bc] 38)) HG4.out (rows_apart hy HO3.out (by decide))))
            have hEq:endF 14 ((xs ++ [(⟨.slice ba B.length bc,B,0⟩:Bod)]).map Bod.b)=E+6+(B.length:Int):=by
              rw [List.map_append,List.map_cons,List.map_nil,endF_snoc,← HE.out];show E+((6+B.length:Nat):Int)=_;omega
            refine ⟨.slice a7 (nx+1) c7,xs ++ [⟨.slice ba B.length bc,B,0⟩],?_,by rw [hEq];exact HXS.out,?_,?_,?_,?_⟩
            · rw [List.map_append]
              exact HS.out.next (by rw [List.length_map];exact HLT.out) (by rw [← HE.out];exact HG.out) HIB.out
            · have h:=HO4.out
              rw [HNX.out] at h
              rw [List.length_append,List.map_append,hw6,hw5,HNX.out]
              exact far 3 _ (far 2 _ h)
            · intro y hy
              rcases List.mem_append.1 hy with hy | hy
              · exact hbod y (HBD3.out y hy)
              · rw [List.mem_singleton] at hy;subst hy;exact hbod _ HBV3.out
            · rw [hw6,hw5];exact (HB4.out.setCell (p:=⟨rb,2,none⟩) HRB.out _).setCell (p:=⟨rb,3,none⟩) HRB.out _
            · have:=HG4.out.size
              have h2:=HSZ3.out
              rw [hw6,hw5];simp at this ⊢;omega
          case measure =>
            have h1:=HX4.out.set (.slice a7 (nx+1) c7) (E+6+(B.length:Int))
            have h2:=HX.out.c2
            rw [h1.c2,h2]
            have:=HLT.out
            have:=HNX.out
            simp
            omega
      · have HX2:=Lib.hid (HX1.out.below hb2 HX1.out.lt);have HO2:=Lib.hid (own_below HO1.out hb2);have HBD2:Hid (∀ x ∈ xs,BodAt W.heap.size x w2):=fun x hx=>(HBD1.out x hx).below hb2
        have HB2:=Lib.hid (HB1.out.trans (hb2.mono HB1.out.size));have HSZ2:Hid (W.heap.size≤w2.heap.size):=Nat.le_trans HSZ1.out hb2.size
        have HG:=Lib.hid hg
        have hk:((k:Int) != 0)=true:=by have:=(gotF_err hg).1;simp;omega
        clear hb2 hg
        go_wp2_with fail
        go_end0
        rw [HE.out] at HX2
        exact ⟨rfl,_,xs,HX2.out,HO2.out,HBD2.out,(HS.out.stop (by rw [← HE.out];exact HG.out)).symm,HB2.out,HSZ2.out⟩
end Go.Proofs.YtccbpngehedbaaaGreat

namespace Go.Proofs.YtccbpngehedbaaaGreat
open Go Go.RowKit Go.Sort

/-! seg and Read. -/
def sgV (N K:Nat) (v:Value) (g:Int) (r:Bool):Array Value:=#[.int .u32 (N:Int),.int .i64 (K:Int),v,.int .i64 g,.bool r]
theorem sgV_one (N K:Nat) (a:Option Addr) (n c:Nat) (g:Int) (r:Bool):(sgV N K (.slice a n c) g r).all (·.oneCell')=true:=by simp [sgV,Value.oneCell']
theorem size_sg:(Tryz.prog.info? 163).map (·.size)=some 5:=by kernel_rfl
theorem load_sg (W:World) (b N K:Nat) (v:Value) (g:Int) (r:Bool) (ht:W.there b 0 5):(loadVar 163 ⟨b,0,none⟩).run Tryz.prog (W.setCells b 0 (sgV N K v g r).toList)=.ok (.agg (sgV N K v g r)) (W.setCells b 0 (sgV N K v g r).toList) :=
  run_loadVar_mid (P:=Tryz.prog) _ b 0 163 _ _ (World.rangeAt_setCells_same W b 0 (sgV N K v g r).toList ht) Tryz.underlying163 rfl size_sg
theorem RB.alloc {w:World} {rb N K:Nat} {v:Value} {g:Int} (h:RB w rb N K v g) (o:Obj):RB (w.alloc o) rb N K v g:=h.below (box1 w o) h.lt
set_option maxRecDepth 20000 in
set_option maxHeartbeats 2000000 in
theorem seg_is {rb N K:Nat} {a:Option Addr} {n c:Nat} {g:Int} (w:World) (h:RB w rb N K (.slice a n c) g) (r:Bool) (hr:decide (n=K)=r) :
    Calls Tryz.prog 125 #[.pointer (some ⟨rb,0,none⟩)] w fun e w'=>e=.returned (.agg (sgV N K (.slice a n c) g r))∧Below w.heap.size w w':=by
  obtain ⟨v,hv⟩:∃ v,v=w.alloc (.cells #[.int .u32 0,.int .i64 0,.slice none 0 0,.int .i64 0,.bool false] 163):=⟨_,rfl⟩
  have HBV:Hid (Below w.heap.size w v):=by show Below _ _ _;rw [hv];exact box1 _ _
  have HVS:Hid (v.heap.size=w.heap.size+1):=by show _=_;rw [hv];simp
  have HTV:Hid (v.there w.heap.size 0 5):=by show v.there _ _ _;rw [hv];exact there_last _ _ _ _ _ rfl rfl
  have X:RB v rb N K (.slice a n c) g:=by rw [hv];exact h.alloc _
  have HX:=Lib.hid X
  have HRR:=Lib.hid hr
  have k0:∀ (d:Nat) (os:Array Obj),(grow (redrawn v d) os).cell? ⟨rb,0,none⟩=some (.int .u32 (N:Int)):=fun d os=>(X.below (below_regrown v d os) X.lt).c0
  have k1:∀ (d:Nat) (os:Array Obj),(grow (redrawn v d) os).cell? ⟨rb,1,none⟩=some (.int .i64 (K:Int)):=fun d os=>(X.below (below_regrown v d os) X.lt).c1
  have k2:∀ (d:Nat) (os:Array Obj),(grow (redrawn v d) os).cell? ⟨rb,2,none⟩=some (.slice a n c):=fun d os=>(X.below (below_regrown v d os) X.lt).c2
  have k3:∀ (d:Nat) (os:Array Obj),(grow (redrawn v d) os).cell? ⟨rb,3,none⟩=some (.int .i64 g):=fun d os=>(X.below (below_regrown v d os) X.lt).c3
  clear h X hr
  go_enter Tryz.func125,Tryz.ntmps125
  go_wp2_with fail
  rw [← hv]
  clear hv
  refine wp_region_below_tail 21 (by kernel_rfl) (by kernel_rfl) ?_
  simp only [List.take_succ_cons,List.take_zero,List.drop_succ_cons,List.drop_zero]
  iterate 21 (first | go_big_quiet_step (first
    | (go_at_call 152;exact Calls.regrown_of (full_is _ (HX.out.below (below_regrown v _ _) HX.out.lt) r HRR.out))) | fail)
  refine wpQuiet_nil ?_
  intro W3 hw'
  obtain ⟨⟨d,os⟩,hw''⟩:=hw'
  have hb3:=below_regrown v d os
  rw [← hw''] at hb3
  clear hw'' k0 k1 k2 k3
  have HB3:=Lib.hid (HBV.out.trans (hb3.mono HBV.out.size))
  have HT3:=Lib.hid (there_below HTV.out hb3 (by rw [HVS.out];omega))
  clear hb3
  go_wp2_with (refine wpList_store_mid rfl 163 (.tmp 2) (.tmp 23) rfl w.heap.size 0 (sgV N K (.slice a n c) g r) rfl rfl HT3.out size_sg (sgV_one _ _ _ _ _ _ _) ?_)
  refine bodyPost_ret (v:=.agg (sgV N K (.slice a n c) g r)) (results_cell (p:=2) (ty:=163) (b:=w.heap.size) rfl rfl (load_sg _ _ _ _ _ _ _ HT3.out)) rfl ?_
  exact ⟨rfl,Below_setCells (Nat.le_refl _) _ _ _ HB3.out⟩
/-- What Read answers. -/
def ReadOut (w:World) (b:List UInt8) (e:Ending) (w':World):Prop:=Below w.heap.size w w' ∧
  ((∃ n,headOf b=.error n∧e=.returned (.tuple #[.agg (sgV 0 0 (.slice none 0 0) 0 false),.int .i64 (n:Int)])) ∨
   ∃ (N K:Nat) (v:Value) (xs:List Bod),headOf b=.ok (N,K)∧e=.returned (.tuple #[.agg (sgV N K v (endF 14 (segB b K)) (decide ((segB b K).length=K))),.int .i64 0]) ∧
     w'.ownsRow w.heap.size 38 1 v xs.length (xs.map Bod.v)∧(∀ x ∈ xs,BodAt w.heap.size x w')∧xs.map Bod.b=segB b K)
theorem headOf_err {b:List UInt8} {n:Nat} (h:headOf b=.error n):n=2∨n=3∨n=8∨n=4:=by
  unfold headOf at h
  repeat' split at h
  all_goals first
    | (cases h;done)
    | (injection h with h;omega)
theorem headOf_range {b:List UInt8} {N K:Nat} (h:headOf b=.ok (N,K)):N < 4294967296∧1≤K∧K≤16∧14≤b.length:=by
  unfold headOf at h
  repeat' split at h
  all_goals first
    | (cases h;done)
    | (injection h with h;injection h with h1 h2;have:=gN_lt b 4 4;omega)
theorem own_offs {base size n b:Nat} {e:TypeId} {v:Value} {xs:List Value}:∀ {w:World} (_:w.ownsRow base e size v n xs) (_:b < base) (us:List Value) (o:Nat),(w.setCells b o us).ownsRow base e size v n xs
  | _,h,_,[],_=>h
  | _,h,hb,_ :: us,o=>own_offs (own_off h hb o _) hb us (o+1)
set_option maxRecDepth 20000 in
set_option maxHeartbeats 2000000 in
theorem read_any (a:Option Addr) (c:Nat) (b:List UInt8) (w:World) (hr:Rd w w.heap.size a (bV b)) (hl:b.length≤1000000000000) (hlc:b.length≤c) (hc:c≤maxLen) :
    Calls Tryz.prog 98 #[.slice a b.length c] w (ReadOut w b):=by
  have HLC:=Lib.hid hlc;have HC:=Lib.hid hc
  obtain ⟨v,hv⟩:∃ v,v=w.alloc (.cells #[.int .u32 0,.int .i64 0,.slice none 0 0,.int .i64 0,.bool false] 163):=⟨_,rfl⟩
  have HBV:Hid (Below w.heap.size w v):=by show Below _ _ _;rw [hv];exact box1 _ _
  have HVS:Hid (v.heap.size=w.heap.size+1):=by show _=_;rw [hv];simp
  have HTV:Hid (v.there w.heap.size 0 5):=by show v.there _ _ _;rw [hv];exact there_last _ _ _ _ _ rfl rfl
  have HR:Hid (Rd v v.heap.size a (bV b)):=by show Rd _ _ _ _;exact (hr.below HBV.out).more HBV.out.size
  clear hr hlc hc
  cases hh:headOf b with
  | error n =>
    have HH:=Lib.hid hh
    have hn0:((n:Int) != 0)=true:=by have:=headOf_err hh;simp;omega
    have hcall:Calls Tryz.prog 123 #[.slice a b.length c] v fun e w'=>e=.returned (.tuple #[.agg #[.int .u32 0,.int .i64 0],.int .i64 (n:Int)])∧Below v.heap.size v w':=by
      have h:=headOf_any a c b v HR.out hl HLC.out HC.out
      rw [hh] at h;exact h
    have HCALL:=Lib.hid hcall
    clear hh hcall
    go_enter Tryz.func98,Tryz.ntmps98
    go_wp2_with fail
    rw [← hv]
    clear hv
    refine HCALL.out.mono ?_;rintro e w1 ⟨rfl,hb1⟩
    have HB1:=Lib.hid (HBV.out.trans (hb1.mono HBV.out.size));have HT1:=Lib.hid (there_below HTV.out hb1 (by rw [HVS.out];omega))
    have HS1:Hid (w.heap.size≤w1.heap.size):=HB1.out.size
    clear hb1
    have HT2:=fun o:Obj=>World.there_alloc HT1.out o
    go_wp2_with (refine wpList_store_mid rfl 163 (.tmp 2) (.tmp 14) rfl w.heap.size 0 (sgV 0 0 (.slice none 0 0) 0 false) rfl rfl (HT2 _) size_sg (sgV_one _ _ _ _ _ _ _) ?_)
    refine bodyPost_ret (v:=.tuple #[.agg (sgV 0 0 (.slice none 0 0) 0 false),.int .i64 (n:Int)]) (results_cell_two (p:=2) (u:=3) (ty:=163) (b:=w.heap.size) (x:=.int .i64 (n:Int)) rfl rfl rfl (load_sg _ _ _ _ _ _ _ (HT2 _))) rfl ?_
    exact ⟨Below_setCells (Nat.le_refl _) _ _ _ (HB1.out.alloc HS1.out _),.inl ⟨n,HH.out,rfl⟩⟩
  | ok NK =>
    obtain ⟨N,K⟩:=NK
    have HH:=Lib.hid hh
    obtain ⟨hN32,hK1,hK16,h14⟩:=headOf_range hh
    have hcall:Calls Tryz.prog 123 #[.slice a b.length c] v fun e w'=>e=.returned (.tuple #[.agg #[.int .u32 (N:Int),.int .i64 (K:Int)],.int .i64 0])∧Below v.heap.size v w':=by
      have h:=headOf_any a c b v HR.out hl HLC.out HC.out
      rw [hh] at h;exact h
    have HCALL:=Lib.hid hcall
    clear hh hcall
    go_enter Tryz.func98,Tryz.ntmps98
    go_wp2_with fail
    rw [← hv]
    clear hv
    refine HCALL.out.mono ?_;rintro e w1 ⟨rfl,hb1⟩
    have HB1:=Lib.hid (HBV.out.trans (hb1.mono HBV.out.size));have HT1:=Lib.hid (there_below HTV.out hb1 (by rw [HVS.out];omega));have HR1:=Lib.hid ((HR.out.below hb1).more hb1.size)
    have HS1:Hid (w.heap.size+1≤w1.heap.size):=by have:=hb1.size;rw [HVS.out] at this;exact this
    clear hb1
    go_wp2_with fail
    obtain ⟨w2,hw2⟩:∃ w2,w2=w1.alloc (.cells #[.int .u32 (N:Int),.int .i64 (K:Int)] 193):=⟨_,rfl⟩
    have hw2s:w2.heap.size=w1.heap.size+1:=by rw [hw2];simp
    rw [← hw2,← hw2s]
    have HB2:Hid (Below w.heap.size w w2):=by show Below _ _ _;rw [hw2];exact HB1.out.alloc (by have:=HS1.out;omega) _
    have HT2:Hid (w2.there w.heap.size 0 5):=by show w2.there _ _ _;rw [hw2];exact World.there_alloc HT1.out _
    have HR2:Hid (Rd w2 w2.heap.size a (bV b)):=by show Rd _ _ _ _;rw [hw2];exact (HR1.out.below (box1 w1 _)).more (box1 w1 _).size
    have HS2:Hid (w.heap.size < w2.heap.size):=by show _ < _;rw [hw2s];have:=HS1.out;omega
    clear hw2 hw2s
    refine (gather_any w2.heap.size N K a c b w2 _ (box1 w2 _) (Nat.le_refl _) (heap_alloc_new w2 _) HR2.out hl HLC.out HC.out hK16).mono ?_
    rintro e w3 ⟨rfl,vv,xs,box,ho,hbod,hseg,hb3,hsz3⟩
    have HBOX:=Lib.hid box;have HO:=Lib.hid ho;have HBD:=Lib.hid hbod;have HSEG:=Lib.hid hseg
    have HB3:=Lib.hid (HB2.out.trans (hb3.mono HB2.out.size));have HT3:=Lib.hid (there_below HT2.out hb3 HS2.out)
    have HSZ3:Hid (w2.heap.size+1≤w3.heap.size):=by have:=hsz3;simp at this;exact this
    obtain ⟨va,vc,rfl,_,_,_⟩:=own_slice ho
    clear box ho hbod hseg hb3 hsz3
    obtain ⟨E,hE⟩:∃ E,E=endF 14 (xs.map Bod.b):=⟨_,rfl⟩
    have HE:Hid (E=endF 14 (segB b K)):=by show _=_;rw [hE,HSEG.out]
    obtain ⟨n,hn⟩:∃ n,n=xs.length:=⟨_,rfl⟩
    have HN:=Lib.hid hn
    obtain ⟨r,hr⟩:∃ r,decide (n=K)=r:=⟨_,rfl⟩
    have HRR:=Lib.hid hr
    rw [← hE,← hn] at HBOX
    rw [← hn] at HO
    clear hE hn hr
    go_wp2_with fail
    refine (seg_is w3 HBOX.out r HRR.out).mono ?_;rintro e w4 ⟨rfl,hb4⟩
    have HB4:=Lib.hid (HB3.out.trans (hb4.mono HB3.out.size));have HT4:=Lib.hid (there_below HT3.out hb4 (by have:=HS2.out;have:=HSZ3.out;omega))
    have HO4:=Lib.hid (own_below HO.out hb4);have HBD4:Hid (∀ x ∈ xs,BodAt (w2.alloc (.cells #[.int .u32 (N:Int),.int .i64 (K:Int),.slice none 0 0,.int .i64 14] 197)).heap.size x w4):=fun x hx=>(HBD.out x hx).below hb4
    clear hb4
    go_wp2_with (refine wpList_store_mid rfl 163 (.tmp 2) (.tmp 20) rfl w.heap.size 0 (sgV N K (.slice va n vc) E r) rfl rfl HT4.out size_sg (sgV_one _ _ _ _ _ _ _) ?_)
    refine bodyPost_ret (v:=.tuple #[.agg (sgV N K (.slice va n vc) E r),.int .i64 0]) (results_cell_two (p:=2) (u:=3) (ty:=163) (b:=w.heap.size) (x:=.int .i64 0) rfl rfl rfl (load_sg _ _ _ _ _ _ _ HT4.out)) rfl ?_
    have hbase:w.heap.size < (w2.alloc (.cells #[.int .u32 (N:Int),.int .i64 (K:Int),.slice none 0 0,.int .i64 14] 197)).heap.size:=by have:=HS2.out;simp;omega
    refine ⟨Below_setCells (Nat.le_refl _) _ _ _ HB4.out,.inr ⟨N,K,.slice va n vc,xs,HH.out,?_,?_,?_,HSEG.out⟩⟩
    · rw [← HE.out,show (segB b K).length=n by rw [← HSEG.out,List.length_map,HN.out],HRR.out]
    · rw [← HN.out];exact own_base (own_offs HO4.out hbase _ _) (Nat.le_of_lt hbase)
    · intro x hx;exact own_base (own_offs (HBD4.out x hx) hbase _ _) (Nat.le_of_lt hbase)
end Go.Proofs.YtccbpngehedbaaaGreat

namespace Go.Proofs.YtccbpngehedbaaaGreat
open Go Go.RowKit Go.Sort

/-! The document's Head. -/
end Go.Proofs.YtccbpngehedbaaaGreat

