import Derived.WalkKit
import Derived.Test.YtccbpngehedbaaaGreatRows
import Derived.Test.YtccbpngehedbaaaGreatJa
import Derived.Laws.BitsAllLaws
import Derived.Laws.Bits64
import Derived.IntWalk
import Derived.Deep.WholeRow
import Derived.Deep.MidRow
namespace Go.Proofs.YtccbpngehedbaaaGreat

/-! The sum's mathematics, over plain numbers: no program. -/
/-- One step: a bit was laid into the lowest one. -/
def st (x:Nat):Nat:=if x % 2=1 then (x / 2) ^^^ 3988292384 else x / 2
def stN:Nat→Nat→Nat
  | 0,x=>x
  | k+1,x=>stN k (st x)
theorem st_odd {x:Nat} (h:x % 2=1):st x=(x / 2) ^^^ 3988292384:=if_pos h
theorem st_even {x:Nat} (h:¬ x % 2=1):st x=x / 2:=if_neg h
theorem st_xor (x y:Nat):st (x ^^^ y)=st x ^^^ st y:=by
  have h2:(x ^^^ y) % 2=1 ↔ ¬ (x % 2=1 ↔ y % 2=1):=Nat.xor_mod_two_eq_one
  have h1:(x ^^^ y) / 2=x / 2 ^^^ y / 2:=Nat.xor_div_two
  by_cases hx:x % 2=1 <;> by_cases hy:y % 2=1
  · rw [st_even (by simp [h2,hx,hy]),st_odd hx,st_odd hy,h1,Nat.xor_assoc,← Nat.xor_assoc 3988292384,Nat.xor_comm 3988292384,Nat.xor_assoc (y / 2),Nat.xor_self,Nat.xor_zero]
  · rw [st_odd (by simp [h2,hx,hy]),st_odd hx,st_even hy,h1,Nat.xor_assoc,Nat.xor_comm (y / 2),← Nat.xor_assoc]
  · rw [st_odd (by simp [h2,hx,hy]),st_even hx,st_odd hy,h1,Nat.xor_assoc]
  · rw [st_even (by simp [h2,hx,hy]),st_even hx,st_even hy,h1]
theorem stN_xor:∀ (k x y:Nat),stN k (x ^^^ y)=stN k x ^^^ stN k y
  | 0,_,_=>rfl
  | k+1,x,y=>by rw [stN,stN,stN,st_xor,stN_xor k]
theorem stN_add:∀ (a b x:Nat),stN (a+b) x=stN b (stN a x)
  | 0,b,x=>by rw [Nat.zero_add];rfl
  | a+1,b,x=>by rw [show a+1+b=(a+b)+1 by omega,stN,stN,stN_add a b]
theorem stN_succ (k x:Nat):stN (k+1) x=st (stN k x):=stN_add k 1 x
theorem xor_lt32 {x y:Nat} (hx:x < 4294967296) (hy:y < 4294967296):x ^^^ y < 4294967296:=Nat.xor_lt_two_pow (n:=32) hx hy
theorem st_lt {x:Nat} (h:x < 4294967296):st x < 4294967296:=by
  unfold st;split
  · exact xor_lt32 (by omega) (by omega)
  · omega
theorem stN_lt:∀ (k:Nat) {x:Nat},x < 4294967296→stN k x < 4294967296
  | 0,_,h=>h
  | k+1,_,h=>stN_lt k (st_lt h)
theorem st_zero {x:Nat} (h:x < 4294967296) (h0:st x=0):x=0:=by
  by_cases hx:x % 2=1
  · rw [st_odd hx] at h0
    have h1:x / 2=3988292384:=by
      have:=congrArg (· ^^^ 3988292384) h0
      simpa [Nat.xor_assoc] using this
    omega
  · rw [st_even hx] at h0;omega
theorem stN_zero:∀ (k:Nat) {x:Nat},x < 4294967296→stN k x=0→x=0
  | 0,_,_,h=>h
  | k+1,_,hx,h=>st_zero hx (stN_zero k (st_lt hx) h)
theorem stN_of0:∀ k,stN k 0=0
  | 0=>rfl
  | k+1=>stN_of0 k
theorem stN_mul:∀ (k q:Nat),stN k (2 ^ k * q)=q
  | 0,q=>by simp [stN]
  | k+1,q=>by
    have h:st (2 ^ (k+1) * q)=2 ^ k * q:=by
      have e:2 ^ (k+1) * q=2 * (2 ^ k * q):=by rw [Nat.pow_succ,Nat.mul_comm (2 ^ k) 2,Nat.mul_assoc]
      rw [e,st_even (by omega)];omega
    rw [stN,h,stN_mul k]

/-- A sum's bits, gone on with: by a byte, by bytes. -/
def upd (s:Nat) (c:UInt8):Nat:=stN 8 (s ^^^ c.toNat)
def crc (s:Nat) (l:List UInt8):Nat:=l.foldl upd s
theorem crc_nil (s:Nat):crc s []=s:=rfl
theorem crc_cons (s:Nat) (c:UInt8) (l:List UInt8):crc s (c :: l)=crc (upd s c) l:=rfl
theorem u8_lt32 (c:UInt8):c.toNat < 4294967296:=by have:=c.toNat_lt;omega
theorem upd_lt (c:UInt8) {s:Nat} (h:s < 4294967296):upd s c < 4294967296:=stN_lt 8 (xor_lt32 h (u8_lt32 c))
theorem crc_lt:∀ (l:List UInt8) {s:Nat},s < 4294967296→crc s l < 4294967296
  | [],_,h=>h
  | c :: l,_,h=>crc_lt l (upd_lt c h)
theorem crc_append (l m:List UInt8) (s:Nat):crc s (l ++ m)=crc (crc s l) m:=by unfold crc;rw [List.foldl_append]
theorem crc_snoc (l:List UInt8) (c:UInt8) (s:Nat):crc s (l ++ [c])=upd (crc s l) c:=crc_append l [c] s
theorem crc_take (l:List UInt8) (i:Nat) (h:i < l.length) (s:Nat):crc s (l.take (i+1))=upd (crc s (l.take i)) l[i]:=by
  rw [List.take_succ_eq_append_getElem h,crc_snoc]
/-- The bytes as one number, the lowest first. -/
def le:List UInt8→Nat
  | []=>0
  | c :: l=>c.toNat+256 * le l
theorem add_xor {c:Nat} (m:Nat) (h:c < 256):c+256 * m=c ^^^ 256 * m:=by
  apply Nat.eq_of_testBit_eq
  intro j
  rw [Nat.testBit_xor,Nat.add_comm,show (256:Nat)=2 ^ 8 from rfl,Nat.testBit_two_pow_mul_add m h,Nat.testBit_two_pow_mul]
  by_cases hj:j < 8
  · rw [if_pos hj]
    have h8:¬ 8≤j:=by omega
    simp [h8]
  · rw [if_neg hj]
    have h8:8≤j:=by omega
    have hc:c.testBit j=false:=Nat.testBit_lt_two_pow (Nat.lt_of_lt_of_le h (Nat.pow_le_pow_right (n:=2) (by omega) h8))
    simp [hc,h8]
theorem crc_le:∀ (l:List UInt8) (s:Nat),crc s l=stN (8 * l.length) (s ^^^ le l)
  | [],s=>by rw [crc_nil,le,Nat.xor_zero];rfl
  | c :: l,s=>by
    rw [crc_cons,upd,crc_le l,le,add_xor _ c.toNat_lt,List.length_cons,show 8 * (l.length+1)=8+8 * l.length by omega,stN_add,← Nat.xor_assoc,stN_xor 8 (s ^^^ c.toNat) (256 * le l),show (256:Nat)=2 ^ 8 from rfl,stN_mul]
/-- All bits turned. -/
def inv (x:Nat):Nat:=4294967295 - x
theorem inv_lt (x:Nat):inv x < 4294967296:=by unfold inv;omega
theorem inv_inv {x:Nat} (h:x < 4294967296):inv (inv x)=x:=by unfold inv;omega
theorem inv_xor {x:Nat} (h:x < 4294967296):inv x=4294967295 ^^^ x:=by
  have h':x < 2 ^ 32:=h
  apply Nat.eq_of_testBit_eq
  intro j
  have e1:inv x=2 ^ 32 - (x+1):=by unfold inv;omega
  rw [e1,Nat.testBit_two_pow_sub_succ h',Nat.testBit_xor,show (4294967295:Nat)=2 ^ 32 - 1 from rfl,Nat.testBit_two_pow_sub_one]
  by_cases hj:j < 32
  · simp [hj]
  · have:x.testBit j=false:=Nat.testBit_lt_two_pow (Nat.lt_of_lt_of_le h' (Nat.pow_le_pow_right (by omega) (by omega)))
    simp [hj,this]
/-- The sum s, gone on with. -/
def moreL (s:Nat) (l:List UInt8):Nat:=inv (crc (inv s) l)
theorem moreL_lt (s:Nat) (l:List UInt8):moreL s l < 4294967296:=inv_lt _
theorem moreL_parts (l m:List UInt8) (s:Nat):moreL (moreL s l) m=moreL s (l ++ m):=by
  unfold moreL;rw [inv_inv (crc_lt l (inv_lt s)),crc_append]
/-- Bytes that are turned as the bits of E say, from the first one on, have another sum, if E is not 0. -/
theorem told {l m:List UInt8} (hl:m.length=l.length) {first E:Nat} (hf:first≤8 * l.length) (hE:E < 4294967296) (h:le m=le l ^^^ 2 ^ first * E):(moreL 0 m=moreL 0 l) ↔ E=0:=by
  have e:crc (inv 0) m=crc (inv 0) l ^^^ stN (8 * l.length - first) E:=by
    rw [crc_le,crc_le,hl,h,← Nat.xor_assoc,stN_xor]
    congr 1
    rw [show 8 * l.length=first+(8 * l.length - first) by omega,stN_add,stN_mul]
    congr 1;omega
  have lt:=crc_lt l (inv_lt 0)
  have lt2:=stN_lt (8 * l.length - first) hE
  constructor
  · intro h1
    unfold moreL at h1
    rw [e] at h1
    have lt3:=xor_lt32 lt lt2
    have h2:crc (inv 0) l ^^^ stN (8 * l.length - first) E=crc (inv 0) l:=by rw [← inv_inv lt3,h1,inv_inv lt]
    have h3:stN (8 * l.length - first) E=0:=by
      have:=congrArg (crc (inv 0) l ^^^ ·) h2
      simpa [← Nat.xor_assoc] using this
    exact stN_zero _ hE h3
  · rintro rfl
    unfold moreL
    rw [e,stN_of0,Nat.xor_zero]
end Go.Proofs.YtccbpngehedbaaaGreat

namespace Go.Proofs.YtccbpngehedbaaaGreat
open Go Go.RowKit

theorem ret_u32 {a b:Int} (h:a=b):Ending.returned (.int .u32 a)=.returned (.int .u32 b):=by rw [h]
set_option maxHeartbeats 400000 in
theorem step_any (s:Nat) (w:World) (hs:s < 4294967296) :
    Calls Tryz.prog 173 #[.int .u32 (s:Int)] w fun e w'=>e=.returned (.int .u32 (st s:Int))∧w=w':=by
  have e1:bits BinOp.and IntKind.u32 (s:Int) 1=((s % 2:Nat):Int):=by rw [← nat_mask1];exact u32_and_nat s 1 hs (by omega)
  have e2:=u32_xor_nat (s / 2) 3988292384 (by omega) (by omega)
  have HE2:=Lib.hid e2;clear e2
  by_cases h:s % 2=1
  · have HS:=Lib.hid (st_odd h)
    rw [h,Int.natCast_one] at e1
    go_enter Tryz.func173,Tryz.ntmps173
    go_wp2
    go_ret
    exact ⟨ret_u32 (by rw [HS.out];exact HE2.out),rfl⟩
  · have HS:=Lib.hid (st_even h)
    rw [show s % 2=0 by omega,Int.natCast_zero] at e1
    go_enter Tryz.func173,Tryz.ntmps173
    go_wp2
    go_ret
    exact ⟨ret_u32 (by rw [HS.out];simp),rfl⟩

/-- The table. -/
def tabL (k:Nat):List Value:=(List.range 256).map fun j=>.int .u32 (if j < k then (stN 8 j:Int) else 0)
theorem tabL_length (k:Nat):(tabL k).length=256:=by simp [tabL]
theorem tabL_get (k j:Nat) (h:j < 256):(tabL k)[j]?=some (.int .u32 (if j < k then (stN 8 j:Int) else 0)):=by simp [tabL,h]
theorem tabL_zero:tabL 0=List.replicate 256 (.int .u32 0):=by
  apply List.ext_getElem?
  intro j
  by_cases h:j < 256
  · rw [tabL_get 0 j h,List.getElem?_replicate_of_lt h,if_neg (by omega)]
  · rw [List.getElem?_eq_none (by rw [tabL_length];omega),List.getElem?_eq_none (by rw [List.length_replicate];omega)]
theorem tabL_one (k:Nat):∀ u ∈ tabL k,u.oneCell'=true:=by
  intro u hu;obtain ⟨c,_,rfl⟩:=List.mem_map.1 hu;rfl
def tabA (k:Nat):Array Value:=(tabL k).toArray
theorem tabA_size (k:Nat):(tabA k).size=256:=by simp [tabA,tabL_length]
theorem tabA_zero:(Array.replicate 256 (Value.int .u32 0))=tabA 0:=by
  unfold tabA;rw [tabL_zero];rfl
theorem tabA_set (k:Nat) (h:k < 256):(tabA k).setIfInBounds k (.int .u32 (stN 8 k:Int))=tabA (k+1):=by
  apply Array.ext_getElem?
  intro j
  rw [Array.getElem?_setIfInBounds]
  by_cases hj:k=j
  · subst hj
    rw [if_pos rfl,if_pos (by rw [tabA_size];exact h),tabA,List.getElem?_toArray,tabL_get _ _ h,if_pos (by omega)]
  · rw [if_neg hj,tabA,tabA,List.getElem?_toArray,List.getElem?_toArray]
    by_cases hj2:j < 256
    · rw [tabL_get _ _ hj2,tabL_get _ _ hj2]
      by_cases h3:j < k
      · rw [if_pos h3,if_pos (by omega)]
      · rw [if_neg h3,if_neg (by omega)]
    · rw [List.getElem?_eq_none (by rw [tabL_length];omega),List.getElem?_eq_none (by rw [tabL_length];omega)]
theorem tabA_get (k j:Nat) (h:j < 256):(tabA k)[j]?=some (.int .u32 (if j < k then (stN 8 j:Int) else 0)):=by rw [tabA,List.getElem?_toArray,tabL_get _ _ h]
theorem info_tab:(Tryz.prog.info? 230).map (fun i=>(i.zero,i.size))=some (some (.agg (Array.replicate 256 (.int .u32 0))),256):=by kernel_rfl
theorem zero_tab:∀ w,(zeroValue 230).run Tryz.prog w=.ok (.agg (tabA 0)) w:=by
  have h:=(zero_of_info (P:=Tryz.prog) info_tab).1
  rwa [tabA_zero] at h
theorem size_tab:(Tryz.prog.info? 230).map (·.size)=some 256:=(zero_of_info (P:=Tryz.prog) info_tab).2
theorem Below.setCells {B:Nat} {a:World} {b:Nat} (hB:B≤b):∀ (vs:List Value) (o:Nat) (w:World),Below B a w→Below B a (w.setCells b o vs)
  | [],_,_,h=>h
  | _ :: r,o,_,h=>Below.setCells hB r (o+1) _ (h.setCell hB _)
theorem there_new (w:World) (c:Array Value) (t:TypeId) (n:Nat) (hn:n=c.size):(w.alloc (.cells c t)).there w.heap.size 0 n:=fun j hj=>by
  subst hn
  refine ⟨?_,?_⟩
  · rw [World.cell?_alloc_at _ _ _ _ rfl];simp;omega
  · exact World.frozen?_alloc_at _ _ _ _ rfl
theorem rangeAt_new (w:World) (c:Array Value) (t:TypeId) (n:Nat) (hn:n=w.heap.size):(w.alloc (.cells c t)).rangeAt n 0 c.toList:=fun j v hv=>by
  subst hn
  rw [World.cell?_alloc_at _ _ _ _ rfl,Nat.zero_add]
  simpa using hv
set_option maxRecDepth 100000 in
set_option maxHeartbeats 1000000 in
theorem eightSteps_any (w : World) :
    Calls Tryz.prog 163 #[] w fun e w'=>e=.returned (.agg (tabA 256))∧Below w.heap.size w w':=by
  have hz:=zero_tab
  go_enter Tryz.func163,Tryz.ntmps163
  go_wp2_with fail
  go_loopw [4] (fun i wr=>∃ k:Nat,k≤256∧i=.int .i64 k∧wr=(w.alloc (.cells (tabA 0) 230)).alloc (.cells (tabA k) 230)) (fun i _=>256 - (intOf i).toNat)
  case atStart=>exact ⟨0,by omega,rfl,rfl⟩
  case round =>
    obtain ⟨k,hk,rfl,rfl⟩:=hrel
    by_cases hlt:k < 256
    · have hw:IntKind.u32.wrap (k:Int)=(k:Int):=IntWalk.u32_in _ ⟨by omega,by omega⟩
      have hk0:stN 0 k=k:=rfl
      have HK0:=Lib.hid hk0;clear hk0
      have i1:(0:Int)≤(k:Int):=by omega
      have i2:(k:Int) < 256:=by omega
      have HT:=Lib.hid (tabA_set k hlt)
      have hget:(tabA k)[k]?=some (.int .u32 0):=by rw [tabA_get k k hlt,if_neg (by omega)]
      go_wp2_with fail
      go_loop [3,9] (fun s i=>∃ j:Nat,j≤8∧i=.int .i64 j∧s=.int .u32 (stN j k:Nat)) (fun _ i=>8 - (intOf i).toNat)
      case atStart=>exact ⟨0,by omega,rfl,by rw [HK0.out]⟩
      case round =>
        obtain ⟨j,hj,rfl,rfl⟩:=hrel
        by_cases hjl:j < 8
        · go_wp2_with fail
          refine (step_any _ _ (stN_lt j (by omega))).mono ?_;rintro e w' ⟨rfl,rfl⟩
          rw [← stN_succ]
          go_wp2_with fail
          go_round
          case rel=>exact ⟨j+1,by omega,by go_num,rfl⟩
          case measure=>simp [intOf];omega
        · obtain rfl:j=8:=by omega
          go_wp2_with fail
          go_roundw
          case rel=>exact ⟨k+1,by omega,by go_num,by rw [HT.out]⟩
          case measure=>simp [intOf];omega
    · obtain rfl:k=256:=by omega
      go_wp2_with fail
      refine wp_load_mid 230 _ rfl _ 0 rfl (tabA 256).toList _ (rangeAt_new _ _ _ _ (by simp)) Tryz.underlying230 rfl (by rw [Array.length_toList,tabA_size];exact size_tab) ?_
      have H0:=World.there_alloc (there_new w (tabA 0) 230 256 (tabA_size 0).symm) (.cells (tabA 256) 230)
      have hsz:=tabA_size 256
      have hsc:=run_storeCells_cells (P:=Tryz.prog) w.heap.size 0 (tabA 256).toList 0 ((w.alloc (.cells (tabA 0) 230)).alloc (.cells (tabA 256) 230))
        (fun j hj=>by simpa using (H0 j (by simpa [tabA_size] using hj)).1) (fun j hj=>by have:=(H0 j (by simpa [tabA_size] using hj)).2;simp) (fun v hv=>tabL_one 256 v (by simpa [tabA] using hv))
      simp only [Nat.add_zero] at hsc
      have hrg:=World.rangeAt_setCells_same _ w.heap.size 0 (tabA 256).toList (by rw [Array.length_toList,tabA_size];exact H0)
      have hb:=Below.setCells (Nat.le_refl _) (tabA 256).toList 0 _ ((box1 w (.cells (tabA 0) 230)).alloc (by simp) (.cells (tabA 256) 230))
      have HRG:=Lib.hid hrg;have HB:=Lib.hid hb;clear hrg hb
      go_wp2_with fail
      have hld:=run_loadVar_mid (P:=Tryz.prog) _ _ _ 230 _ _ HRG.out Tryz.underlying230 rfl (by rw [Array.length_toList,tabA_size];exact size_tab)
      refine bodyPost_ret (v:=.agg (tabA 256)) ?_ rfl ⟨rfl,HB.out⟩
      rw [Array.toArray_toList] at hld
      simp [results,asAddr,hld]
end Go.Proofs.YtccbpngehedbaaaGreat

namespace Go.Proofs.YtccbpngehedbaaaGreat
open Go Go.RowKit

/-- A byte's eight steps, by the table. -/
theorem byte_lt (s c:Nat) (hc:c < 256):(s % 256) ^^^ c < 256:=Nat.xor_lt_two_pow (n:=8) (Nat.mod_lt _ (by omega)) hc
theorem upd_tab (s:Nat) (c:UInt8):s / 256 ^^^ stN 8 ((s % 256) ^^^ c.toNat)=upd s c:=by
  have e:s ^^^ c.toNat=256 * (s / 256) ^^^ ((s % 256) ^^^ c.toNat):=by
    have h:=add_xor (s / 256) (Nat.mod_lt s (by omega:0 < 256))
    rw [Nat.mod_add_div] at h
    rw [← Nat.xor_assoc,Nat.xor_comm (256 * (s / 256)),← h]
  have h2:stN 8 (256 * (s / 256))=s / 256:=stN_mul 8 (s / 256)
  rw [upd,e,stN_xor 8 (256 * (s / 256)),h2]
theorem inv_bits (s:Nat) (h:s < 4294967296):bits BinOp.xor IntKind.u32 IntKind.u32.max (s:Int)=((inv s:Nat):Int):=by
  rw [inv_xor h]
  exact u32_xor_nat 4294967295 s (by omega) h
set_option maxRecDepth 100000 in
set_option maxHeartbeats 1000000 in
theorem more_any (s : Nat) (a : Option Addr) (c : Nat) (l : List UInt8) (w : World) (hs : s < 4294967296) (hr : Rd w w.heap.size a (bV l)) (_hl : l.length ≤ 1000000000000) :
    Calls Tryz.prog 137 #[.int .u32 (s:Int),.slice a l.length c] w fun e w'=>e=.returned (.int .u32 (moreL s l:Nat))∧Below w.heap.size w w':=by
  have HR:=Lib.hid hr;clear hr
  have hz:=zero_tab
  go_enter Tryz.func137,Tryz.ntmps137
  go_wp2_with fail
  refine (eightSteps_any _).mono ?_;rintro e w1 ⟨rfl,hb1⟩
  have HB1:=Lib.hid hb1;clear hb1
  have hsz:=tabA_size 256
  have hsc:=run_storeCells_new (P:=Tryz.prog) w1 230 (tabA 0) (tabA 256) (by rw [hsz];exact size_tab) (by rw [tabA_size,tabA_size]) (all_oneCell_toArray (tabL_one 256))
  have hsg:IntKind.u32.signed=false:=rfl
  have hi0:=inv_bits s hs
  go_wp2_with fail
  clear hsc
  go_loop [6,14] (fun sv i=>∃ k:Nat,k≤l.length∧i=.int .i64 k∧sv=.int .u32 (crc (inv s) (l.take k):Nat)) (fun _ i=>l.length - (intOf i).toNat)
  case atStart=>exact ⟨0,by omega,rfl,by rw [List.take_zero,crc_nil]⟩
  case round =>
    obtain ⟨k,hk,rfl,rfl⟩:=hrel
    have hS:=crc_lt (l.take k) (inv_lt s)
    by_cases hlt:k < l.length
    · have HN:=Lib.hid (crc_take l k hlt (inv s))
      obtain ⟨b,off,ha,_,hcell⟩:=(HR.out.below (HB1.out.alloc HB1.out.size (.cells (tabA 256) 230))).byte hlt
      subst ha
      have hx:=byte_lt (crc (inv s) (l.take k)) l[k].toNat l[k].toNat_lt
      have HU:=Lib.hid (upd_tab (crc (inv s) (l.take k)) l[k])
      have HX1:=u8_xor_nat (crc (inv s) (l.take k) % 256) l[k].toNat (Nat.mod_lt _ (by omega)) l[k].toNat_lt
      have HX2:=u32_xor_nat (crc (inv s) (l.take k) / 256) (stN 8 (crc (inv s) (l.take k) % 256 ^^^ l[k].toNat)) (by omega) (stN_lt 8 (by omega))
      rw [HU.out,← HN.out] at HX2
      clear HU HN
      generalize crc (inv s) (l.take k)=S at hS hx HX1 HX2
      generalize S % 256 ^^^ l[k].toNat=x at hx HX1 HX2
      have hget:(tabA 256)[x]?=some (.int .u32 (stN 8 x:Int)):=by rw [tabA_get 256 x hx,if_pos hx]
      have hxs:x < (tabA 256).size:=by rw [tabA_size];exact hx
      have hget2:(tabA 256)[x]=.int .u32 (stN 8 x:Int):=by
        have h:=hget
        rw [Array.getElem?_eq_getElem hxs] at h
        exact Option.some.inj h
      clear hget
      have e1:((S % 256:Nat):Int)=(S:Int) % 256:=by omega
      have e2:((S / 256:Nat):Int)=(S:Int) / 256:=by omega
      rw [e1] at HX1;rw [e2] at HX2
      clear e1 e2
      have i1:(0:Int)≤(k:Int):=by omega
      have i2:(k:Int) < (l.length:Int):=by omega
      go_wp2_with fail
      go_round
      case rel=>exact ⟨k+1,by omega,by go_num,rfl⟩
      case measure=>simp [intOf];omega
    · have:k=l.length:=by omega
      subst this
      rw [List.take_length] at hS ⊢
      have hi1:=inv_bits _ hS
      go_wp2_with fail
      go_ret
      exact ⟨rfl,HB1.out.alloc HB1.out.size _⟩
set_option maxHeartbeats 400000 in
theorem sum_any (a:Option Addr) (c:Nat) (l:List UInt8) (w:World) (hr:Rd w w.heap.size a (bV l)) (hl:l.length≤1000000000000) :
    Calls Tryz.prog 136 #[.slice a l.length c] w fun e w'=>e=.returned (.int .u32 (moreL 0 l:Nat))∧Below w.heap.size w w':=by
  have HR:=Lib.hid hr;clear hr
  go_enter Tryz.func136,Tryz.ntmps136
  go_wp2_with fail
  refine (more_any 0 a c l _ (by omega) HR.out hl).mono ?_;rintro e w1 ⟨rfl,hb1⟩
  go_wp2_with fail
  go_ret
  exact ⟨rfl,hb1⟩
theorem sum_is (a:Option Addr) (n c:Nat) (l:List UInt8) (w:World) (hn:n=l.length) (S:Nat) (hS:S=moreL 0 l) (hr:Rd w w.heap.size a (bV l)) (hl:l.length≤1000000000000) :
    Calls Tryz.prog 136 #[.slice a n c] w fun e w'=>e=.returned (.int .u32 (S:Nat))∧Below w.heap.size w w':=by
  subst hn hS;exact sum_any a c l w hr hl
theorem more_is (s:Nat) (a:Option Addr) (n c:Nat) (l:List UInt8) (w:World) (hn:n=l.length) (S:Nat) (hS:moreL s l=S) (hs:s < 4294967296) (hr:Rd w w.heap.size a (bV l)) (hl:l.length≤1000000000000) :
    Calls Tryz.prog 137 #[.int .u32 (s:Int),.slice a n c] w fun e w'=>e=.returned (.int .u32 (S:Nat))∧Below w.heap.size w w':=by
  subst hn hS;exact more_any s a c l w hs hr hl
end Go.Proofs.YtccbpngehedbaaaGreat

namespace Go.Proofs.YtccbpngehedbaaaGreat
open Go Go.RowKit

/-- Bit by bit. -/
def bit1 (s x:Nat):Nat:=if s % 2=x % 2 then s / 2 else s / 2 ^^^ 3988292384
def bitN:Nat→Nat→Nat→Nat
  | 0,s,_=>s
  | j+1,s,x=>bit1 (bitN j s x) (x / 2 ^ j)
theorem bit1_st (s x:Nat):bit1 s x ^^^ x / 2=st (s ^^^ x):=by
  have h1:(s ^^^ x) / 2=s / 2 ^^^ x / 2:=Nat.xor_div_two
  have h2:(s ^^^ x) % 2=1 ↔ ¬ (s % 2=1 ↔ x % 2=1):=Nat.xor_mod_two_eq_one
  unfold bit1
  by_cases h:s % 2=x % 2
  · rw [if_pos h,st_even (by rw [h2,h];simp),h1]
  · rw [if_neg h,st_odd (by rw [h2];omega),h1,Nat.xor_assoc,Nat.xor_comm 3988292384,Nat.xor_assoc]
theorem bitN_st (s x:Nat):∀ j,bitN j s x ^^^ x / 2 ^ j=stN j (s ^^^ x)
  | 0=>by rw [bitN,Nat.pow_zero,Nat.div_one];rfl
  | j+1=>by rw [bitN,stN_succ,← bitN_st s x j,← bit1_st,Nat.pow_succ,Nat.div_div_eq_div_mul]
theorem bitN_byte (s:Nat) (c:UInt8):bitN 8 s c.toNat=upd s c:=by
  have h:=bitN_st s c.toNat 8
  have h0:c.toNat / 2 ^ 8=0:=Nat.div_eq_of_lt c.toNat_lt
  rw [h0,Nat.xor_zero] at h
  exact h
theorem bit1_lt {s:Nat} (x:Nat) (h:s < 4294967296):bit1 s x < 4294967296:=by
  unfold bit1;split
  · omega
  · exact xor_lt32 (by omega) (by omega)
theorem bitN_lt (x:Nat) {s:Nat} (h:s < 4294967296):∀ j,bitN j s x < 4294967296
  | 0=>h
  | j+1=>bit1_lt _ (bitN_lt x h j)
set_option maxHeartbeats 1000000 in
theorem refMore_any (s : Nat) (t : ByteArray) (w : World) (hs : s < 4294967296) (ht : t.size ≤ 1000000000000) :
    Calls Tryz.prog 120 #[.int .u32 (s:Int),.string t] w fun e w'=>e=.returned (.int .u32 (moreL s t.data.toList:Nat))∧Below w.heap.size w w':=by
  have hi0:(4294967295 - (s:Int))=((inv s:Nat):Int):=by unfold inv;omega
  go_enter Tryz.func120,Tryz.ntmps120
  go_wp2_with fail
  go_loopw [5,6] (fun sv i wr=>∃ k:Nat,k≤t.size∧i=.int .i64 k∧sv=.int .u32 (crc (inv s) (t.data.toList.take k):Nat)∧Below w.heap.size w wr) (fun _ i _=>t.size - (intOf i).toNat)
  case atStart=>exact ⟨0,by omega,rfl,by rw [List.take_zero,crc_nil],Below.refl _ _⟩
  case round =>
    obtain ⟨k,hk,rfl,rfl,hb⟩:=hrel
    have HB:=Lib.hid hb;clear hb
    have hS:=crc_lt (t.data.toList.take k) (inv_lt s)
    by_cases hlt:k < t.size
    · have i1:(0:Int)≤(k:Int):=by omega
      have i2:(k:Int) < (t.size:Int):=by omega
      obtain ⟨C,hC⟩:∃ C:UInt8,t[k]=C:=⟨_,rfl⟩
      have HN:=Lib.hid (crc_take t.data.toList k (by rw [data_length];exact hlt) (inv s))
      have HC:Hid (t.data.toList[k]'(by rw [data_length];exact hlt)=C):=hC
      rw [HC.out] at HN
      have hCw:IntKind.u32.wrap (C.toNat:Int)=(C.toNat:Int):=IntWalk.u32_in _ ⟨by omega,by have:=C.toNat_lt;omega⟩
      obtain ⟨S,hSe⟩:∃ S,S=crc (inv s) (t.data.toList.take k):=⟨_,rfl⟩
      rw [← hSe] at hS HN ⊢
      clear hSe HC
      have HB8:=Lib.hid (bitN_byte S C)
      go_wp2_with fail
      go_loop [5,7,8] (fun cv xv i=>∃ j:Nat,j≤8∧i=.int .i64 j∧cv=.int .u32 (bitN j S C.toNat:Nat)∧xv=.int .u32 (C.toNat / 2 ^ j:Nat)) (fun _ _ i=>8 - (intOf i).toNat)
      case atStart=>exact ⟨0,by omega,rfl,rfl,by rw [Nat.pow_zero,Nat.div_one]⟩
      case round =>
        obtain ⟨j,hj,rfl,rfl,rfl⟩:=hrel
        by_cases hjl:j < 8
        · have hX:C.toNat / 2 ^ j < 4294967296:=Nat.lt_of_le_of_lt (Nat.div_le_self _ _) (by have:=C.toNat_lt;omega)
          have hT:=bitN_lt C.toNat hS j
          have HE:Hid (bitN (j+1) S C.toNat=bit1 (bitN j S C.toNat) (C.toNat / 2 ^ j)):=rfl
          have HD:Hid (C.toNat / 2 ^ (j+1)=C.toNat / 2 ^ j / 2):=by show _=_;rw [Nat.pow_succ,Nat.div_div_eq_div_mul]
          generalize bitN j S C.toNat=T at hT HE ⊢
          generalize C.toNat / 2 ^ j=X at hX HE HD ⊢
          have e2:((T / 2:Nat):Int)=(T:Int) / 2:=by omega
          by_cases he:T % 2=X % 2
          · have HF:Hid (bit1 T X=T / 2):=if_pos he
            have h1:(((T:Int) % 2) != ((X:Int) % 2))=false:=by simp;omega
            go_wp2_with fail
            go_round
            case rel=>exact ⟨j+1,by omega,by go_num,by rw [HE.out,HF.out,e2],by rw [HD.out];simp⟩
            case measure=>simp [intOf];omega
          · have HF:Hid (bit1 T X=T / 2 ^^^ 3988292384):=if_neg he
            have h1:(((T:Int) % 2) != ((X:Int) % 2))=true:=by simp;omega
            have HX2:bits BinOp.xor IntKind.u32 ((T:Int) / 2) 3988292384=((T / 2 ^^^ 3988292384:Nat):Int):=by rw [← e2];exact u32_xor_nat (T / 2) 3988292384 (by omega) (by omega)
            go_wp2_with fail
            go_round
            case rel=>exact ⟨j+1,by omega,by go_num,by rw [HE.out,HF.out],by rw [HD.out];simp⟩
            case measure=>simp [intOf];omega
        · obtain rfl:j=8:=by omega
          rw [HB8.out,← HN.out]
          go_wp2_with fail
          go_roundw
          case rel=>exact ⟨k+1,by omega,by go_num,rfl,HB.out⟩
          case measure=>simp [intOf];omega
    · have:k=t.size:=by omega
      subst this
      rw [List.take_of_length_le (by rw [data_length];omega)] at hS ⊢
      have hi1:(4294967295 - (crc (inv s) t.data.toList:Int))=((inv (crc (inv s) t.data.toList):Nat):Int):=by unfold inv at hS ⊢;omega
      go_wp2_with fail
      go_ret
      exact ⟨rfl,HB.out⟩
set_option maxHeartbeats 400000 in
theorem refSum_any (t:ByteArray) (w:World) (ht:t.size≤1000000000000) :
    Calls Tryz.prog 90 #[.string t] w fun e w'=>e=.returned (.int .u32 (moreL 0 t.data.toList:Nat))∧Below w.heap.size w w':=by
  go_enter Tryz.func90,Tryz.ntmps90
  go_wp2_with fail
  refine (refMore_any 0 t _ (by omega) ht).mono ?_;rintro e w1 ⟨rfl,hb1⟩
  go_wp2_with fail
  go_ret
  exact ⟨rfl,hb1⟩
end Go.Proofs.YtccbpngehedbaaaGreat

