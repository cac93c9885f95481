import Derived.Test.YtccbpngehedbaaaGreatRows
import Derived.Test.YtccbpngehedbaaaGreatJa
import Derived.ScopeJumps
import Derived.WalkMore
import Derived.Laws.BitsAllLaws
import Derived.Laws.Bits64
import Derived.IntWalk
import Derived.Deep.QuietTactic
import Derived.Deep.RegionLaw
namespace Go.Proofs.YtccbpngehedbaaaGreat
open Go Go.RowKit

def cnt (size:Int):Nat:=(min (max size 0) 8).toNat
theorem cnt_le (s:Int):cnt s≤8:=by unfold cnt;omega
set_option maxHeartbeats 400000 in
theorem counted_any (s:Int) (w:World) (h1:-9223372036854775808≤s) (h2:s≤9223372036854775807) :
    Calls Tryz.prog 134 #[.int .i64 s] w fun e w'=>e=.returned (.int .i64 (cnt s))∧w=w':=by
  by_cases h:s < 0
  · go_enter Tryz.func134,Tryz.ntmps134
    go_wp2
    go_ret
    exact ⟨ret_i64 (by unfold cnt;omega),rfl⟩
  by_cases h3:8 < s
  all_goals
    go_enter Tryz.func134,Tryz.ntmps134
    go_wp2
    go_ret
    exact ⟨ret_i64 (by unfold cnt;omega),rfl⟩
set_option maxHeartbeats 400000 in
theorem refCount_any (s:Int) (w:World) :
    Calls Tryz.prog 116 #[.int .i64 s] w fun e w'=>e=.returned (.int .i64 (cnt s))∧w=w':=by
  by_cases h1:s < 0
  · go_enter Tryz.func116,Tryz.ntmps116
    go_wp2
    go_ret
    exact ⟨ret_i64 (by unfold cnt;omega),rfl⟩
  by_cases h2:8 < s
  · go_enter Tryz.func116,Tryz.ntmps116
    go_wp2
    go_ret
    exact ⟨ret_i64 (by unfold cnt;omega),rfl⟩
  go_enter Tryz.func116,Tryz.ntmps116
  go_wp2
  go_ret
  exact ⟨ret_i64 (by unfold cnt;omega),rfl⟩
def byt (n i:Nat):UInt8:=UInt8.ofNat (n / 2 ^ (8 * i))
theorem byt_nat (n i:Nat):(byt n i).toNat=n / 2 ^ (8 * i) % 256:=by simp [byt]
theorem byt_int (n i:Nat):((n:Int) / 2 ^ (8 * i) % 256)=((byt n i).toNat:Int):=by
  rw [byt_nat];simp
set_option maxHeartbeats 400000 in
theorem put1_any (n:Nat) (i:Nat) (b:Nat) (w:World) (hi:i < 8) (_hn:n < 18446744073709551616) (hc:w.cell? ⟨b,0,none⟩=some (.int .u64 (n:Int))) :
    Calls Tryz.prog 135 #[.int .i64 i,.pointer (some ⟨b,0,none⟩)] w fun e w'=>e=.returned (.int .u8 ((byt n i).toNat:Int))∧w=w':=by
  rw [← byt_int]
  go_enter Tryz.func135,Tryz.ntmps135
  go_wp2
  go_ret
  exact ⟨rfl,rfl⟩

theorem info_u8:(Tryz.prog.info? 5).map (fun i=>(i.zero,i.size,i.bytes))=some (some (.int .u8 0),1,1):=by kernel_rfl
set_option maxHeartbeats 1000000 in
theorem lay_any (fv : Value) (K : FuncId) (caps : Array Value) (f : Nat → UInt8) (k : Nat) (a : Option Addr) (c : Nat) (l : List UInt8) (w : World) (hr : Rd w w.heap.size a (bV l)) (hl : l.length ≤ 1000000000000) (_hlc : l.length ≤ c) (hk : k ≤ 100) (hfv : 0 < k → fv = .func (.func K) #[] caps)
    (hen:0 < k→∀ args w,(callFunc K args).run Tryz.prog w=.ok (.enter K args) w)
    (hf:∀ i < k,∀ W,Below w.heap.size w W→Calls Tryz.prog K (#[.int .i64 (i:Int)] ++ caps) W fun e W'=>e=.returned (.int .u8 ((f i).toNat:Int))∧W=W') :
    Calls Tryz.prog 133 #[.slice a l.length c,.int .i64 k,fv] w
      fun e w'=>∃ v,e=.returned v∧w'.ownsRow w.heap.size 5 1 v (l.length+k) (bV (l ++ (List.range k).map f))∧Below w.heap.size w w':=by
  obtain ⟨i0,hi0,hz0,hz1,hz2⟩:=info_parts info_u8
  have HR:=Lib.hid hr;have HF:=Lib.hid hf;clear hr hf
  have HZ2:=Lib.hid hz2;clear hz2
  have HFV:=Lib.hid hfv;have HEN:=Lib.hid hen;clear hfv hen
  go_enter Tryz.func133,Tryz.ntmps133
  go_wp2
  refine wp_scope_back 0 (fun a' w'=>∃ (i g:Nat) (u9 u10 u11 u12 u13 u14 u15 u16 u17 u18 u19 u20 u21 u22 u23 u24 u25 u26 u27 u28 u29 u30:Value),i≤k∧a'={ tmps:=#[.slice a l.length c,.int .i64 k,fv,undef,undef,undef,.slice none 0 0,.slice (some ⟨g,0,none⟩) (l.length+i) (l.length+k),.int .i64 i,u9,u10,u11,u12,u13,u14,u15,u16,u17,u18,u19,u20,u21,u22,u23,u24,u25,u26,u27,u28,u29,u30],defers:=[] }∧w'.ownsRow w.heap.size 5 1 (.slice (some ⟨g,0,none⟩) (l.length+i) (l.length+k)) (l.length+i) (bV (l ++ (List.range i).map f))∧RowKit.Below w.heap.size w w') (fun a' _=>k - (intOf (a'.tmps.getD 8 undef)).toNat) rfl ?_ ?_
  · rintro a' W ⟨i,g,u9,u10,u11,u12,u13,u14,u15,u16,u17,u18,u19,u20,u21,u22,u23,u24,u25,u26,u27,u28,u29,u30,hik,rfl,hown,hb⟩
    have HO:=Lib.hid hown;have HB:=Lib.hid hb;clear hown hb
    by_cases hlt:i < k
    · have hen:=HEN.out (by omega)
      have hfv:=HFV.out (by omega)
      subst hfv
      go_wp2_with fail
      refine (HF.out i hlt W HB.out).mono ?_
      rintro e w3 ⟨rfl,rfl⟩
      go_wp2_with (at_builtin
                   refine wpList_append_fits _ rfl (.tmp 22) (.tmp 26) 38 rfl w.heap.size 5 i0 1 Tryz.underlying38 hi0 hz1 g (l.length+i) (l.length+k) _ rfl (HO.out.alloc _) ⟨W.heap.size,0,none⟩ 1 1 (bV [f i]) rfl rfl (lit_cells W #[.int .u8 ((f i).toNat:Int)] _) (bV_one _) (by omega) ?_
                   intro w4 hown4 hg4
                   have HO4:=Lib.hid hown4;have HG4:=Lib.hid hg4;clear hown4 hg4)
      go_step3
      have hg:w.heap.size≤g:=(own_shape HO.out rfl).1
      refine ⟨rfl,⟨i+1,g,_,_,_,_,_,_,_,_,_,_,_,_,_,_,_,_,_,_,_,_,_,_,by omega,rfl,?_,?_⟩,?_⟩
      · rw [List.range_succ,List.map_append,← List.append_assoc,bV_append]
        exact HO4.out
      · exact Below.of_grown (HB.out.alloc HB.out.size _) HG4.out (by simp;exact Nat.le_succ_of_le HB.out.size) (by intro g' h;simp at h;omega)
      · simp [intOf];omega
    · have hik':i=k:=by omega
      subst hik'
      go_wp2_with fail
      simp only [Exit.jump]
      go_ret
      exact ⟨_,rfl,HO.out,HB.out⟩
  · intro hpass
    go_wp2_with (first
      | (at_make
         refine wpList_make_room _ rfl (.tmp 10) (.tmp 14) 38 rfl w.heap.size 5 i0 _ 1 Tryz.underlying38 hi0 hz0 hz1 .i64 .i64 _ _ l.length (l.length+k) rfl rfl rfl rfl (by omega) (by rw [HZ2.out];omega) (by unfold maxLen;omega) (Nat.le_refl _) ?_
         intro w1 hown1 hb1
         have HO1:=Lib.hid hown1;have HB1:=Lib.hid hb1;clear hown1 hb1)
      | (refine wpList_copy_all rfl (.tmp 16) (.tmp 17) 38 rfl w.heap.size 5 i0 1 Tryz.underlying38 hi0 hz1 w.heap.size l.length (l.length + k) _ rfl HO1.out w.heap.size a c (bV l) rfl (by rw [bV_length]; omega) (by omega) (HR.out.below HB1.out) (bV_one l) ?_
         intro w2 hown2 hg2
         have HO2:=Lib.hid hown2;have HB2:=Lib.hid (HB1.out.grown hg2 HB1.out.size (by simp));clear hown2 hg2))
    go_step3
    refine ‹∀ (a:Act) (w:World),Code.wp _ _ _ a w→_› _ _ ?_
    exact hpass _ _ ⟨0,w.heap.size,_,_,_,_,_,_,_,_,_,_,_,_,_,_,_,_,_,_,_,_,_,_,Nat.zero_le _,rfl,by simpa using HO2.out,HB2.out⟩
end Go.Proofs.YtccbpngehedbaaaGreat

namespace Go.Proofs.YtccbpngehedbaaaGreat
open Go Go.RowKit

/-- The lowest bytes of a number. -/
def putL (n k:Nat):List UInt8:=(List.range k).map (byt n)
theorem putL_length (n k:Nat):(putL n k).length=k:=by simp [putL]
set_option maxHeartbeats 1000000 in
theorem put_any (a:Option Addr) (c:Nat) (l:List UInt8) (n:Nat) (s:Int) (w:World) (hr:Rd w w.heap.size a (bV l)) (hl:l.length≤1000000000000) (hlc:l.length≤c) (hn:n < 18446744073709551616)
    (h1:-9223372036854775808≤s) (h2:s≤9223372036854775807) :
    Calls Tryz.prog 109 #[.slice a l.length c,.int .u64 n,.int .i64 s] w
      fun e w'=>∃ v,e=.returned v∧w'.ownsRow w.heap.size 5 1 v (l.length+cnt s) (bV (l ++ putL n (cnt s)))∧Below w.heap.size w w':=by
  have HR:=Lib.hid hr;clear hr
  have hmf:∀ (fn:Fn) (first cap:Array Value) (w:World),(Instr.makeFunc fn first cap).run Tryz.prog w=.ok (.func fn first cap) w:=fun _ _ _ _=>rfl
  have hk:=cnt_le s
  have H1:=Lib.hid h1;have H2:=Lib.hid h2;clear h1 h2
  go_enter Tryz.func109,Tryz.ntmps109
  go_wp2_with (go_at_call 134;refine (counted_any _ _ H1.out H2.out).mono ?_;rintro e w' ⟨rfl,rfl⟩)
  refine (lay_any (.func (.func 135) #[] #[.pointer (some ⟨w.heap.size,0,none⟩)]) 135 #[.pointer (some ⟨w.heap.size,0,none⟩)] (byt n) (cnt s) a c l _ ((HR.out.below (box1 w _)).more (by simp)) hl hlc (by omega) (fun _=>rfl) (fun _=>enters_at Tryz.func135 (by kernel_rfl) rfl) ?_).mono ?_
  · intro i hi W hW
    exact put1_any n i _ W (by omega) hn (by rw [hW.cell (by simp)];go_simp)
  rintro e w1 ⟨v,rfl,hown,hb⟩
  go_wp2
  go_ret
  exact ⟨v,rfl,own_base hown (by simp),bel2 (box1 w _) hb⟩

/-- The field of a text. -/
def fldB (s:List UInt8) (i:Nat):UInt8:=if i=0 then UInt8.ofNat s.length else s.getD (i - 1) 0
def fldL (s:List UInt8):List UInt8:=if s.length≤16 then (List.range 17).map (fldB s) else []
theorem fldL_length {s:List UInt8} (h:s.length≤16):(fldL s).length=17:=by simp [fldL,h]
theorem fldL_long {s:List UInt8} (h:16 < s.length):fldL s=[]:=by unfold fldL;rw [if_neg (by omega)]
def stB (n:Nat) (at_ size:Int):Bool:=decide (0≤at_) && decide (size≤n - at_)
set_option maxHeartbeats 400000 in
theorem stands_any (a:Option Addr) (c n:Nat) (at_ size:Int) (w:World) (hn:n≤1000000000000) (h1:-9223372036854775808≤at_) (h2:at_≤9223372036854775807) :
    Calls Tryz.prog 156 #[.slice a n c,.int .i64 at_,.int .i64 size] w fun e w'=>e=.returned (.bool (stB n at_ size))∧w=w':=by
  by_cases h0:0≤at_
  · go_enter Tryz.func156,Tryz.ntmps156
    go_wp2
    go_ret
    exact ⟨ret_bool (by simp [stB,h0]),rfl⟩
  · go_enter Tryz.func156,Tryz.ntmps156
    go_wp2
    go_ret
    exact ⟨ret_bool (by simp [stB];omega),rfl⟩
end Go.Proofs.YtccbpngehedbaaaGreat

namespace Go.Proofs.YtccbpngehedbaaaGreat
open Go Go.RowKit

/-- The number whose bytes are l's k ones from at_ on. -/
def gN (l:List UInt8) (at_:Nat):Nat→Nat
  | 0=>0
  | k+1=>gN l at_ k+(l.getD (at_+k) 0).toNat * 2 ^ (8 * k)
theorem gN_lt (l:List UInt8) (at_:Nat):∀ k,gN l at_ k < 2 ^ (8 * k)
  | 0=>by simp [gN]
  | k+1=>by
    have h:=gN_lt l at_ k
    have hb:(l.getD (at_+k) 0).toNat≤255:=by have:=(l.getD (at_+k) 0).toNat_lt;omega
    have:(l.getD (at_+k) 0).toNat * 2 ^ (8 * k)≤255 * 2 ^ (8 * k):=Nat.mul_le_mul_right _ hb
    rw [gN,show 8 * (k+1)=8 * k+8 by omega,Nat.pow_add]
    omega
theorem or_shl (x b k:Nat) (hx:x < 2 ^ (8 * k)):x ||| b * 2 ^ (8 * k)=x+b * 2 ^ (8 * k):=by
  rw [Nat.or_comm,← Nat.shiftLeft_eq,← Nat.shiftLeft_add_eq_or_of_lt hx,Nat.add_comm]
theorem byte_shl (b:UInt8) (k:Nat) (hk:k < 8):b.toNat * 2 ^ (8 * k) < 18446744073709551616:=by
  have hb:b.toNat≤255:=by have:=b.toNat_lt;omega
  have h1:b.toNat * 2 ^ (8 * k)≤255 * 2 ^ (8 * k):=Nat.mul_le_mul_right _ hb
  have h2:2 ^ (8 * k)≤2 ^ 56:=Nat.pow_le_pow_right (by omega) (by omega)
  omega
theorem gN_step (l:List UInt8) (p k:Nat) (hk:k < 8) (hp:p+k < l.length) :
    bits BinOp.or IntKind.u64 (gN l p k:Int) (IntKind.u64.wrap (IntKind.u64.wrap (l[p+k].toNat:Int) * 2 ^ (8 * k)))=(gN l p (k+1):Int):=by
  have hb:=byte_shl l[p+k] k hk
  have hu:(l[p+k].toNat:Int)≤255:=by have:=l[p+k].toNat_lt;omega
  rw [IntWalk.u64_in (l[p+k].toNat:Int) ⟨by omega,by omega⟩]
  have e:((l[p+k].toNat:Int) * 2 ^ (8 * k))=((l[p+k].toNat * 2 ^ (8 * k):Nat):Int):=by simp
  have h2:2 ^ (8 * k)≤2 ^ 56:=Nat.pow_le_pow_right (by omega) (by omega)
  have hl:=gN_lt l p k
  rw [e,IntWalk.u64_in _ ⟨by omega,by omega⟩,u64_or_nat _ _ (by omega) hb,or_shl _ _ _ hl,gN,getD_lt hp]
theorem ret_u64b {x y:Int} {a b:Bool} (h:x=y) (h2:a=b):Ending.returned (.tuple #[.int .u64 x,.bool a])=.returned (.tuple #[.int .u64 y,.bool b]):=by rw [h,h2]
set_option maxHeartbeats 1000000 in
theorem get_yes (a:Option Addr) (c:Nat) (l:List UInt8) (p:Nat) (s:Int) (w:World) (hr:Rd w w.heap.size a (bV l)) (hl:l.length≤1000000000000)
    (h1:-9223372036854775808≤s) (h2:s≤9223372036854775807) (hst:p+cnt s≤l.length) :
    Calls Tryz.prog 129 #[.slice a l.length c,.int .i64 p,.int .i64 s] w
      fun e w'=>e=.returned (.tuple #[.int .u64 (gN l p (cnt s)),.bool true])∧w=w':=by
  have HR:=Lib.hid hr;clear hr
  have hk:=cnt_le s
  have H1:=Lib.hid h1;have H2:=Lib.hid h2;clear h1 h2
  have HS:Hid (stB l.length p (cnt s)=true):=by show _=_;simp [stB];omega
  go_enter Tryz.func129,Tryz.ntmps129
  go_wp2_with fail
  refine (counted_any _ _ H1.out H2.out).mono ?_;rintro e w' ⟨rfl,rfl⟩
  go_wp2_with fail
  refine (stands_any _ _ _ _ _ _ hl (by omega) (by omega)).mono ?_;rw [HS.out];rintro e w' ⟨rfl,rfl⟩
  go_wp2_with fail
  go_loop [8,18] (fun n i=>∃ k:Nat,k≤cnt s∧i=.int .i64 k∧n=.int .u64 (gN l p k)) (fun _ i=>cnt s - (intOf i).toNat)
  case atStart=>exact ⟨0,Nat.zero_le _,rfl,rfl⟩
  case round =>
    obtain ⟨k,hk',rfl,rfl⟩:=hrel
    by_cases hlt:k < cnt s
    · have hpl:p+k < l.length:=by omega
      obtain ⟨b,off,ha,_,hcell⟩:=HR.out.byte hpl
      subst ha
      have i1:(0:Int)≤(p:Int)+(k:Int):=by omega
      have i2:(p:Int)+(k:Int) < (l.length:Int):=by omega
      have e1:((p:Int)+(k:Int)).toNat=p+k:=by omega
      have HG:=Lib.hid (gN_step l p k (by omega) hpl)
      go_wp2
      rw [HG.out]
      go_round
      case rel=>exact ⟨k+1,by omega,by go_num,rfl⟩
      case measure=>simp [intOf];omega
    · have:k=cnt s:=by omega
      subst this
      go_wp2
      go_ret2
      exact ⟨rfl,rfl⟩

/-- What is read at a place, size bytes of it. -/
def getR (l:List UInt8) (p s:Int):Nat × Bool:=if 0≤p∧p+cnt s≤l.length then (gN l p.toNat (cnt s),true) else (0,false)
theorem getR_yes {l:List UInt8} {p s:Int} (h:0≤p∧p+cnt s≤l.length):getR l p s=(gN l p.toNat (cnt s),true):=if_pos h
theorem getR_no {l:List UInt8} {p s:Int} (h:¬ (0≤p∧p+cnt s≤l.length)):getR l p s=(0,false):=if_neg h
set_option maxHeartbeats 1000000 in
theorem get_any (a:Option Addr) (c:Nat) (l:List UInt8) (p:Int) (s:Int) (w:World) (hr:Rd w w.heap.size a (bV l)) (hl:l.length≤1000000000000)
    (h1:-9223372036854775808≤s) (h2:s≤9223372036854775807) (h3:-9223372036854775808≤p) (h4:p≤9223372036854775807) :
    Calls Tryz.prog 129 #[.slice a l.length c,.int .i64 p,.int .i64 s] w
      fun e w'=>e=.returned (.tuple #[.int .u64 (getR l p s).1,.bool (getR l p s).2])∧w=w':=by
  by_cases h:0≤p∧p+cnt s≤l.length
  · rw [getR_yes h]
    obtain ⟨q,rfl⟩:∃ q:Nat,p=q:=⟨p.toNat,by omega⟩
    rw [Int.toNat_natCast]
    exact get_yes a c l q s w hr hl h1 h2 (by omega)
  · have HN:=Lib.hid (getR_no h)
    have H1:=Lib.hid h1;have H2:=Lib.hid h2;have H3:=Lib.hid h3;have H4:=Lib.hid h4;clear h1 h2 h3 h4 hr
    have HS:Hid (stB l.length p (cnt s)=false):=by show _=_;simp [stB];omega
    clear h
    go_enter Tryz.func129,Tryz.ntmps129
    go_wp2_with fail
    refine (counted_any _ _ H1.out H2.out).mono ?_;rintro e w' ⟨rfl,rfl⟩
    go_wp2_with fail
    refine (stands_any _ _ _ _ _ _ hl H3.out H4.out).mono ?_;rw [HS.out];rintro e w' ⟨rfl,rfl⟩
    go_wp2
    go_ret2
    exact ⟨ret_u64b (by rw [HN.out];rfl) (by rw [HN.out]),rfl⟩
theorem pow_nat (k:Nat):(2:Int) ^ (8 * k)=((2 ^ (8 * k):Nat):Int):=by simp
theorem tms_step (k:Nat):IntKind.u64.wrap ((2:Int) ^ (8 * k) % 18446744073709551616 * 256)=(2:Int) ^ (8 * (k+1)) % 18446744073709551616:=by
  rw [IntKind.wrap_u64,pow_nat,pow_nat,show 8 * (k+1)=8 * k+8 by omega,Nat.pow_add];omega
theorem gN_add (l:List UInt8) (p k:Nat) (b:UInt8) (hk:k < 8) (hb:l.getD (p+k) 0=b) :
    IntKind.u64.wrap ((gN l p k:Int)+IntKind.u64.wrap ((2:Int) ^ (8 * k) % 18446744073709551616 * IntKind.u64.wrap (b.toNat:Int)))=(gN l p (k+1):Int):=by
  have h1:=byte_shl b k hk
  have hu:(b.toNat:Int)≤255:=by have:=b.toNat_lt;omega
  have h2:2 ^ (8 * k)≤2 ^ 56:=Nat.pow_le_pow_right (by omega) (by omega)
  have hl:=gN_lt l p (k+1)
  have h3:2 ^ (8 * (k+1))≤2 ^ 64:=Nat.pow_le_pow_right (by omega) (by omega)
  have e0:(2:Int) ^ (8 * k) % 18446744073709551616=((2 ^ (8 * k):Nat):Int):=by rw [pow_nat];clear hl h3 h1;generalize 2 ^ (8 * k)=X at h2 ⊢;omega
  have e:((2 ^ (8 * k):Nat):Int) * (b.toNat:Int)=((b.toNat * 2 ^ (8 * k):Nat):Int):=by rw [Int.mul_comm];simp
  rw [IntWalk.u64_in (b.toNat:Int) ⟨by omega,by omega⟩,e0,e,IntWalk.u64_in ((b.toNat * 2 ^ (8 * k):Nat):Int) ⟨by omega,by omega⟩,← Int.natCast_add]
  rw [gN,hb] at hl ⊢
  exact IntWalk.u64_in _ ⟨by omega,by omega⟩
set_option maxHeartbeats 1000000 in
theorem refGet_any (x:ByteArray) (p:Int) (s:Int) (w:World) (hl:x.size≤1000000000000)
    (_h1:-9223372036854775808≤s) (_h2:s≤9223372036854775807) (h3:-9223372036854775808≤p) (h4:p≤9223372036854775807) :
    Calls Tryz.prog 91 #[.string x,.int .i64 p,.int .i64 s] w
      fun e w'=>e=.returned (.tuple #[.int .u64 (getR x.data.toList p s).1,.bool (getR x.data.toList p s).2])∧Below w.heap.size w w':=by
  have hk:=cnt_le s
  have hdl:x.data.toList.length=x.size:=data_length x
  by_cases hp0:p < 0
  · have HN:=Lib.hid (getR_no (l:=x.data.toList) (p:=p) (s:=s) (by omega))
    clear hdl
    go_enter Tryz.func91,Tryz.ntmps91
    go_wp2_with (go_at_call 116;refine (refCount_any _ _).mono ?_;rintro e w' ⟨rfl,rfl⟩)
    go_ret2
    exact ⟨ret_u64b (by rw [HN.out];rfl) (by rw [HN.out]),Below.refl _ _⟩
  obtain ⟨q,rfl⟩:∃ q:Nat,p=q:=⟨p.toNat,by omega⟩
  by_cases hp1:x.size < q
  · have HN:=Lib.hid (getR_no (l:=x.data.toList) (p:=q) (s:=s) (by omega))
    clear hdl
    go_enter Tryz.func91,Tryz.ntmps91
    go_wp2_with (go_at_call 116;refine (refCount_any _ _).mono ?_;rintro e w' ⟨rfl,rfl⟩)
    go_ret2
    exact ⟨ret_u64b (by rw [HN.out];rfl) (by rw [HN.out]),Below.refl _ _⟩
  by_cases hp2:x.size < q+cnt s
  · have HN:=Lib.hid (getR_no (l:=x.data.toList) (p:=q) (s:=s) (by omega))
    clear hdl
    have i1:(x.size:Int) - (q:Int) < (cnt s:Int):=by omega
    go_enter Tryz.func91,Tryz.ntmps91
    go_wp2_with (go_at_call 116;refine (refCount_any _ _).mono ?_;rintro e w' ⟨rfl,rfl⟩)
    go_ret2
    exact ⟨ret_u64b (by rw [HN.out];rfl) (by rw [HN.out]),Below.refl _ _⟩
  have HN:=Lib.hid (getR_yes (l:=x.data.toList) (p:=q) (s:=s) (by omega))
  have i1:¬ (x.size:Int) - (q:Int) < (cnt s:Int):=by omega
  have HD:=Lib.hid hdl
  clear hdl
  go_enter Tryz.func91,Tryz.ntmps91
  go_wp2_with (go_at_call 116;refine (refCount_any _ _).mono ?_;rintro e w' ⟨rfl,rfl⟩)
  clear i1
  go_loopw [9,10,11] (fun n t i wr=>∃ k:Nat,k≤cnt s∧i=.int .i64 k∧n=.int .u64 (gN x.data.toList q k)∧t=.int .u64 ((2:Int) ^ (8 * k) % 18446744073709551616)∧Below w.heap.size w wr) (fun _ _ i _=>cnt s - (intOf i).toNat)
  case atStart=>exact ⟨0,Nat.zero_le _,rfl,rfl,rfl,Below.refl _ _⟩
  case round =>
    obtain ⟨k,hk',rfl,rfl,rfl,hb⟩:=hrel
    by_cases hlt:k < cnt s
    · have hpl:q+k < x.size:=by omega
      have i1:(0:Int)≤(q:Int)+(k:Int):=by omega
      have i2:(q:Int)+(k:Int) < (x.size:Int):=by omega
      have e1:((q:Int)+(k:Int)).toNat=q+k:=by omega
      have HT:=Lib.hid (tms_step k)
      have HG:=Lib.hid (gN_add x.data.toList q k x[q+k] (by omega) (data_getD hpl))
      go_wp2
      rw [HT.out,HG.out]
      go_roundw
      case rel=>exact ⟨k+1,by omega,by go_num,rfl,rfl,hb⟩
      case measure=>simp [intOf];omega
    · have:k=cnt s:=by omega
      subst this
      go_wp2
      go_ret2
      exact ⟨ret_u64b (by rw [HN.out];rfl) (by rw [HN.out]),hb⟩
end Go.Proofs.YtccbpngehedbaaaGreat

namespace Go.Proofs.YtccbpngehedbaaaGreat
open Go Go.RowKit

theorem run_string_of {w:World} {a:Option Addr} {B:Nat} (n c:Nat) {l:List UInt8} (h:Rd w B a (bV l)) (hn:n=l.length):(convert 38 9 (.slice a n c)).run Tryz.prog w=.ok (.string (bs l)) w :=
  run_string_rd w _ _ 5 Tryz.underlying38 Tryz.underlying5 Tryz.underlying9 n c h hn
set_option maxHeartbeats 1000000 in
theorem refPut_any (n : Nat) (s : Int) (w : World) (hn : n < 18446744073709551616) :
    Calls Tryz.prog 85 #[.int .u64 n,.int .i64 s] w
      fun e w'=>e=.returned (.string (bs (putL n (cnt s))))∧Below w.heap.size w w':=by
  have hk:=cnt_le s
  go_enter Tryz.func85,Tryz.ntmps85
  go_wp2
  go_loopw [0,5,6] (fun m t i wr=>∃ k M:Nat,k≤cnt s∧i=.int .i64 k∧M=n / 2 ^ (8 * k)∧m=.int .u64 (M:Int)∧t=.string (bs (putL n k))∧Below w.heap.size w wr) (fun _ _ i _=>cnt s - (intOf i).toNat)
  case atStart=>exact ⟨0,n,Nat.zero_le _,rfl,by simp,rfl,rfl,Below.refl _ _⟩
  case round =>
    obtain ⟨k,M,hk',rfl,hM,rfl,rfl,hb⟩:=hrel
    have HM:=Lib.hid hM;clear hM
    by_cases hlt:k < cnt s
    · have hM0:(0:Int)≤(M:Int):=by omega
      have hb8:((M:Int) % 256)=((byt n k).toNat:Int):=by rw [byt_nat,HM.out];simp
      have hcv:(convert 38 9 (.slice (some ⟨wr.heap.size,0,none⟩) 1 1)).run Tryz.prog (wr.alloc (.cells #[.int .u8 ((M:Int) % 256)] 5))=.ok (.string (bs [byt n k])) (wr.alloc (.cells #[.int .u8 ((M:Int) % 256)] 5)):=by
        refine run_string_of (B:=wr.heap.size+1) 1 1 ?_ rfl
        rw [hb8]
        exact (Rd.own (World.ownsRow_lit (base:=0) (e:=5) (size:=1) wr #[.int .u8 ((byt n k).toNat:Int)] 1 (Nat.zero_le _) (by decide) rfl)).more (by simp)
      have hsz:¬ 9223372036854775807 < (bs (putL n k)).size+(bs [byt n k]).size:=by rw [bs_size,bs_size,putL_length];simp;omega
      have HA:Hid (bs (putL n k) ++ bs [byt n k]=bs (putL n (k+1))):=by show _=_;rw [bs_append];simp [putL,List.range_succ]
      have HW:Hid (IntKind.u64.wrap ((M:Int) / 256)=((M / 256:Nat):Int)):=by
        have:M≤n:=by rw [HM.out];exact Nat.div_le_self _ _
        show _=_;rw [IntWalk.u64_in _ ⟨by omega,by omega⟩];omega
      have HN:Hid (M / 256=n / 2 ^ (8 * (k+1))):=by
        show _=_;rw [HM.out,Nat.div_div_eq_div_mul,show 8 * (k+1)=8 * k+8 by omega,Nat.pow_add]
      clear hb8
      go_wp2_with (go_at_call 116;refine (refCount_any _ _).mono ?_;rintro e w' ⟨rfl,rfl⟩)
      rw [HA.out,HW.out]
      go_roundw
      case rel=>exact ⟨k+1,M / 256,by omega,by go_num,HN.out,rfl,rfl,hb.alloc hb.size _⟩
      case measure=>simp [intOf];omega
    · have:k=cnt s:=by omega
      subst this
      go_wp2_with (go_at_call 116;refine (refCount_any _ _).mono ?_;rintro e w' ⟨rfl,rfl⟩)
      go_ret
      exact ⟨rfl,hb⟩

def zerosB (l:List UInt8):Bool:=l.all fun c=>c == 0
theorem zerosB_no {l:List UInt8} {i:Nat} (h:i < l.length) (hi:l[i] ≠ 0):zerosB l=false:=by
  simp only [zerosB,List.all_eq_false];exact ⟨l[i],List.getElem_mem _,by simpa using hi⟩
set_option maxHeartbeats 400000 in
theorem zeros_any (a : Option Addr) (c : Nat) (l : List UInt8) (w : World) (hr : Rd w w.heap.size a (bV l)) (hl : l.length ≤ 1000000000000) :
    Calls Tryz.prog 171 #[.slice a l.length c] w fun e w'=>e=.returned (.bool (zerosB l))∧w=w':=by
  have HR:=Lib.hid hr;clear hr
  go_enter Tryz.func171,Tryz.ntmps171
  go_wp2
  go_loop [7] (fun i=>∃ k:Nat,k≤l.length∧i=.int .i64 k∧(∀ j < k,l.getD j 0=0)) (fun i=>l.length - (intOf i).toNat)
  case atStart=>exact ⟨0,Nat.zero_le _,rfl,fun _ h=>by omega⟩
  case round =>
    obtain ⟨k,hk,rfl,hz⟩:=hrel
    have HZ:=Lib.hid hz;clear hz
    by_cases hlt:k < l.length
    · obtain ⟨b,off,ha,_,hcell⟩:=HR.out.byte hlt
      subst ha
      by_cases hx:l[k]=0
      · have HX:=Lib.hid hx
        rw [hx] at hcell
        clear hx
        have hcell2:w.cell? ⟨b,off+k,none⟩=some (.int .u8 0):=hcell
        clear hcell
        go_wp2
        go_round
        case rel=>exact ⟨k+1,by omega,by go_num,fun j hj=>by
          by_cases e:j=k
          · subst e;rw [getD_lt hlt];exact HX.out
          · exact HZ.out j (by omega)⟩
        case measure=>simp [intOf];omega
      · have HE:=Lib.hid (zerosB_no hlt hx)
        have hx1:((l[k].toNat:Int) != 0)=true:=by
          simp;intro e;apply hx;exact UInt8.toNat_inj.1 e
        clear hx
        go_wp2
        go_ret
        exact ⟨ret_bool HE.out.symm,rfl⟩
    · have HE:Hid (zerosB l=true):=by
        show _=_
        simp only [zerosB,List.all_eq_true]
        intro x hx
        obtain ⟨j,hj,rfl⟩:=List.mem_iff_getElem.1 hx
        have:=HZ.out j (by omega)
        rw [getD_lt hj] at this
        simpa using this
      go_wp2
      go_ret
      exact ⟨ret_bool HE.out.symm,rfl⟩
end Go.Proofs.YtccbpngehedbaaaGreat

namespace Go.Proofs.YtccbpngehedbaaaGreat
open Go Go.RowKit

/-- The text of a field of 17 bytes. -/
def unF (f:List UInt8):Option (List UInt8):=if (f.getD 0 0).toNat≤16∧zerosB (f.drop (1+(f.getD 0 0).toNat))=true then some ((f.drop 1).take (f.getD 0 0).toNat) else none
def getT (l:List UInt8) (p:Int):Option (List UInt8):=if 0≤p∧p+17≤l.length then unF ((l.drop p.toNat).take 17) else none
def txt (o:Option (List UInt8)):ByteArray:=bs (o.getD [])
theorem ret_strb {x y:ByteArray} {a b:Bool} (h:x=y) (h2:a=b):Ending.returned (.tuple #[.string x,.bool a])=.returned (.tuple #[.string y,.bool b]):=by rw [h,h2]
theorem zeros_is (a:Option Addr) (n c:Nat) (l:List UInt8) (w:World) (hr:Rd w w.heap.size a (bV l)) (hn:n=l.length) (hl:l.length≤1000000000000) (r:Bool) (h:zerosB l=r) :
    Calls Tryz.prog 171 #[.slice a n c] w fun e w'=>e=.returned (.bool r)∧w=w':=by
  subst hn h;exact zeros_any a c l w hr hl
set_option maxHeartbeats 1000000 in
theorem getText_any (a:Option Addr) (c:Nat) (l:List UInt8) (p:Int) (w:World) (hr:Rd w w.heap.size a (bV l)) (hl:l.length≤1000000000000) (hlc:l.length≤c) (hc:c≤maxLen)
    (h3:-9223372036854775808≤p) (h4:p≤9223372036854775807) :
    Calls Tryz.prog 159 #[.slice a l.length c,.int .i64 p] w
      fun e w'=>e=.returned (.tuple #[.string (txt (getT l p)),.bool (getT l p).isSome])∧w=w':=by
  have HR:=Lib.hid hr;clear hr
  unfold maxLen at hc
  by_cases hp:0≤p∧p+17≤l.length
  case neg =>
    have HN:Hid (getT l p=none):=by show _=_;unfold getT;rw [if_neg hp]
    have HS:Hid (stB l.length p 17=false):=by show _=_;simp [stB];omega
    have H3:=Lib.hid h3;have H4:=Lib.hid h4;clear hp h3 h4
    go_enter Tryz.func159,Tryz.ntmps159
    go_wp2_with fail
    refine (stands_any _ _ _ _ _ _ hl H3.out H4.out).mono ?_;rw [HS.out];rintro e w' ⟨rfl,rfl⟩
    go_wp2
    go_ret2
    exact ⟨ret_strb (by rw [HN.out];rfl) (by rw [HN.out];rfl),rfl⟩
  obtain ⟨q,rfl⟩:∃ q:Nat,p=q:=⟨p.toNat,by omega⟩
  obtain ⟨F,hF⟩:∃ F,F=(l.drop q).take 17:=⟨_,rfl⟩
  have HT:Hid (getT l q=unF F):=by show _=_;unfold getT;rw [if_pos hp,hF,Int.toNat_natCast]
  have hFl:F.length=17:=by rw [hF];simp;omega
  have HS:Hid (stB l.length q 17=true):=by show _=_;simp [stB];omega
  obtain ⟨b,off,ha,_,hcell⟩:=HR.out.byte (i:=q) (by omega)
  subst ha
  have HRF:Hid (Rd w w.heap.size (some ⟨b,off+q,none⟩) (bV F)):=by
    show Rd _ _ _ _;rw [hF,bV_take,bV_drop];exact (HR.out.drop q).take 17
  have h0:F.getD 0 0=l[q]'(by omega):=by rw [hF];simp [List.getD];rw [List.getElem?_eq_getElem (by omega)];rfl
  have HF0:=Lib.hid h0
  rw [← h0] at hcell
  clear h0 hF
  have HFL:=Lib.hid hFl;clear hFl
  obtain ⟨m,hm⟩:∃ m,m=(F.getD 0 0).toNat:=⟨_,rfl⟩
  rw [← hm] at hcell
  have HM:=Lib.hid hm;clear hm
  have hm256:m < 256:=by rw [HM.out];exact (F.getD 0 0).toNat_lt
  have i1:(0:Int)≤(q:Int):=by omega
  have i2:(q:Int)+17≤(c:Int):=by omega
  by_cases hm16:16 < m
  · have HN:Hid (getT l q=none):=by show _=_;rw [HT.out];unfold unF;rw [if_neg (by rw [← HM.out];omega)]
    go_enter Tryz.func159,Tryz.ntmps159
    go_wp2_with fail
    refine (stands_any _ _ _ _ _ _ hl (by omega) (by omega)).mono ?_;rw [HS.out];rintro e w' ⟨rfl,rfl⟩
    go_wp2_with fail
    go_ret2
    exact ⟨ret_strb (by rw [HN.out];rfl) (by rw [HN.out];rfl),rfl⟩
  have j1:(1:Int)+(m:Int)≤(c:Int) - (q:Int):=by omega
  have j2:(0:Int)≤(1:Int)+(m:Int):=by omega
  have HRD:Hid (Rd w w.heap.size (some ⟨b,off+q+(1+m),none⟩) (bV (F.drop (1+m)))):=by show Rd _ _ _ _;rw [bV_drop];exact HRF.out.drop (1+m)
  have HRZ:Hid (c - q=1+m→Rd w w.heap.size (some ⟨b,off+q,none⟩) (bV (F.drop (1+m)))):=by
    intro h;rw [List.drop_of_length_le (by rw [HFL.out];omega)];exact Rd.nil _ _ _
  have HRT:Hid (Rd w w.heap.size (some ⟨b,off+q+1,none⟩) (bV ((F.drop 1).take m))):=by show Rd _ _ _ _;rw [bV_take,bV_drop];exact (HRF.out.drop 1).take m
  have HTL:Hid (m=((F.drop 1).take m).length):=by show _=_;simp [HFL.out];omega
  have hcv:=fun n (hn:n=m) c'=>run_string_of (w:=w) n c' HRT.out (hn.trans HTL.out)
  cases hz:zerosB (F.drop (1+m))
  case false =>
    have HZ:=Lib.hid hz
    have HN:Hid (getT l q=none):=by show _=_;rw [HT.out];unfold unF;rw [if_neg (by rw [← HM.out];simp [hz])]
    clear hz hcv
    by_cases hcq:c - q=1+m
    · have HCQ:=Lib.hid hcq
      go_enter Tryz.func159,Tryz.ntmps159
      go_wp2_with fail
      refine (stands_any _ _ _ _ _ _ hl (by omega) (by omega)).mono ?_;rw [HS.out];rintro e w' ⟨rfl,rfl⟩
      go_wp2_with fail
      refine (zeros_is _ _ _ (F.drop (1+m)) _ (HRZ.out HCQ.out) (by rw [List.length_drop,HFL.out]) (by rw [List.length_drop,HFL.out];omega) false HZ.out).mono ?_;rintro e w' ⟨rfl,rfl⟩
      go_wp2
      go_ret2
      exact ⟨ret_strb (by rw [HN.out];rfl) (by rw [HN.out];rfl),rfl⟩
    · go_enter Tryz.func159,Tryz.ntmps159
      go_wp2_with fail
      refine (stands_any _ _ _ _ _ _ hl (by omega) (by omega)).mono ?_;rw [HS.out];rintro e w' ⟨rfl,rfl⟩
      go_wp2_with fail
      refine (zeros_is _ _ _ (F.drop (1+m)) _ HRD.out (by rw [List.length_drop,HFL.out]) (by rw [List.length_drop,HFL.out];omega) false HZ.out).mono ?_;rintro e w' ⟨rfl,rfl⟩
      go_wp2
      go_ret2
      exact ⟨ret_strb (by rw [HN.out];rfl) (by rw [HN.out];rfl),rfl⟩
  case true =>
    have HZ:=Lib.hid hz
    have HN:Hid (getT l q=some ((F.drop 1).take m)):=by show _=_;rw [HT.out];unfold unF;rw [if_pos (by rw [← HM.out];exact ⟨by omega,hz⟩),← HM.out]
    clear hz
    have HCV:=Lib.hid hcv
    clear hcv
    by_cases hcq:c - q=1+m
    · have HCQ:=Lib.hid hcq
      go_enter Tryz.func159,Tryz.ntmps159
      go_wp2_with fail
      refine (stands_any _ _ _ _ _ _ hl (by omega) (by omega)).mono ?_;rw [HS.out];rintro e w' ⟨rfl,rfl⟩
      go_wp2_with fail
      refine (zeros_is _ _ _ (F.drop (1+m)) _ (HRZ.out HCQ.out) (by rw [List.length_drop,HFL.out]) (by rw [List.length_drop,HFL.out];omega) true HZ.out).mono ?_;rintro e w' ⟨rfl,rfl⟩
      have hcv:=HCV.out
      go_wp2
      go_ret2
      exact ⟨ret_strb (by rw [HN.out];simp [txt]) (by rw [HN.out];rfl),rfl⟩
    · go_enter Tryz.func159,Tryz.ntmps159
      go_wp2_with fail
      refine (stands_any _ _ _ _ _ _ hl (by omega) (by omega)).mono ?_;rw [HS.out];rintro e w' ⟨rfl,rfl⟩
      go_wp2_with fail
      refine (zeros_is _ _ _ (F.drop (1+m)) _ HRD.out (by rw [List.length_drop,HFL.out]) (by rw [List.length_drop,HFL.out];omega) true HZ.out).mono ?_;rintro e w' ⟨rfl,rfl⟩
      have hcv:=HCV.out
      go_wp2
      go_ret2
      exact ⟨ret_strb (by rw [HN.out];simp [txt]) (by rw [HN.out];rfl),rfl⟩
end Go.Proofs.YtccbpngehedbaaaGreat

namespace Go.Proofs.YtccbpngehedbaaaGreat
open Go Go.RowKit Go.Sort

theorem fldL_eq {s:List UInt8} (h:s.length≤16):fldL s=UInt8.ofNat s.length :: (s ++ List.replicate (16 - s.length) 0):=by
  unfold fldL;rw [if_pos h]
  refine List.ext_getElem (by simp;omega) fun i h1 h2=>?_
  rw [List.getElem_map,List.getElem_range]
  cases i with
  | zero=>simp [fldB]
  | succ j =>
    rw [List.getElem_cons_succ]
    unfold fldB
    rw [if_neg (by omega),Nat.add_sub_cancel]
    by_cases hj:j < s.length
    · rw [List.getElem_append_left hj,getD_lt hj]
    · rw [List.getElem_append_right (by omega),getD_ge (by omega)];simp
theorem zerosB_iff:∀ l:List UInt8,zerosB l=true ↔ l=List.replicate l.length 0
  | []=>by simp [zerosB]
  | c :: l=>by
    have:=zerosB_iff l
    simp only [zerosB,List.all_cons,Bool.and_eq_true,beq_iff_eq,List.length_cons,List.replicate_succ,List.cons.injEq] at this ⊢
    exact and_congr_right fun _=>this
theorem fld_same {F:List UInt8} (hF:F.length=17) (hm:(F.getD 0 0).toNat≤16) :
    fldL ((F.drop 1).take (F.getD 0 0).toNat)=F ↔ zerosB (F.drop (1+(F.getD 0 0).toNat))=true:=by
  cases F with
  | nil=>simp at hF
  | cons c G =>
    have hc:(c :: G).getD 0 0=c:=rfl
    rw [hc] at hm ⊢
    have hG:G.length=16:=by simpa using hF
    have hl:((c :: G).drop 1 |>.take c.toNat).length=c.toNat:=by simp;omega
    rw [fldL_eq (by rw [hl];exact hm),hl,zerosB_iff,show 1+c.toNat=c.toNat+1 by omega]
    simp only [List.drop_succ_cons,List.drop_zero,UInt8.ofNat_toNat,List.cons.injEq,true_and]
    have e:G=G.take c.toNat ++ G.drop c.toNat:=(List.take_append_drop _ _).symm
    have e2:(G.drop c.toNat).length=16 - c.toNat:=by simp;omega
    rw [e2]
    constructor
    · intro h
      have h2:=congrArg (List.drop c.toNat) h
      rw [List.drop_append_of_le_length (by simp;omega),List.drop_of_length_le (by simp;omega),List.nil_append] at h2
      exact h2.symm
    · intro h
      rw [← h,← e]
theorem fld_back {s:List UInt8} (h:s.length≤16):unF (fldL s)=some s:=by
  have hl:=fldL_length h
  have h0:((fldL s).getD 0 0)=UInt8.ofNat s.length:=by rw [fldL_eq h];rfl
  have hn:((fldL s).getD 0 0).toNat=s.length:=by rw [h0];simp;omega
  have ht:((fldL s).drop 1).take s.length=s:=by rw [fldL_eq h];simp
  unfold unF
  rw [if_pos ⟨by omega,(fld_same hl (by omega)).1 (by rw [hn,ht])⟩,hn,ht]

def strV:Value→ByteArray | .string s=>s | _=>ByteArray.empty
set_option maxHeartbeats 1000000 in
theorem refPutText_any (s : ByteArray) (w : World) (hs : s.size ≤ maxLen) :
    Calls Tryz.prog 117 #[.string s] w fun e w'=>e=.returned (.string (bs (fldL s.data.toList)))∧Below w.heap.size w w':=by
  unfold maxLen at hs
  have hdl:=data_length s
  by_cases h16:16 < s.size
  · have HF:=Lib.hid (fldL_long (s:=s.data.toList) (by omega))
    clear hdl
    go_enter Tryz.func117,Tryz.ntmps117
    go_wp2
    go_ret
    exact ⟨ret_str (by rw [HF.out];rfl),Below.refl _ _⟩
  have HF:=Lib.hid (fldL_eq (s:=s.data.toList) (by omega))
  have HD:=Lib.hid hdl;clear hdl
  have hw:IntKind.u64.wrap (s.size:Int)=s.size:=IntWalk.u64_in _ ⟨by omega,by omega⟩
  have hsz:¬ 9223372036854775807 < (bs (putL s.size (cnt 1))).size+s.size:=by rw [bs_size,putL_length];simp [cnt];omega
  go_enter Tryz.func117,Tryz.ntmps117
  go_wp2_with fail
  refine (refPut_any s.size 1 _ (by omega)).mono ?_;rintro e w1 ⟨rfl,hb1⟩
  go_wp2
  have h1:bs (putL s.size (cnt 1)) ++ s=bs (UInt8.ofNat s.size :: (s.data.toList ++ List.replicate 0 0)):=by
    have e1:putL s.size (cnt 1)=[UInt8.ofNat s.size]:=by
      have:cnt 1=1:=by decide
      rw [this];simp [putL,byt,List.range_succ]
    have e2:bs [UInt8.ofNat s.size] ++ bs s.data.toList=bs (UInt8.ofNat s.size :: s.data.toList):=bs_append _ _
    rw [e1,List.replicate_zero,List.append_nil,← e2,bs_of]
  rw [h1]
  clear h1
  go_loop [3] (fun t=>∃ (k:Nat) (T:ByteArray),s.size+k≤16∧T=bs (UInt8.ofNat s.size :: (s.data.toList ++ List.replicate k 0))∧t=.string T) (fun t=>17 - (strV t).size)
  case atStart=>exact ⟨0,_,by omega,rfl,rfl⟩
  case round =>
    obtain ⟨k,T,hk,hT,rfl⟩:=hrel
    have hTs:T.size=1+s.size+k:=by rw [hT,bs_size];simp;omega
    have HT:=Lib.hid hT
    have HTS:=Lib.hid hTs
    clear hT
    by_cases hlt:s.size+k < 16
    · have i1:T.size < 17:=by omega
      have HA:Hid (T ++ ⟨#[0]⟩=bs (UInt8.ofNat s.size :: (s.data.toList ++ List.replicate (k+1) 0))):=by
        have e2:bs (UInt8.ofNat s.size :: (s.data.toList ++ List.replicate k 0)) ++ bs [0]=bs (UInt8.ofNat s.size :: (s.data.toList ++ List.replicate (k+1) 0)):=by
          rw [bs_append];simp [List.replicate_succ']
        show _=_;rw [HT.out];exact e2
      have HSZ:Hid ((T ++ ⟨#[0]⟩:ByteArray).size=2+s.size+k):=by show _=_;rw [HA.out,bs_size];simp;omega
      clear hTs
      go_wp2
      go_round
      case rel=>exact ⟨k+1,_,by omega,HA.out,rfl⟩
      case measure=>show 17 - (T ++ ⟨#[0]⟩:ByteArray).size < 17 - T.size;rw [HSZ.out,HTS.out];omega
    · have i1:¬ T.size < 17:=by omega
      clear hTs
      go_wp2
      go_ret
      refine ⟨ret_str ?_,hb1⟩
      rw [HF.out,HT.out,HD.out,show k=16 - s.size by omega]
end Go.Proofs.YtccbpngehedbaaaGreat

namespace Go.Proofs.YtccbpngehedbaaaGreat
open Go Go.RowKit Go.Sort

set_option maxHeartbeats 1000000 in
theorem refGetText_any (s:ByteArray) (p:Int) (w:World) (hl:s.size≤1000000000000)
    (h3:-9223372036854775808≤p) (h4:p≤9223372036854775807) :
    Calls Tryz.prog 122 #[.string s,.int .i64 p] w
      fun e w'=>e=.returned (.tuple #[.string (txt (getT s.data.toList p)),.bool (getT s.data.toList p).isSome])∧Below w.heap.size w w':=by
  have hdl:=data_length s
  by_cases hp0:p < 0
  · have HN:Hid (getT s.data.toList p=none):=by show _=_;unfold getT;rw [if_neg (by omega)]
    clear hdl
    go_enter Tryz.func122,Tryz.ntmps122
    go_wp2
    go_ret2
    exact ⟨ret_strb (by rw [HN.out];rfl) (by rw [HN.out];rfl),Below.refl _ _⟩
  obtain ⟨q,rfl⟩:∃ q:Nat,p=q:=⟨p.toNat,by omega⟩
  by_cases hp1:s.size < q
  · have HN:Hid (getT s.data.toList q=none):=by show _=_;unfold getT;rw [if_neg (by omega)]
    clear hdl
    go_enter Tryz.func122,Tryz.ntmps122
    go_wp2
    go_ret2
    exact ⟨ret_strb (by rw [HN.out];rfl) (by rw [HN.out];rfl),Below.refl _ _⟩
  by_cases hp2:s.size < q+17
  · have HN:Hid (getT s.data.toList q=none):=by show _=_;unfold getT;rw [if_neg (by omega)]
    have i1:(s.size:Int) - (q:Int) < 17:=by omega
    clear hdl
    go_enter Tryz.func122,Tryz.ntmps122
    go_wp2
    go_ret2
    exact ⟨ret_strb (by rw [HN.out];rfl) (by rw [HN.out];rfl),Below.refl _ _⟩
  have hq:q < s.size:=by clear hdl;omega
  have i1:¬ (s.size:Int) - (q:Int) < 17:=by omega
  obtain ⟨F,hF⟩:∃ F,F=(s.data.toList.drop q).take 17:=⟨_,rfl⟩
  have HT:Hid (getT s.data.toList q=unF F):=by show _=_;unfold getT;rw [if_pos (by omega),hF,Int.toNat_natCast]
  have hFl:F.length=17:=by rw [hF];simp;omega
  have h0:(F.getD 0 0).toNat=(s[q]'hq).toNat:=by rw [← data_getD (s:=s) (j:=q) (by omega),hF];simp [List.getD]
  obtain ⟨m,hm⟩:∃ m,m=(s[q]'hq).toNat:=⟨_,rfl⟩
  have hm256:m < 256:=by rw [hm];exact (s[q]'hq).toNat_lt
  by_cases hm16:16 < m
  · have HN:Hid (getT s.data.toList q=none):=by show _=_;rw [HT.out];unfold unF;rw [if_neg (by omega)]
    have hm2:(16:Int) < ((s[q]'hq).toNat:Int):=by omega
    have hm3:((s[q]'hq).toNat:Int)≤255:=by omega
    have hm4:(0:Int)≤((s[q]'hq).toNat:Int):=by omega
    clear hdl h0 hm hF hFl
    go_enter Tryz.func122,Tryz.ntmps122
    go_wp2
    go_ret2
    exact ⟨ret_strb (by rw [HN.out];rfl) (by rw [HN.out];rfl),Below.refl _ _⟩
  have hm2:((s[q]'hq).toNat:Int)≤16:=by omega
  have i2:(q:Int)+1≤(q:Int)+1+((s[q]'hq).toNat:Int):=by omega
  have i3:(q:Int)+1+((s[q]'hq).toNat:Int)≤(s.size:Int):=by omega
  have i4:(q:Int)+17≤(s.size:Int):=by omega
  have HM:=Lib.hid hm
  have H0:=Lib.hid h0
  have HF:=Lib.hid hF;have HFL:=Lib.hid hFl;have HD:=Lib.hid hdl
  clear hdl h0 hm hF hFl
  go_enter Tryz.func122,Tryz.ntmps122
  obtain ⟨T,hT⟩:∃ T,T=(F.drop 1).take (s[q]'hq).toNat:=⟨_,rfl⟩
  have ER:Hid (List.take (s[q]'hq).toNat (List.drop (q+1) s.data.toList)=T):=by
    show _=_;rw [hT,HF.out,List.drop_take,List.drop_drop,List.take_take,Nat.min_eq_left (by omega)]
  have EX:Hid (s.extract (q+1) (q+1+(s[q]'hq).toNat)=bs T):=by
    show _=_;rw [bs_extract,hT,HF.out];congr 1
    rw [show q+1+(s[q]'hq).toNat - (q+1)=(s[q]'hq).toNat by omega,List.drop_take,List.drop_drop,List.take_take,Nat.min_eq_left (by omega)]
  have EY:Hid (s.extract q (q+17)=bs F):=by show _=_;rw [bs_extract,HF.out,show q+17 - q=17 by omega]
  have HTT:=Lib.hid hT
  clear hT
  have HC:Hid (fldL T=F ↔ zerosB (F.drop (1+(F.getD 0 0).toNat))=true):=by
    have:=fld_same HFL.out (by rw [H0.out];omega)
    rw [H0.out,← HTT.out,← H0.out] at this
    exact this
  have HU:Hid (unF F=if fldL T=F then some T else none):=by
    show _=_
    unfold unF
    by_cases h:fldL T=F
    · rw [if_pos ⟨by rw [H0.out];omega,HC.out.1 h⟩,if_pos h,H0.out,← HTT.out]
    · rw [if_neg (fun h'=>h (HC.out.2 h'.2)),if_neg h]
  go_wp2
  refine wp_region_quiet_below (by kernel_rfl) (by kernel_rfl) ?_
  iterate 8 (first | go_big_quiet_step (first | (go_at_call 117;exact Calls.regrown_of (refPutText_any _ _ (by rw [bs_extract,bs_size];simp [maxLen];omega)))) | fail)
  refine wpQuiet_nil ?_
  intro w' hw'
  obtain ⟨⟨d,os⟩,hw''⟩:=hw'
  have hb2:=below_regrown w d os
  rw [← hw''] at hb2
  clear hw''
  simp only [EX.out,EY.out,ER.out,bs_toList]
  by_cases hc:fldL T=F
  · have ⟨c1,c2⟩:=str_eq (x:=bs (fldL T)) (y:=bs F) (b:=true) (by rw [hc];simp)
    have HN:Hid (getT s.data.toList q=some T):=by show _=_;rw [HT.out,HU.out,if_pos hc]
    clear hc
    rw [c1]
    go_wp2
    go_ret2
    exact ⟨ret_strb (by rw [HN.out];rfl) (by rw [HN.out];rfl),hb2⟩
  · have ⟨c1,c2⟩:=str_eq (x:=bs (fldL T)) (y:=bs F) (b:=false) (by simp;exact fun h=>hc (bs_inj h))
    have HN:Hid (getT s.data.toList q=none):=by show _=_;rw [HT.out,HU.out,if_neg hc]
    clear hc
    rw [c1]
    go_wp2
    go_ret2
    exact ⟨ret_strb (by rw [HN.out];rfl) (by rw [HN.out];rfl),hb2⟩
end Go.Proofs.YtccbpngehedbaaaGreat

namespace Go.Proofs.YtccbpngehedbaaaGreat
open Go Go.RowKit Go.Sort

/-- A slice of bytes is answered that reads as L. -/
def BytesOut (w:World) (L:List UInt8) (e:Ending) (w':World):Prop :=
  ∃ a c,e=.returned (.slice a L.length c)∧L.length≤c∧c≤maxLen∧Rd w' w'.heap.size a (bV L)∧Below w.heap.size w w'
theorem own_out {w w':World} {v:Value} {n:Nat} {L:List UInt8} {e:Ending} {base:Nat} {t:TypeId} (he:e=.returned v) (ho:w'.ownsRow base t 1 v n (bV L)) (hb:Below w.heap.size w w'):BytesOut w L e w':=by
  have hn:n=L.length:=by have:=ho.1;rw [bV_length] at this;omega
  subst hn
  obtain ⟨a,c,rfl,h1,h2,_⟩:=own_slice ho
  exact ⟨a,c,he,h1,h2,Rd.own ho,hb⟩
theorem put_out (a:Option Addr) (c:Nat) (l:List UInt8) (n:Nat) (s:Int) (w:World) (hr:Rd w w.heap.size a (bV l)) (hl:l.length≤1000000000000) (hlc:l.length≤c) (hn:n < 18446744073709551616)
    (h1:-9223372036854775808≤s) (h2:s≤9223372036854775807) :
    Calls Tryz.prog 109 #[.slice a l.length c,.int .u64 n,.int .i64 s] w (BytesOut w (l ++ putL n (cnt s))) :=
  (put_any a c l n s w hr hl hlc hn h1 h2).mono fun _ _ ⟨_,he,ho,hb⟩=>own_out he ho hb
end Go.Proofs.YtccbpngehedbaaaGreat

