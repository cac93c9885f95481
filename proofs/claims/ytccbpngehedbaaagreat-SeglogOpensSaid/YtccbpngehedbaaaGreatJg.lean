import Derived.Test.YtccbpngehedbaaaGreatJf
import Derived.Test.YtccbpngehedbaaaGreatJd
import Derived.Test.YtccbpngehedbaaaGreatJa
import Derived.Lib.AppendZeros
import Derived.RangeFuncNested
import Derived.RangeFuncBound
import Derived.RangeFuncLeaves
import Derived.RangeFuncBox
import Derived.WalkKit
import Derived.Shelf.Abstract
import Derived.Shelf.RegionOpen
import Derived.OwnWalkIn
import Derived.TacticsInMore
import Derived.LoopNIn
import Derived.LoopIn
import Derived.Maps.AppendAt
namespace Go.Proofs.YtccbpngehedbaaaGreat
open Go Go.RowKit

set_option maxRecDepth 20000
end Go.Proofs.YtccbpngehedbaaaGreat

namespace Go.Proofs.YtccbpngehedbaaaGreat
open Go Go.RowKit

set_option maxRecDepth 20000
/-! Frames, as plain functions: no program. -/
def mayF (n:Nat):Bool:=decide (1≤n) && decide (n≤2406)
theorem mayF_iff {n:Nat}:mayF n=true ↔ 1≤n∧n≤2406:=by simp [mayF]
theorem mayF_no {n:Nat} (h:mayF n=false):n=0∨2406 < n:=by simp [mayF] at h;omega
/-- A body's sum, behind the bytes of its length. -/
def sumF (h b:List UInt8):Nat:=moreL 0 (h ++ b)
theorem sumF_lt (h b:List UInt8):sumF h b < 4294967296:=moreL_lt _ _
/-- A body's frame. -/
def frL (b:List UInt8):List UInt8:=putL b.length 2 ++ (putL (sumF (putL b.length 2) b) 4 ++ b)
theorem frL_length (b:List UInt8):(frL b).length=6+b.length:=by simp [frL,putL_length];omega
/-- The body of the frame with which bytes begin, or the error's number. -/
def firstF (s:List UInt8):Except Nat (List UInt8) :=
  if s.length < 6 then .error 2
  else if mayF (gN s 0 2)=false then .error 3
  else if s.length < 6+gN s 0 2 then .error 2
  else if sumF (s.take 2) ((s.drop 6).take (gN s 0 2))=gN s 2 4 then .ok ((s.drop 6).take (gN s 0 2)) else .error 8
def gotF (l:List UInt8) (p:Int):Except Nat (List UInt8):=if p < 0∨(l.length:Int)≤p then .error 5 else firstF (l.drop p.toNat)
theorem firstF_short {s:List UInt8} (h:s.length < 6):firstF s=.error 2:=if_pos h
theorem firstF_form {s:List UInt8} (h:6≤s.length) (h2:mayF (gN s 0 2)=false):firstF s=.error 3:=by
  unfold firstF;rw [if_neg (by omega),if_pos h2]
theorem firstF_less {s:List UInt8} (h:6≤s.length) (h2:mayF (gN s 0 2)=true) (h3:s.length < 6+gN s 0 2):firstF s=.error 2:=by
  unfold firstF;rw [if_neg (by omega),if_neg (by simp [h2]),if_pos h3]
theorem firstF_sum {s:List UInt8} (h2:mayF (gN s 0 2)=true) (h3:6+gN s 0 2≤s.length) (h4:sumF (s.take 2) ((s.drop 6).take (gN s 0 2)) ≠ gN s 2 4):firstF s=.error 8:=by
  unfold firstF;rw [if_neg (by omega),if_neg (by simp [h2]),if_neg (by omega),if_neg h4]
theorem firstF_ok {s:List UInt8} (h2:mayF (gN s 0 2)=true) (h3:6+gN s 0 2≤s.length) (h4:sumF (s.take 2) ((s.drop 6).take (gN s 0 2))=gN s 2 4):firstF s=.ok ((s.drop 6).take (gN s 0 2)):=by
  unfold firstF;rw [if_neg (by omega),if_neg (by simp [h2]),if_neg (by omega),if_pos h4]
/-- Its parts, read back. -/
theorem frL_len {s b:List UInt8} (h:s.take (6+b.length)=frL b) (hb:b.length≤2406):gN s 0 2=b.length:=by
  have h1:(s.drop 0).take 2=putL b.length 2:=by
    have:=congrArg (List.take 2) h
    rw [List.take_take,Nat.min_eq_left (by omega),frL,takeA] at this
    rw [List.drop_zero];exact this
  rw [gN_slab h1];omega
theorem frL_sum {s b:List UInt8} (h:s.take (6+b.length)=frL b):gN s 2 4=sumF (putL b.length 2) b:=by
  have h1:(s.drop 2).take 4=putL (sumF (putL b.length 2) b) 4:=by
    have:=congrArg (fun x=>(List.drop 2 x).take 4) h
    simp only [List.drop_take,List.take_take,frL] at this
    rw [dropA _ _ _ _ (Nat.le_refl _),Nat.sub_self,List.drop_zero,takeA,Nat.min_eq_left (by omega)] at this
    exact this
  rw [gN_slab h1];have:=sumF_lt (putL b.length 2) b;omega
theorem frL_body {s b:List UInt8} (h:s.take (6+b.length)=frL b):(s.drop 6).take b.length=b:=by
  have:=congrArg (List.drop 6) h
  rw [List.drop_take,frL,dropA _ _ _ _ (by omega),dropA _ _ _ _ (by omega),List.drop_zero] at this
  rw [show 6+b.length - 6=b.length by omega] at this
  exact this
theorem frL_head {s b:List UInt8} (h:s.take (6+b.length)=frL b):s.take 2=putL b.length 2:=by
  have:=congrArg (List.take 2) h
  rw [List.take_take,Nat.min_eq_left (by omega),frL,takeA] at this
  exact this
theorem frL_fits {s b:List UInt8} (h:s.take (6+b.length)=frL b):6+b.length≤s.length:=by
  have:=congrArg List.length h
  rw [List.length_take,frL_length] at this;omega
/-- What begins with a body's frame is read as it. -/
theorem firstF_of {s b:List UInt8} (h:s.take (6+b.length)=frL b) (hb:mayF b.length=true):firstF s=.ok b:=by
  have hb':=mayF_iff.1 hb
  have e1:=frL_len h (by omega)
  have e2:=frL_body h
  have e3:=firstF_ok (s:=s) (by rw [e1];exact hb) (by rw [e1];exact frL_fits h) (by rw [e1,e2,frL_head h,frL_sum h])
  rw [e3,e1,e2]
/-- What is read has that frame. -/
theorem firstF_back {s b:List UInt8} (h:firstF s=.ok b):s.take (6+b.length)=frL b∧mayF b.length=true∧6+b.length≤s.length:=by
  unfold firstF at h
  split at h
  · cases h
  split at h
  · cases h
  split at h
  · cases h
  split at h
  case isFalse=>cases h
  rename_i h1 h2 h3 h4
  injection h with h
  have hm:mayF (gN s 0 2)=true:=by simpa using h2
  have hl:b.length=gN s 0 2:=by rw [← h,List.length_take,List.length_drop];omega
  rw [h] at h4
  rw [← hl] at hm h3
  refine ⟨?_,hm,by omega⟩
  have e2:=putL_gN s 0 2 (by omega)
  rw [← hl,List.drop_zero] at e2
  have e4:=putL_gN s 2 4 (by omega)
  rw [← h4,← e2] at e4
  rw [← hl] at h
  have hh:s.take (6+b.length)=s.take 2 ++ ((s.drop 2).take 4 ++ (s.drop 6).take b.length):=by
    rw [show 6+b.length=2+(4+b.length) by omega,List.take_add,List.take_add,List.drop_drop]
  rw [hh,← e2,← e4,h]
  rfl
theorem firstF_err {s:List UInt8} {n:Nat} (h:firstF s=.error n):n=2∨n=3∨n=8:=by
  unfold firstF at h
  split at h
  · injection h with h;omega
  split at h
  · injection h with h;omega
  split at h
  · injection h with h;omega
  split at h
  · cases h
  · injection h with h;omega
theorem gotF_none {l:List UInt8} {p:Int} (h:p < 0∨(l.length:Int)≤p):gotF l p=.error 5:=if_pos h
theorem gotF_at {l:List UInt8} {q:Nat} (h:q < l.length):gotF l (q:Int)=firstF (l.drop q):=by
  unfold gotF;rw [if_neg (by omega),Int.toNat_natCast]
theorem gotF_err {l:List UInt8} {p:Int} {n:Nat} (h:gotF l p=.error n):n ≠ 0∧n < 9:=by
  unfold gotF at h
  split at h
  · injection h with h;omega
  · have:=firstF_err h;omega
theorem gotF_fits {l b:List UInt8} {p:Int} (h:gotF l p=.ok b):0≤p∧p+6+b.length≤l.length∧1≤b.length∧b.length≤2406:=by
  unfold gotF at h
  split at h
  · cases h
  · obtain ⟨_,h2,h3⟩:=firstF_back h
    have:=mayF_iff.1 h2
    rw [List.length_drop] at h3
    omega

/-- The bodies from a place on, m of them at most; the place behind bodies. -/
def allF (l:List UInt8):Nat→Int→List (List UInt8)
  | 0,_=>[]
  | m+1,p=>match gotF l p with
    | .error _=>[]
    | .ok b=>b :: allF l m (p+((6+b.length:Nat):Int))
def endF (p:Int):List (List UInt8)→Int
  | []=>p
  | b :: L=>endF (p+((6+b.length:Nat):Int)) L
theorem endF_snoc (b:List UInt8):∀ (L:List (List UInt8)) (p:Int),endF p (L ++ [b])=endF p L+((6+b.length:Nat):Int)
  | [],_=>rfl
  | _ :: L,_=>endF_snoc b L _
/-- L's bodies have been found, from p on, of m at most. -/
def Found (l:List UInt8) (m:Nat) (p:Int) (L:List (List UInt8)):Prop:=L.length≤m∧allF l m p=L ++ allF l (m - L.length) (endF p L)∧(L ≠ []→0≤p∧endF p L≤l.length∧0≤endF p L)∧∀ b ∈ L,1≤b.length∧b.length≤2406
theorem Found.start (l:List UInt8) (m:Nat) (p:Int):Found l m p []:=⟨Nat.zero_le _,rfl,fun h=>absurd rfl h,fun _ h=>absurd h (by simp)⟩
theorem Found.next {l b:List UInt8} {m:Nat} {p:Int} {L:List (List UInt8)} (h:Found l m p L) (hm:L.length < m) (hg:gotF l (endF p L)=.ok b):Found l m p (L ++ [b]):=by
  obtain ⟨h1,h2,h3,h4⟩:=h
  have hf:=gotF_fits hg
  refine ⟨by rw [List.length_append];simp;omega,?_,fun _=>?_,fun c hc=>?_⟩
  · rw [h2,List.append_assoc,endF_snoc,List.length_append,List.length_singleton]
    congr 1
    obtain ⟨k,hk⟩:∃ k,m - L.length=k+1:=⟨m - L.length - 1,by omega⟩
    rw [hk,allF,hg,show m - (L.length+1)=k by omega]
    rfl
  · rw [endF_snoc]
    have:0≤p:=by
      by_cases h0:L=[]
      · subst h0;exact hf.1
      · exact (h3 h0).1
    omega
  · rcases List.mem_append.1 hc with hc | hc
    · exact h4 c hc
    · rw [List.mem_singleton] at hc;subst hc;omega
theorem Found.stop {l:List UInt8} {m:Nat} {p:Int} {L:List (List UInt8)} {e:Nat} (h:Found l m p L) (hg:gotF l (endF p L)=.error e):allF l m p=L:=by
  obtain ⟨_,h2,_⟩:=h
  rw [h2]
  cases m - L.length with
  | zero=>exact List.append_nil _
  | succ k=>rw [allF,hg];exact List.append_nil _
theorem Found.full {l:List UInt8} {m:Nat} {p:Int} {L:List (List UInt8)} (h:Found l m p L) (hm:m≤L.length):allF l m p=L:=by
  obtain ⟨_,h2,_⟩:=h
  rw [h2,Nat.sub_eq_zero_of_le hm]
  exact List.append_nil _
theorem endF_more:∀ (L:List (List UInt8)) (p:Int),(∀ b ∈ L,1≤b.length∧b.length≤2406)→p+7 * (L.length:Int)≤endF p L
  | [],p,_=>by simp [endF]
  | b :: L,p,h=>by
    have ih:=endF_more L (p+((6+b.length:Nat):Int)) fun c hc=>h c (List.mem_cons_of_mem _ hc)
    have:=(h b (List.mem_cons_self ..)).1
    rw [endF,List.length_cons]
    omega
theorem Found.few {l:List UInt8} {m:Nat} {p:Int} {L:List (List UInt8)} (h:Found l m p L):7 * L.length≤l.length:=by
  by_cases h0:L=[]
  · subst h0;simp
  · have:=endF_more L p h.2.2.2
    have:=h.2.2.1 h0
    omega
end Go.Proofs.YtccbpngehedbaaaGreat

namespace Go.Proofs.YtccbpngehedbaaaGreat
open Go Go.RowKit

set_option maxRecDepth 20000
set_option maxHeartbeats 400000 in
theorem lengthMay_any (n:Nat) (w:World):Calls Tryz.prog 112 #[.int .i64 (n:Int)] w fun e w'=>e=.returned (.bool (mayF n))∧w=w':=by
  by_cases h:1≤n
  · go_enter Tryz.func112,Tryz.ntmps112
    go_wp2
    go_ret
    exact ⟨ret_bool (by simp [mayF,h];omega),rfl⟩
  · go_enter Tryz.func112,Tryz.ntmps112
    go_wp2
    go_ret
    exact ⟨ret_bool (by simp [mayF,h]),rfl⟩
theorem lengthMay_is (n:Nat) (b:Bool) (h:mayF n=b) (w:World):Calls Tryz.prog 112 #[.int .i64 (n:Int)] w fun e w'=>e=.returned (.bool b)∧w=w':=by
  subst h;exact lengthMay_any n w
set_option maxHeartbeats 400000 in
theorem sumOf_is (a1 a2:Option Addr) (n1 n2 c1 c2:Nat) (l1 l2:List UInt8) (w:World) (h1:n1=l1.length) (h2:n2=l2.length) (S:Nat) (hS:sumF l1 l2=S) (r1:Rd w w.heap.size a1 (bV l1)) (r2:Rd w w.heap.size a2 (bV l2)) (b1:l1.length≤1000000000000) (b2:l2.length≤1000000000000) :
    Calls Tryz.prog 113 #[.slice a1 n1 c1,.slice a2 n2 c2] w fun e w'=>e=.returned (.int .u64 (S:Int))∧Below w.heap.size w w':=by
  have R1:=Lib.hid r1;have R2:=Lib.hid r2;clear r1 r2
  have H1:=Lib.hid h1;have H2:=Lib.hid h2;clear h1 h2
  obtain ⟨T,hT⟩:∃ T,T=moreL 0 l1:=⟨_,rfl⟩
  have hTl:T < 4294967296:=by rw [hT];exact moreL_lt _ _
  have hE:moreL T l2=S:=by rw [hT,moreL_parts];exact hS
  have hSl:S < 4294967296:=by rw [← hS];exact sumF_lt _ _
  have HT:=Lib.hid hT;have HE:=Lib.hid hE;clear hT hE hS
  have hw:IntKind.u64.wrap (S:Int)=(S:Int):=IntWalk.u64_in _ ⟨by omega,by omega⟩
  go_enter Tryz.func113,Tryz.ntmps113
  go_wp2_with fail
  refine (sum_is a1 n1 c1 l1 w H1.out T HT.out R1.out b1).mono ?_;rintro e w1 ⟨rfl,hb1⟩
  have R2':=Lib.hid ((R2.out.below hb1).more hb1.size)
  go_wp2_with fail
  refine (more_is T a2 n2 c2 l2 w1 H2.out S HE.out hTl R2'.out b2).mono ?_;rintro e w2 ⟨rfl,hb2⟩
  go_wp2_with fail
  go_ret
  exact ⟨rfl,bel2 hb1 hb2⟩
set_option maxHeartbeats 1000000 in
theorem grow_nil (n:Nat) (h0:0 < n) (hn:n≤1000000000000) (w:World) :
    Calls Tryz.prog 138 #[.slice none 0 0,.int .i64 (n:Int)] w fun e w'=>∃ c,e=.returned (.slice (some ⟨w.heap.size,0,none⟩) 0 c)∧w'.ownsRow w.heap.size 5 1 (.slice (some ⟨w.heap.size,0,none⟩) 0 c) 0 []∧Below w.heap.size w w':=by
  obtain ⟨i0,hi0,hz0,hz1,hz2⟩:=info_parts info_u8
  have hrz:∀ ty,(Builtin.append_ #[38,3] ty #[.slice none 0 0,.int .i64 (n:Int)]).run Tryz.prog w=.ok (.slice (some ⟨w.heap.size,0,none⟩) n (grownCap w n 0 5)) (w.drew.alloc (.cells (Builtin.zeroCells (Value.int .u8 0).cells n ++ Builtin.zeroCells (Value.int .u8 0).cells (grownCap w n 0 5 - n)) 5)):=fun ty =>
    Lib.run_append_nil_zeros w 38 3 ty 5 i0 (.int .u8 0) .i64 .i64 Tryz.underlying38 Tryz.underlying3 hi0 hz0 n h0 (by rw [hz1];omega) (by omega) (by rw [hz2];omega)
  have hge:n≤grownCap w n 0 5:=grownCap_ge w _ _ _
  have hle:grownCap w n 0 5≤maxLen:=grownCap_le_maxLen w _ _ _ (by unfold maxLen;omega)
  obtain ⟨G,hG⟩:∃ G,G=grownCap w n 0 5:=⟨_,rfl⟩
  rw [← hG] at hge hle hrz
  obtain ⟨Z,hZ⟩:∃ Z,Z=Builtin.zeroCells (Value.int .u8 0).cells n ++ Builtin.zeroCells (Value.int .u8 0).cells (G - n):=⟨_,rfl⟩
  rw [← hZ] at hrz
  have hZs:Z.size=G:=by rw [hZ];simp [size_zeroCells,Value.cells];omega
  clear hZ hG hz2
  have hG63:G≤9223372036854775807:=by unfold maxLen at hle;omega
  go_enter Tryz.func138,Tryz.ntmps138
  go_wp2_with (at_builtin;refine Lib.wpList_append_run _ rfl _ _ _ _ rfl _ _ rfl rfl _ _ (hrz _) ?_)
  go_ret
  refine ⟨G,rfl,⟨rfl,.inr ⟨w.heap.size,G,Z,rfl,Nat.le_refl _,heap_alloc_new w.drew _,Nat.zero_le _,hle,by rw [hZs,Nat.mul_one],rfl⟩⟩,(Below_drew (Below.refl w.heap.size w)).alloc (Nat.le_refl _) _⟩
theorem grow_is (n:Nat) (N:Int) (hN:N=(n:Int)) (h0:0 < n) (hn:n≤1000000000000) (w:World) :
    Calls Tryz.prog 138 #[.slice none 0 0,.int .i64 N] w fun e w'=>∃ c,e=.returned (.slice (some ⟨w.heap.size,0,none⟩) 0 c)∧w'.ownsRow w.heap.size 5 1 (.slice (some ⟨w.heap.size,0,none⟩) 0 c) 0 []∧Below w.heap.size w w':=by
  subst hN;exact grow_nil n h0 hn w
end Go.Proofs.YtccbpngehedbaaaGreat

namespace Go.Proofs.YtccbpngehedbaaaGreat
open Go Go.RowKit

set_option maxRecDepth 20000
theorem put6_is (a:Option Addr) (n c:Nat) (l:List UInt8) (N:Nat) (M s:Int) (k:Nat) (L:List UInt8) (w:World) (hn:n=l.length) (hM:M=(N:Int)) (hk:cnt s=k) (hL:L=l ++ putL N k) (hr:Rd w w.heap.size a (bV l)) (hl:l.length≤1000000000000) (hlc:l.length≤c) (hN:N < 18446744073709551616)
    (h1:-9223372036854775808≤s) (h2:s≤9223372036854775807) :
    Calls Tryz.prog 109 #[.slice a n c,.int .u64 M,.int .i64 s] w (BytesOut w L):=by
  subst hn hk hL hM;exact put_out a c l N s w hr hl hlc hN h1 h2
end Go.Proofs.YtccbpngehedbaaaGreat

namespace Go.Proofs.YtccbpngehedbaaaGreat
open Go Go.RowKit
set_option maxRecDepth 20000
set_option maxRecDepth 20000

/-! A frame's bytes are the call's own. -/
set_option maxHeartbeats 1000000 in
theorem concat_own (a a1 a2 : Option Addr) (n c c1 c2 : Nat) (l1 l2 : List UInt8) (w : World) (hn : n = 2) (hr : Rd w w.heap.size a [.slice a1 l1.length c1, .slice a2 l2.length c2]) (r1 : Rd w w.heap.size a1 (bV l1)) (r2 : Rd w w.heap.size a2 (bV l2)) (b0 : 0 < l1.length + l2.length) (b1 : l1.length ≤ 100000000000) (b2 : l2.length ≤ 100000000000) :
    Calls Tryz.prog 114 #[.slice a n c] w fun e w'=>∃ v,e=.returned v∧w'.ownsRow w.heap.size 5 1 v (l1.length+l2.length) (bV (l1 ++ l2))∧Below w.heap.size w w':=by
  subst hn
  obtain ⟨b,off,rfl,hb,hc⟩:=hr (by simp)
  have h0:w.cell? ⟨b,off,none⟩=some (.slice a1 l1.length c1):=hc 0 _ rfl
  have h1:w.cell? ⟨b,off+1,none⟩=some (.slice a2 l2.length c2):=hc 1 _ rfl
  clear hc hr
  have R1:=Lib.hid r1;have R2:=Lib.hid r2;clear r1 r2
  obtain ⟨i0,hi0,hz0,hz1,hz2⟩:=info_parts info_u8
  have HZ2:=Lib.hid hz2;clear hz2
  go_enter Tryz.func114,Tryz.ntmps114
  have hszf:∃ sz:Nat→Nat,sz 0=0∧sz 1=l1.length∧sz 2=l1.length+l2.length:=⟨fun k=>if k=0 then 0 else if k=1 then l1.length else l1.length+l2.length,rfl,rfl,rfl⟩
  obtain ⟨sz,hs0,hs1,hs2⟩:=hszf
  have HS0:=Lib.hid hs0;have HS1:=Lib.hid hs1;have HS2:=Lib.hid hs2;clear hs0 hs1 hs2
  go_wp2_with fail
  go_loop [3,5,11] (fun s _ i=>∃ k:Nat,k≤2∧i=.int .i64 k∧s=.int .i64 (sz k:Nat)) (fun _ _ i=>2 - (intOf i).toNat)
  case atStart=>exact ⟨0,by omega,rfl,by rw [HS0.out];rfl⟩
  case round =>
    obtain ⟨k,hk,rfl,rfl⟩:=hrel
    obtain rfl | rfl | rfl:k=0∨k=1∨k=2:=by omega
    · rw [HS0.out]
      go_wp2_with fail
      go_round
      case rel=>exact ⟨1,by omega,by go_num,by rw [HS1.out]⟩
      case measure=>simp [intOf]
    · rw [HS1.out]
      go_wp2_with fail
      go_round
      case rel=>exact ⟨2,by omega,by go_num,by rw [HS2.out];simp⟩
      case measure=>simp [intOf]
    · rw [HS2.out]
      go_wp2_with fail
      refine (grow_is (l1.length+l2.length) _ (by simp) b0 (by omega) w).mono ?_;rintro e w1 ⟨c3,rfl,ho1,hb1⟩
      have HO1:=Lib.hid ho1;have HB1:=Lib.hid hb1
      have R1':=Lib.hid ((R1.out.below hb1).more hb1.size);have R2':=Lib.hid ((R2.out.below hb1).more hb1.size)
      have g0:w1.cell? ⟨b,off,none⟩=some (.slice a1 l1.length c1):=by rw [hb1.cell (p:=⟨b,off,none⟩) hb];exact h0
      have g1:w1.cell? ⟨b,off+1,none⟩=some (.slice a2 l2.length c2):=by rw [hb1.cell (p:=⟨b,off+1,none⟩) hb];exact h1
      clear ho1
      obtain ⟨acc,ha0,ha1,ha2⟩:∃ acc:Nat→List UInt8,acc 0=[]∧acc 1=l1∧acc 2=l1 ++ l2:=⟨fun k=>if k=0 then [] else if k=1 then l1 else l1 ++ l2,rfl,rfl,rfl⟩
      have HA0:=Lib.hid ha0;have HA1:=Lib.hid ha1;have HA2:=Lib.hid ha2;clear ha0 ha1 ha2
      have HS0':Hid (w.heap.size≤w1.heap.size):=hb1.size
      go_wp2_with fail
      go_loopw [6,8,27] (fun v _ i wr=>∃ k:Nat,k≤2∧i=.int .i64 k∧wr.ownsRow w.heap.size 5 1 v (sz k) (bV (acc k))∧Below w.heap.size w wr) (fun _ _ i _=>2 - (intOf i).toNat)
      case atStart=>exact ⟨0,by omega,rfl,by rw [HS0.out,HA0.out];exact HO1.out,HB1.out⟩
      case round =>
        obtain ⟨k,hk,rfl,hown,hbw⟩:=hrel
        have HO:=Lib.hid hown;have HB:=Lib.hid hbw
        have hBs:w.heap.size≤wr.heap.size:=hbw.size
        obtain rfl | rfl | rfl:k=0∨k=1∨k=2:=by omega
        · have q0:wr.cell? ⟨b,off,none⟩=some (.slice a1 l1.length c1):=by rw [hbw.cell (p:=⟨b,off,none⟩) hb];exact h0
          rw [HS0.out,HA0.out] at HO
          have R1':=Lib.hid ((R1.out.below hbw).more hbw.size)
          clear hown hbw h0 h1
          go_wp2_with (refine wpList_append_rd _ rfl (.tmp 31) (.tmp 32) 38 rfl w.heap.size 5 i0 _ 1 1 Tryz.underlying38 hi0 hz0 hz1 HZ2.out rfl (by omega) _ 0 [] rfl HO.out _ _ l1.length _ (bV l1) rfl (by rw [bV_length, Nat.mul_one]) R1'.out (bV_one _) (by unfold maxLen; omega) (by omega) hBs ?_
                       intro v7 w3 hown3 hg3 hk3
                       have HO3:=Lib.hid hown3;have HB3:=Lib.hid (Below.of_grown HB.out hg3 hBs (by intro g hg;exact (own_shape HO.out hg).1));clear hown3 hg3 hk3)
          go_roundw
          case rel=>exact ⟨1,by omega,by go_num,by rw [HS1.out,HA1.out];have h:=HO3.out;rwa [Nat.zero_add,List.nil_append] at h,HB3.out⟩
          case measure=>simp [intOf]
        · have q1:wr.cell? ⟨b,off+1,none⟩=some (.slice a2 l2.length c2):=by rw [hbw.cell (p:=⟨b,off+1,none⟩) hb];exact h1
          rw [HS1.out,HA1.out] at HO
          have R2':=Lib.hid ((R2.out.below hbw).more hbw.size)
          clear hown hbw h0 h1
          go_wp2_with (refine wpList_append_rd _ rfl (.tmp 31) (.tmp 32) 38 rfl w.heap.size 5 i0 _ 1 1 Tryz.underlying38 hi0 hz0 hz1 HZ2.out rfl (by omega) _ l1.length (bV l1) rfl HO.out _ _ l2.length _ (bV l2) rfl (by rw [bV_length, Nat.mul_one]) R2'.out (bV_one _) (by unfold maxLen; omega) (by omega) hBs ?_
                       intro v7 w3 hown3 hg3 hk3
                       have HO3:=Lib.hid hown3;have HB3:=Lib.hid (Below.of_grown HB.out hg3 hBs (by intro g hg;exact (own_shape HO.out hg).1));clear hown3 hg3 hk3)
          go_roundw
          case rel=>exact ⟨2,by omega,by go_num,by rw [HS2.out,HA2.out,bV_append];exact HO3.out,HB3.out⟩
          case measure=>simp [intOf]
        · rw [HS2.out,HA2.out] at HO
          clear hown hbw
          go_wp2_with fail
          go_ret
          exact ⟨_,rfl,HO.out,HB.out⟩
theorem concatO_is (a a1 a2:Option Addr) (n n1 n2 c c1 c2:Nat) (l1 l2 L:List UInt8) (w:World) (hn:n=2) (h1:n1=l1.length) (h2:n2=l2.length) (hL:L=l1 ++ l2) (hr:Rd w w.heap.size a [.slice a1 n1 c1,.slice a2 n2 c2]) (r1:Rd w w.heap.size a1 (bV l1)) (r2:Rd w w.heap.size a2 (bV l2)) (b0:0 < l1.length+l2.length) (b1:l1.length≤100000000000) (b2:l2.length≤100000000000) :
    Calls Tryz.prog 114 #[.slice a n c] w fun e w'=>∃ v,e=.returned v∧w'.ownsRow w.heap.size 5 1 v L.length (bV L)∧Below w.heap.size w w':=by
  subst hL h1 h2;rw [List.length_append];exact concat_own a a1 a2 n c c1 c2 l1 l2 w hn hr r1 r2 b0 b1 b2
set_option maxHeartbeats 1000000 in
theorem putR_own (a:Option Addr) (n c:Nat) (l:List UInt8) (w:World) (hn:n=l.length) (hm:mayF l.length=true) (hr:Rd w w.heap.size a (bV l)) :
    Calls Tryz.prog 83 #[.slice a n c] w fun e w'=>∃ v,e=.returned (.tuple #[v,.int .i64 0])∧w'.ownsRow w.heap.size 5 1 v (frL l).length (bV (frL l))∧Below w.heap.size w w':=by
  subst hn
  have HM:=Lib.hid hm;have HR:=Lib.hid hr;clear hr
  have hb:=mayF_iff.1 hm
  clear hm
  obtain ⟨N,hN⟩:∃ N,N=l.length:=⟨_,rfl⟩
  rw [← hN] at hb
  have HN:=Lib.hid hN
  have hw:IntKind.u64.wrap (N:Int)=(N:Int):=IntWalk.u64_in _ ⟨by omega,by omega⟩
  rw [← hN]
  clear hN
  obtain ⟨L2,h2⟩:∃ L,L=putL l.length 2:=⟨_,rfl⟩
  have h2l:L2.length=2:=by rw [h2,putL_length]
  obtain ⟨S,hS⟩:∃ S,sumF L2 l=S:=⟨_,rfl⟩
  have hSl:S < 4294967296:=by rw [← hS];exact sumF_lt _ _
  obtain ⟨L6,h6⟩:∃ L,L=L2 ++ putL S 4:=⟨_,rfl⟩
  have h6l:L6.length=6:=by rw [h6,List.length_append,h2l,putL_length]
  have HF:Hid (frL l=L6 ++ l):=by show _=_;rw [h6,← hS,h2,frL,List.append_assoc]
  obtain ⟨LF,hLF⟩:∃ L,L=L6 ++ l:=⟨_,rfl⟩
  rw [← hLF] at HF
  have HLF:=Lib.hid hLF
  clear hLF
  have H2:=Lib.hid h2;have HS:=Lib.hid hS;have H6:=Lib.hid h6;have H2L:=Lib.hid h2l;have H6L:=Lib.hid h6l
  clear h2 hS h6 h2l h6l
  go_enter Tryz.func83,Tryz.ntmps83
  go_wp2_with fail
  refine (lengthMay_is N true (by rw [HN.out];exact HM.out) _).mono ?_;rintro e w1 ⟨rfl,rfl⟩
  go_wp2_with fail
  refine (put6_is none 0 0 [] N _ 2 2 L2 _ rfl rfl rfl (by rw [HN.out];exact H2.out) (Rd.nil _ _ _) (by simp) (by simp) (by omega) (by omega) (by omega)).mono ?_;rintro e w1 ⟨a1,c1,rfl,hc1,_,hr1,hb1⟩
  have HR1:=Lib.hid hr1;have HB1:=Lib.hid hb1;have HC1:=Lib.hid hc1
  have HRL:=Lib.hid ((HR.out.below hb1).more hb1.size)
  clear hr1 hb1 hc1
  go_wp2_with fail
  refine (sumOf_is a1 a L2.length N c1 c L2 l w1 rfl HN.out S HS.out HR1.out HRL.out (by rw [H2L.out];omega) (by rw [← HN.out];omega)).mono ?_;rintro e w2 ⟨rfl,hb2⟩
  have HR2:=Lib.hid ((HR1.out.below hb2).more hb2.size)
  have HRL2:=Lib.hid ((HRL.out.below hb2).more hb2.size)
  have HB2:=Lib.hid (bel2 HB1.out hb2)
  clear hb2
  go_wp2_with fail
  refine (put6_is a1 L2.length c1 L2 S _ 4 4 L6 w2 rfl rfl rfl H6.out HR2.out (by rw [H2L.out];omega) HC1.out (by omega) (by omega) (by omega)).mono ?_;rintro e w3 ⟨a3,c3,rfl,hc3,_,hr3,hb3⟩
  have HR3:=Lib.hid hr3;have HB3:=Lib.hid (bel2 HB2.out hb3)
  have HRL3:=Lib.hid ((HRL2.out.below hb3).more hb3.size)
  clear hr3 hb3 hc3
  go_wp2_with fail
  refine (concatO_is _ a3 a 2 L6.length N 2 c3 c L6 l LF _ rfl rfl HN.out HLF.out (by exact (lit_rd w3 #[.slice a3 L6.length c3,.slice a N c] _).more (by simp)) ((HR3.out.below (box1 _ _)).more (by simp)) ((HRL3.out.below (box1 _ _)).more (by simp)) (by rw [H6L.out];omega) (by rw [H6L.out];omega) (by rw [← HN.out];omega)).mono ?_;rintro e w4 ⟨v4,rfl,ho4,hb4⟩
  obtain ⟨a4,c4,rfl,_,_,_⟩:=own_slice ho4
  have HO:=Lib.hid (own_base (base':=w.heap.size) ho4 (by have:=HB3.out.size;simp;omega));have HB4:=Lib.hid (bel2 HB3.out (bel2 (box1 _ _) hb4))
  clear ho4 hb4
  go_wp2_with fail
  go_ret2
  rw [HF.out]
  exact ⟨_,rfl,HO.out,HB4.out⟩
end Go.Proofs.YtccbpngehedbaaaGreat

namespace Go.Proofs.YtccbpngehedbaaaGreat
open Go Go.RowKit

set_option maxRecDepth 20000
set_option maxHeartbeats 1000000 in
theorem cloneB_any (ad:Addr) (n c:Nat) (l:List UInt8) (w:World) (hn:n=l.length) (hr:Rd w w.heap.size (some ad) (bV l)) (hl:l.length≤1000000000000) :
    Calls Tryz.prog 54 #[.slice (some ad) n c] w fun e w'=>∃ v,e=.returned v∧w'.ownsRow w.heap.size 5 1 v l.length (bV l)∧Below w.heap.size w w':=by
  subst hn
  have HR:=Lib.hid (hr.below (box1 w (.cells #[] 5)));clear hr
  obtain ⟨i0,hi0,hz0,hz1,hz2⟩:=info_parts info_u8
  have HZ2:=Lib.hid hz2;clear hz2
  have q22:∀ (w:World) (a:Option Addr) (n c n' c':Nat),(binOp .eql 38 (.slice a n c) (.slice none n' c')).run Tryz.prog w=.ok (.bool a.isNone) w:=fun w a n c n' c'=>Lib.run_eql_slice_nil w _ _ a n c n' c' Tryz.underlying38
  go_enter Tryz.func54,Tryz.ntmps54
  go_wp2_with (refine wpList_append_rd _ rfl _ _ 38 rfl w.heap.size 5 i0 _ 1 1 Tryz.underlying38 hi0 hz0 hz1 HZ2.out rfl (by omega) (.slice (some ⟨w.heap.size, 0, none⟩) 0 0) 0 [] rfl (World.ownsRow_made w #[] 0 (Nat.le_refl _) (by decide) rfl) _ _ l.length _ (bV l) rfl (by rw [bV_length, Nat.mul_one]) HR.out (bV_one _) (by unfold maxLen; omega) (by omega) (by simp) ?_
               intro v7 w1 hown1 hg1 _
               have HO1:=Lib.hid hown1;have HG1:=Lib.hid hg1;clear hown1 hg1)
  go_ret
  refine ⟨v7,rfl,?_,Below.of_grown (box1 w _) HG1.out (by simp) (by intro g h;simp [Value.ownBlock] at h;omega)⟩
  have h:=HO1.out
  rwa [Nat.zero_add,List.nil_append] at h
theorem get6_is (a:Option Addr) (c:Nat) (b:List UInt8) (p k:Nat) (w:World) (hr:Rd w w.heap.size a (bV b)) (hl:b.length≤1000000000000) (hk:cnt (k:Int)=k) (hk8:k≤8) (hp:p+k≤b.length) (G:Nat) (hG:gN b p k=G) :
    Calls Tryz.prog 129 #[.slice a b.length c,.int .i64 (p:Int),.int .i64 (k:Int)] w fun e w'=>e=.returned (.tuple #[.int .u64 (G:Int),.bool true])∧w=w':=by
  have h:=get_any a c b (p:Int) (k:Int) w hr hl (by omega) (by omega) (by omega) (by omega)
  rw [getR_yes (by rw [hk];omega),hk,Int.toNat_natCast,hG] at h
  exact h
set_option maxHeartbeats 2000000 in
theorem firstBody_any (a : Option Addr) (n c : Nat) (l : List UInt8) (w : World) (hn : n = l.length) (hlc : l.length ≤ c) (hcm : c ≤ maxLen) (hl : l.length ≤ 1000000000000) (hr : Rd w w.heap.size a (bV l)) :
    Calls Tryz.prog 170 #[.slice a n c] w fun e w'=>Below w.heap.size w w' ∧
      ((∃ ad b c',firstF l=.ok b∧e=.returned (.tuple #[.slice (some ad) b.length c',.int .i64 0])∧Rd w' w'.heap.size (some ad) (bV b))∨∃ k,firstF l=.error k∧e=.returned (.tuple #[.slice none 0 0,.int .i64 (k:Int)])):=by
  subst hn
  have HR:=Lib.hid hr;clear hr
  have HC:=Lib.hid hcm;unfold maxLen at hcm
  by_cases h6:l.length < 6
  · have HE:=Lib.hid (firstF_short h6)
    go_enter Tryz.func170,Tryz.ntmps170
    go_wp2_with fail
    go_ret2
    exact ⟨Below.refl _ _,.inr ⟨2,HE.out,rfl⟩⟩
  obtain ⟨b,off,rfl,_,_⟩:=HR.out (by rw [bV_length];omega)
  obtain ⟨N,hN⟩:∃ N,gN l 0 2=N:=⟨_,rfl⟩
  obtain ⟨S,hS⟩:∃ S,gN l 2 4=S:=⟨_,rfl⟩
  have hNl:N < 65536:=by have:=gN_lt l 0 2;omega
  have hSl:S < 4294967296:=by have:=gN_lt l 2 4;omega
  have hw:IntKind.i64.wrap (N:Int)=(N:Int):=i64_small (by omega)
  have HN:=Lib.hid hN;have HS:=Lib.hid hS;clear hN hS
  have hrest:∃ ad,(if c=6 then some (⟨b,off,none⟩:Addr) else some ⟨b,off+6,none⟩)=some ad∧Rd w w.heap.size (some ad) (bV (l.drop 6)):=by
    by_cases h:c=6
    · refine ⟨⟨b,off,none⟩,if_pos h,?_⟩
      rw [List.drop_of_length_le (by omega)];exact Rd.nil _ _ _
    · refine ⟨⟨b,off+6,none⟩,if_neg h,?_⟩
      rw [bV_drop];exact HR.out.drop 6
  obtain ⟨ad,hra,hrr⟩:=hrest
  have HRR:=Lib.hid hrr;clear hrr
  go_enter Tryz.func170,Tryz.ntmps170
  go_wp2_with fail
  refine (get6_is (some ⟨b,off,none⟩) c l 0 2 w HR.out hl rfl (by omega) (by omega) N HN.out).mono ?_;rintro e w1 ⟨rfl,rfl⟩
  go_wp2_with fail
  refine (get6_is (some ⟨b,off,none⟩) c l 2 4 w HR.out hl rfl (by omega) (by omega) S HS.out).mono ?_;rintro e w1 ⟨rfl,rfl⟩
  go_wp2_with fail
  go_region

  clear hra
  have HR:=Lib.hid ((HR.out.below (Below_drew (Below.refl w.heap.size w))))
  have HRR:=Lib.hid ((HRR.out.below (Below_drew (Below.refl w.heap.size w))))
  have HW:Hid (Below w.heap.size w w.drew):=Below_drew (Below.refl _ _)
  have HWS:Hid (w.drew.heap.size=w.heap.size):=rfl
  generalize w.drew=w1 at HR HRR HW HWS ⊢
  rw [← HWS.out] at HR HRR
  cases hm:mayF N with
  | false =>
    have HM:=Lib.hid hm
    have HE:=Lib.hid (firstF_form (s:=l) (by omega) (by rw [HN.out];exact hm))
    clear hm
    go_wp2_with fail
    refine (lengthMay_is N false HM.out _).mono ?_;rintro e w2 ⟨rfl,rfl⟩
    go_wp2_with fail
    go_ret2
    exact ⟨HW.out,.inr ⟨3,HE.out,rfl⟩⟩
  | true =>
    have HM:=Lib.hid hm
    clear hm
    by_cases hs:l.length < 6+N
    · have HE:=Lib.hid (firstF_less (s:=l) (by omega) (by rw [HN.out];exact HM.out) (by rw [HN.out];exact hs))
      go_wp2_with fail
      refine (lengthMay_is N true HM.out _).mono ?_;rintro e w2 ⟨rfl,rfl⟩
      go_wp2_with fail
      go_ret2
      exact ⟨HW.out,.inr ⟨2,HE.out,rfl⟩⟩
    · obtain ⟨B,hB⟩:∃ B,(l.drop 6).take N=B:=⟨_,rfl⟩
      have hBl:B.length=N:=by rw [← hB,List.length_take,List.length_drop];omega
      obtain ⟨S2,hS2⟩:∃ S2,sumF (l.take 2) B=S2:=⟨_,rfl⟩
      have hS2l:S2 < 4294967296:=by rw [← hS2];exact sumF_lt _ _
      have HRB:Hid (Rd w1 w1.heap.size (some ad) (bV B)):=by
        have h:=HRR.out.take N
        rw [← bV_take,hB] at h;exact h
      have HR2:Hid (Rd w1 w1.heap.size (some ⟨b,off,none⟩) (bV (l.take 2))):=by rw [bV_take];exact HR.out.take 2
      have HT2:Hid (2=(l.take 2).length):=by show _=_;rw [List.length_take];omega
      have HT2L:Hid ((l.take 2).length≤1000000000000):=by show _≤_;rw [List.length_take];omega
      have HBLL:Hid (B.length≤1000000000000):=by show _≤_;omega
      have j1:(2:Int)≤(c:Int):=by omega
      have j2:(N:Int)≤((c - 6:Nat):Int):=by omega
      have j3:N≤c - 6:=by omega
      have j4:(0:Int)≤(N:Int):=by omega
      have HB:=Lib.hid hB;have HBL:=Lib.hid hBl;have HS2:=Lib.hid hS2
      clear hB hBl hS2
      by_cases hq:S2=S
      · have HE:Hid (firstF l=.ok B):=by
          show _=_
          rw [firstF_ok (s:=l) (by rw [HN.out];exact HM.out) (by rw [HN.out];omega) (by rw [HN.out,HB.out,HS2.out,HS.out];exact hq),HN.out,HB.out]
        subst hq
        go_wp2_with fail
        refine (lengthMay_is N true HM.out _).mono ?_;rintro e w2 ⟨rfl,rfl⟩
        go_wp2_with fail
        refine wp_region_quiet_below (by kernel_rfl) (by kernel_rfl) ?_
        iterate 9 (first | go_big_quiet_step (first
          | (go_at_call 113;exact Calls.regrown_of (sumOf_is (some ⟨b,off,none⟩) (some ad) 2 N c (c - 6) (l.take 2) B _ HT2.out HBL.out.symm S2 HS2.out ((HR2.out.below (below_regrown w1 _ _)).more (below_regrown w1 _ _).size) ((HRB.out.below (below_regrown w1 _ _)).more (below_regrown w1 _ _).size) HT2L.out HBLL.out))) | fail)
        refine wpQuiet_nil ?_
        intro w2 hw'
        obtain ⟨⟨d,os⟩,hw''⟩:=hw'
        have hb2:=below_regrown w1 d os
        rw [← hw''] at hb2
        clear hw''
        have HO:Hid (Below w.heap.size w w2):=bel2 HW.out hb2
        have HRB2:=Lib.hid ((HRB.out.below hb2).more hb2.size)
        clear hb2
        go_wp2_with fail
        go_ret2
        exact ⟨HO.out,.inl ⟨ad,B,c - 6,HE.out,by rw [HBL.out];rfl,HRB2.out⟩⟩
      · have HE:Hid (firstF l=.error 8) :=
          firstF_sum (s:=l) (by rw [HN.out];exact HM.out) (by rw [HN.out];omega) (by rw [HN.out,HB.out,HS2.out,HS.out];exact hq)
        have hne:((S2:Int) != (S:Int))=true:=by simp;omega
        go_wp2_with fail
        refine (lengthMay_is N true HM.out _).mono ?_;rintro e w2 ⟨rfl,rfl⟩
        go_wp2_with fail
        refine wp_region_quiet_below (by kernel_rfl) (by kernel_rfl) ?_
        iterate 9 (first | go_big_quiet_step (first
          | (go_at_call 113;exact Calls.regrown_of (sumOf_is (some ⟨b,off,none⟩) (some ad) 2 N c (c - 6) (l.take 2) B _ HT2.out HBL.out.symm S2 HS2.out ((HR2.out.below (below_regrown w1 _ _)).more (below_regrown w1 _ _).size) ((HRB.out.below (below_regrown w1 _ _)).more (below_regrown w1 _ _).size) HT2L.out HBLL.out))) | fail)
        refine wpQuiet_nil ?_
        intro w2 hw'
        obtain ⟨⟨d,os⟩,hw''⟩:=hw'
        have hb2:=below_regrown w1 d os
        rw [← hw''] at hb2
        clear hw''
        have HO:Hid (Below w.heap.size w w2):=bel2 HW.out hb2
        clear hb2
        go_wp2_with fail
        go_ret2
        exact ⟨HO.out,.inr ⟨8,HE.out,rfl⟩⟩
end Go.Proofs.YtccbpngehedbaaaGreat

namespace Go.Proofs.YtccbpngehedbaaaGreat
open Go Go.RowKit

set_option maxRecDepth 20000
/-- What Get answers. -/
def GetOut (w:World) (l:List UInt8) (p:Int) (e:Ending) (w':World):Prop:=Below w.heap.size w w' ∧
  ((∃ b v,gotF l p=.ok b∧e=.returned (.tuple #[v,.int .i64 (p+6+(b.length:Int)),.int .i64 0])∧w'.ownsRow w.heap.size 5 1 v b.length (bV b))∨∃ k,gotF l p=.error k∧e=.returned (.tuple #[.slice none 0 0,.int .i64 0,.int .i64 (k:Int)]))
set_option maxHeartbeats 1000000 in
theorem gotF_any (a:Option Addr) (n c:Nat) (l:List UInt8) (p:Int) (w:World) (hn:n=l.length) (hlc:l.length≤c) (hcm:c≤maxLen) (hl:l.length≤1000000000000) (hr:Rd w w.heap.size a (bV l)) :
    Calls Tryz.prog 153 #[.slice a n c,.int .i64 p] w (GetOut w l p):=by
  subst hn
  have HR:=Lib.hid hr;clear hr
  have HC:=Lib.hid hcm;unfold maxLen at hcm
  by_cases h0:p < 0
  · have HE:=Lib.hid (gotF_none (l:=l) (.inl h0))
    go_enter Tryz.func153,Tryz.ntmps153
    go_wp2_with fail
    go_ret3
    exact ⟨Below.refl _ _,.inr ⟨5,HE.out,rfl⟩⟩
  by_cases h1:(l.length:Int)≤p
  · have HE:=Lib.hid (gotF_none (l:=l) (.inr h1))
    go_enter Tryz.func153,Tryz.ntmps153
    go_wp2_with fail
    go_ret3
    exact ⟨Below.refl _ _,.inr ⟨5,HE.out,rfl⟩⟩
  obtain ⟨q,rfl⟩:∃ q:Nat,p=q:=⟨p.toNat,by omega⟩
  have HE:=Lib.hid (gotF_at (l:=l) (q:=q) (by omega))
  obtain ⟨b,off,rfl,_,_⟩:=HR.out (by rw [bV_length];omega)
  obtain ⟨D,hD⟩:∃ D,l.drop q=D:=⟨_,rfl⟩
  have HRD:Hid (Rd w w.heap.size (some ⟨b,off+q,none⟩) (bV D)):=by
    show Rd _ _ _ _
    rw [← hD,bV_drop];exact HR.out.drop q
  have hDl:D.length=l.length - q:=by rw [← hD,List.length_drop]
  rw [hD] at HE
  have HDL:=Lib.hid hDl
  have hcq:¬ (c=q):=by omega
  have hcq2:¬ (c - q=0):=by omega
  clear hDl hD
  go_enter Tryz.func153,Tryz.ntmps153
  go_wp2_with fail
  refine (firstBody_any (some ⟨b,off+q,none⟩) (l.length - q) (c - q) D w HDL.out.symm (by rw [HDL.out];omega) (by unfold maxLen;omega) (by rw [HDL.out];omega) HRD.out).mono ?_
  rintro e w1 ⟨hb1,(⟨ad,B,c',hf,rfl,hr1⟩ | ⟨k,hf,rfl⟩)⟩
  · have HG:Hid (gotF l (q:Int)=.ok B):=by show _=_;rw [HE.out];exact hf
    have hfit:=gotF_fits HG.out
    have HB1:=Lib.hid hb1;have HR1:=Lib.hid hr1
    clear hb1 hr1 hf
    have hbl:B.length≤2406:=hfit.2.2.2
    have hql:(q:Int)+6+B.length≤l.length:=hfit.2.1
    clear hfit
    go_wp2_with fail
    refine (cloneB_any ad B.length c' B w1 rfl HR1.out (by omega)).mono ?_;rintro e w2 ⟨v,rfl,ho2,hb2⟩
    have HO2:=Lib.hid ho2
    have HB2:=Lib.hid (bel2 HB1.out hb2)
    have HBS:Hid (w.heap.size≤w1.heap.size):=HB1.out.size
    clear ho2 hb2
    go_wp2_with fail
    go_ret3
    exact ⟨HB2.out,.inl ⟨B,v,HG.out,rfl,own_base HO2.out HBS.out⟩⟩
  · have HG:Hid (gotF l (q:Int)=.error k):=by show _=_;rw [HE.out];exact hf
    have HB1:=Lib.hid hb1
    have hk:((k:Int) != 0)=true:=by have:=(gotF_err HG.out).1;simp;omega
    clear hb1 hf
    go_wp2_with fail
    go_ret3
    exact ⟨HB1.out,.inr ⟨k,HG.out,rfl⟩⟩
end Go.Proofs.YtccbpngehedbaaaGreat

namespace Go.Proofs.YtccbpngehedbaaaGreat
open Go Go.RowKit

set_option maxRecDepth 20000
/-! A range over a function whose iterator tells the body something of the world in which it calls it (fresh memory that it hands over, say): over any program. The body goes on at its end alone. -/
variable {F:Fence} {n:Nat} {P:Program}
end Go.Proofs.YtccbpngehedbaaaGreat

namespace Go.Proofs.YtccbpngehedbaaaGreat
open Go Go.RowKit Go.Shelf
set_option maxRecDepth 20000
attribute [local go_sem] Oper.semAt_some

/-- A body that is handed over: the slice, its bytes, the place behind its frame. -/
structure Bod where
  v:Value
  b:List UInt8
  q:Int
def BodAt (B0:Nat) (x:Bod) (W:World):Prop:=W.ownsRow B0 5 1 x.v x.b.length (bV x.b)
theorem info_bytes:(Tryz.prog.info? 38).map (fun i=>(i.zero,i.size,i.bytes))=some (some (.slice none 0 0),1,24):=by kernel_rfl
/-- Rows of unlike kinds lie in unlike blocks. -/
theorem rows_apart {W:World} {b1 b2:Nat} {e1 e2:TypeId} {s1 s2 k1 k2:Nat} {v1 v2:Value} {x1 x2:List Value} (h1:W.ownsRow b1 e1 s1 v1 k1 x1) (h2:W.ownsRow b2 e2 s2 v2 k2 x2) (hne:e1 ≠ e2):v1.ownBlock=none∨v1.ownBlock ≠ v2.ownBlock:=by
  rcases h1.2 with ⟨rfl,_⟩ | ⟨g,cap,cur,rfl,_,hgb,_⟩
  · exact .inl rfl
  · refine .inr fun e'=>?_
    rcases h2.2 with ⟨rfl,_⟩ | ⟨g2,cap2,cur2,rfl,_,hgb2,_⟩
    · cases e'
    · obtain rfl:g=g2:=by simpa [Value.ownBlock] using e'
      rw [hgb] at hgb2
      simp at hgb2
      exact hne hgb2.2
end Go.Proofs.YtccbpngehedbaaaGreat

