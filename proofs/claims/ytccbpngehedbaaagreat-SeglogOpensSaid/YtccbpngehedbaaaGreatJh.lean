import Derived.Test.YtccbpngehedbaaaGreatJg
import Derived.Test.YtccbpngehedbaaaGreatJf
import Derived.Test.YtccbpngehedbaaaGreatJa
import Derived.Deep.DeepMust
import Derived.Lib.SlBytesConst
namespace Go.Proofs.YtccbpngehedbaaaGreat
open Go Go.RowKit

set_option maxRecDepth 20000
theorem refPut6_is (n:Nat) (s:Int) (k:Nat) (P:List UInt8) (w:World) (hk:cnt s=k) (hP:P=putL n k) (hn:n < 18446744073709551616) :
    Calls Tryz.prog 85 #[.int .u64 (n:Int),.int .i64 s] w fun e w'=>e=.returned (.string (bs P))∧Below w.heap.size w w':=by
  subst hk hP;exact refPut_any n s w hn
theorem refSum_is (t:ByteArray) (l:List UInt8) (S:Nat) (w:World) (ht:t=bs l) (hS:moreL 0 l=S) (hl:l.length≤1000000000000) :
    Calls Tryz.prog 90 #[.string t] w fun e w'=>e=.returned (.int .u32 (S:Int))∧Below w.heap.size w w':=by
  subst ht hS
  have h:=refSum_any (bs l) w (by rw [bs_size];exact hl)
  rw [bs_toList] at h;exact h
theorem refGet6_is (t:ByteArray) (l:List UInt8) (p k:Nat) (G:Nat) (w:World) (ht:t=bs l) (hl:l.length≤1000000000000) (hk:cnt (k:Int)=k) (hk8:k≤8) (hp:p+k≤l.length) (hG:gN l p k=G) :
    Calls Tryz.prog 91 #[.string t,.int .i64 (p:Int),.int .i64 (k:Int)] w fun e w'=>e=.returned (.tuple #[.int .u64 (G:Int),.bool true])∧Below w.heap.size w w':=by
  subst ht
  have h:=refGet_any (bs l) (p:Int) (k:Int) w (by rw [bs_size];exact hl) (by omega) (by omega) (by omega) (by omega)
  rw [bs_toList,getR_yes (by rw [hk];omega),hk,Int.toNat_natCast,hG] at h
  exact h
/-- A frame's text is answered, or the error's number. -/
def RefFr (w:World) (L:List UInt8) (n:Nat) (e:Ending) (w':World):Prop:=e=.returned (.tuple #[.string (bs L),.int .i64 (n:Int)])∧Below w.heap.size w w'
set_option maxHeartbeats 1000000 in
theorem refFr_yes (t:ByteArray) (l:List UInt8) (w:World) (ht:t=bs l) (hm:mayF l.length=true) :
    Calls Tryz.prog 151 #[.string t] w (RefFr w (frL l) 0):=by
  have hb:=mayF_iff.1 hm
  have hs:t.size=l.length:=by rw [ht,bs_size]
  obtain ⟨N,hN⟩:∃ N,N=l.length:=⟨_,rfl⟩
  have HN:=Lib.hid hN
  rw [← hN] at hs hb
  have hw:IntKind.u64.wrap (N:Int)=(N:Int):=IntWalk.u64_in _ ⟨by omega,by omega⟩
  have h3:((N:Int) == 0)=false:=beq_eq_false_iff_ne.2 (by omega)
  have h4:¬ (2406:Int) < (N:Int):=by omega
  obtain ⟨L2,h2⟩:∃ L,L=putL l.length 2:=⟨_,rfl⟩
  have h2l:L2.length=2:=by rw [h2,putL_length]
  obtain ⟨S,hS⟩:∃ S,sumF L2 l=S:=⟨_,rfl⟩
  have hSl:S < 4294967296:=by rw [← hS];exact sumF_lt _ _
  have hwS:IntKind.u64.wrap (S:Int)=(S:Int):=IntWalk.u64_in _ ⟨by omega,by omega⟩
  obtain ⟨L4,h6⟩:∃ L,L=putL S 4:=⟨_,rfl⟩
  have h6l:L4.length=4:=by rw [h6,putL_length]
  have HF:Hid (bs (frL l)=bs L2 ++ bs L4 ++ t):=by show _=_;rw [ht,bs_append,bs_append,h6,← hS,h2,frL,List.append_assoc]
  have HT:Hid (bs L2 ++ t=bs (L2 ++ l)):=by show _=_;rw [ht,bs_append]
  have z1:(bs L2).size=2:=by rw [bs_size,h2l]
  have z2:(bs L4).size=4:=by rw [bs_size,h6l]
  have HLL:Hid ((L2 ++ l).length≤1000000000000):=by show _≤_;rw [List.length_append,h2l];omega
  have H2:=Lib.hid h2;have HS:=Lib.hid hS;have H6:=Lib.hid h6
  clear h2 hS h6 ht hN hm
  go_enter Tryz.func151,Tryz.ntmps151
  go_wp2_with fail
  refine (refPut6_is N 2 2 L2 _ rfl (by rw [HN.out];exact H2.out) (by omega)).mono ?_;rintro e w1 ⟨rfl,hb1⟩
  have HB1:=Lib.hid hb1
  clear hb1
  go_wp2_with fail
  refine (refSum_is _ (L2 ++ l) S _ HT.out HS.out HLL.out).mono ?_;rintro e w2 ⟨rfl,hb2⟩
  have HB2:=Lib.hid (bel2 HB1.out hb2)
  clear hb2
  go_wp2_with fail
  refine (refPut6_is S 4 4 L4 _ rfl H6.out (by omega)).mono ?_;rintro e w3 ⟨rfl,hb3⟩
  have HB3:=Lib.hid (bel2 HB2.out hb3)
  clear hb3
  go_wp2_with fail
  go_ret2
  rw [← HF.out]
  exact ⟨rfl,HB3.out⟩
/-- What the ref's Get answers. -/
def RefGot (w:World) (l:List UInt8) (p:Int) (e:Ending) (w':World):Prop:=Below w.heap.size w w' ∧
  ((∃ b,gotF l p=.ok b∧e=.returned (.tuple #[.string (bs b),.int .i64 (p+6+(b.length:Int)),.int .i64 0]))∨∃ k,gotF l p=.error k∧e=.returned (.tuple #[.string ⟨#[]⟩,.int .i64 0,.int .i64 (k:Int)]))
theorem extract_tail (t:ByteArray) (l:List UInt8) (q n:Nat) (ht:t=bs l) (hn:n=l.length):t.extract q n=bs (l.drop q):=by
  rw [bs_extract,ht,bs_toList,List.take_of_length_le (by rw [List.length_drop];omega)]
theorem extract_part (l:List UInt8) (i j:Nat):(bs l).extract i j=bs ((l.drop i).take (j - i)):=by
  rw [bs_extract,bs_toList]
set_option maxHeartbeats 2000000 in
theorem refGot_any (t : ByteArray) (l : List UInt8) (p : Int) (w : World) (ht : t = bs l) (hl : l.length ≤ 1000000000000) :
    Calls Tryz.prog 121 #[.string t,.int .i64 p] w (RefGot w l p):=by
  have hs:t.size=l.length:=by rw [ht,bs_size]
  by_cases h0:p < 0
  · have HE:=Lib.hid (gotF_none (l:=l) (.inl h0))
    clear hs ht
    go_enter Tryz.func121,Tryz.ntmps121
    go_wp2_with fail
    go_ret3
    exact ⟨Below.refl _ _,.inr ⟨5,HE.out,rfl⟩⟩
  by_cases h1:(l.length:Int)≤p
  · have HE:=Lib.hid (gotF_none (l:=l) (.inr h1))
    clear ht
    go_enter Tryz.func121,Tryz.ntmps121
    go_wp2_with fail
    go_ret3
    exact ⟨Below.refl _ _,.inr ⟨5,HE.out,rfl⟩⟩
  obtain ⟨q,rfl⟩:∃ q:Nat,p=q:=⟨p.toNat,by omega⟩
  have HE:=Lib.hid (gotF_at (l:=l) (q:=q) (by omega))
  obtain ⟨D,hD⟩:∃ D,l.drop q=D:=⟨_,rfl⟩
  have hDl:D.length=l.length - q:=by rw [← hD,List.length_drop]
  have hex:t.extract q l.length=bs D:=by rw [extract_tail t l q _ ht rfl,hD]
  have hsz:(bs D).size=D.length:=bs_size D
  rw [hD] at HE
  have hD1:D.length≤1000000000000:=by omega
  have hql:q+D.length=l.length:=by omega
  clear hD ht
  by_cases h6:D.length < 6
  · have HF:Hid (gotF l (q:Int)=.error 2):=by show _=_;rw [HE.out,firstF_short h6]
    go_enter Tryz.func121,Tryz.ntmps121
    go_wp2_with fail
    go_ret3
    exact ⟨Below.refl _ _,.inr ⟨2,HF.out,rfl⟩⟩
  obtain ⟨N,hN⟩:∃ N,gN D 0 2=N:=⟨_,rfl⟩
  have hNl:N < 65536:=by have:=gN_lt D 0 2;omega
  have hw:IntKind.i64.wrap (N:Int)=(N:Int):=IntWalk.i64_in _ ⟨by omega,by omega⟩
  have HN:=Lib.hid hN;clear hN
  have h6':6≤D.length:=by omega
  cases hm:mayF N with
  | false =>
    have HF:Hid (gotF l (q:Int)=.error 3):=by show _=_;rw [HE.out,firstF_form h6' (by rw [HN.out];exact hm)]
    have hm':=mayF_no hm
    clear hm
    by_cases hz:N=0
    · subst hz
      go_enter Tryz.func121,Tryz.ntmps121
      go_wp2_with fail
      refine (refGet6_is _ D 0 2 0 _ rfl hD1 rfl (by omega) (by omega) HN.out).mono ?_;rintro e w1 ⟨rfl,hb1⟩
      have HB1:=Lib.hid hb1;clear hb1
      go_wp2_with fail
      go_ret3
      exact ⟨HB1.out,.inr ⟨3,HF.out,rfl⟩⟩
    · have z1:((N:Int) == 0)=false:=beq_eq_false_iff_ne.2 (by omega)
      have z2:(2406:Int) < (N:Int):=by omega
      clear hm'
      go_enter Tryz.func121,Tryz.ntmps121
      go_wp2_with fail
      refine (refGet6_is _ D 0 2 N _ rfl hD1 rfl (by omega) (by omega) HN.out).mono ?_;rintro e w1 ⟨rfl,hb1⟩
      have HB1:=Lib.hid hb1;clear hb1
      go_wp2_with fail
      go_ret3
      exact ⟨HB1.out,.inr ⟨3,HF.out,rfl⟩⟩
  | true =>
    have hb:=mayF_iff.1 hm
    have HM:=Lib.hid hm
    clear hm
    have z1:((N:Int) == 0)=false:=beq_eq_false_iff_ne.2 (by omega)
    have z2:¬ (2406:Int) < (N:Int):=by omega
    by_cases hs6:D.length < 6+N
    · have HF:Hid (gotF l (q:Int)=.error 2):=by show _=_;rw [HE.out,firstF_less h6' (by rw [HN.out];exact HM.out) (by rw [HN.out];exact hs6)]
      have z3:(D.length:Int) < 6+(N:Int):=by omega
      go_enter Tryz.func121,Tryz.ntmps121
      go_wp2_with fail
      refine (refGet6_is _ D 0 2 N _ rfl hD1 rfl (by omega) (by omega) HN.out).mono ?_;rintro e w1 ⟨rfl,hb1⟩
      have HB1:=Lib.hid hb1;clear hb1
      go_wp2_with fail
      go_ret3
      exact ⟨HB1.out,.inr ⟨2,HF.out,rfl⟩⟩
    · have z3 : ¬ (D.length : Int) < 6 + (N : Int) := by omega
      obtain ⟨B,hB⟩:∃ B,(D.drop 6).take N=B:=⟨_,rfl⟩
      have hBl:B.length=N:=by rw [← hB,List.length_take,List.length_drop];omega
      have e1:(bs D).extract 6 (6+N)=bs B:=by rw [extract_part,Nat.add_sub_cancel_left,hB]
      have e2:(bs D).extract 0 (6+N)=bs (D.take (6+N)):=by rw [extract_part,List.drop_zero,Nat.sub_zero]
      have HRP:Hid (∀ W,Calls Tryz.prog 151 #[.string (bs B)] W (RefFr W (frL B) 0)):=fun W=>refFr_yes _ B W rfl (by rw [hBl];exact HM.out)
      by_cases hq:D.take (6+N)=frL B
      · have HF:Hid (gotF l (q:Int)=.ok B):=by
          show _=_;rw [HE.out,firstF_of (b:=B) (by rw [hBl];exact hq) (by rw [hBl];exact HM.out)]
        obtain ⟨t1,t2⟩:=str_eq (x:=bs (frL B)) (y:=bs (D.take (6+N))) (b:=true) (by rw [hq];simp)
        have HBL:=Lib.hid hBl
        clear hB hBl hq
        go_enter Tryz.func121,Tryz.ntmps121
        go_wp2_with fail
        refine (refGet6_is _ D 0 2 N _ rfl hD1 rfl (by omega) (by omega) HN.out).mono ?_;rintro e w1 ⟨rfl,hb1⟩
        have HB1:=Lib.hid hb1;clear hb1
        go_wp2_with fail
        refine (HRP.out w1).mono ?_;rintro e w2 ⟨rfl,hb2⟩
        have HB2:=Lib.hid (bel2 HB1.out hb2);clear hb2
        go_wp2_with fail
        go_ret3
        exact ⟨HB2.out,.inl ⟨B,HF.out,by rw [← e1,HBL.out];rfl⟩⟩
      · have HF:Hid (gotF l (q:Int)=.error 8):=by
          show _=_;rw [HE.out]
          cases hf:firstF D with
          | ok C =>
            exfalso
            obtain ⟨g1,g2,g3⟩:=firstF_back hf
            have g4:=frL_len g1 (mayF_iff.1 g2).2
            have g5:=frL_body g1
            rw [HN.out] at g4
            rw [← g4,hB] at g5
            subst g5
            rw [← g4] at g1
            exact hq g1
          | error k =>
            have:k=8:=by
              unfold firstF at hf
              rw [if_neg (by omega),HN.out,if_neg (by simp [HM.out]),if_neg hs6] at hf
              split at hf
              · cases hf
              · injection hf with hf;exact hf.symm
            rw [this]
        obtain ⟨t1,t2⟩:=str_eq (x:=bs (frL B)) (y:=bs (D.take (6+N))) (b:=false) (by
          have:¬ bs (frL B)=bs (D.take (6+N)):=fun e=>hq (bs_inj e).symm
          simp [this])
        clear hB hBl hq
        go_enter Tryz.func121,Tryz.ntmps121
        go_wp2_with fail
        refine (refGet6_is _ D 0 2 N _ rfl hD1 rfl (by omega) (by omega) HN.out).mono ?_;rintro e w1 ⟨rfl,hb1⟩
        have HB1:=Lib.hid hb1;clear hb1
        go_wp2_with fail
        refine (HRP.out w1).mono ?_;rintro e w2 ⟨rfl,hb2⟩
        have HB2:=Lib.hid (bel2 HB1.out hb2);clear hb2
        go_wp2_with fail
        go_ret3
        exact ⟨HB2.out,.inr ⟨8,HF.out,rfl⟩⟩
end Go.Proofs.YtccbpngehedbaaaGreat

namespace Go.Proofs.YtccbpngehedbaaaGreat
open Go Go.RowKit

set_option maxRecDepth 20000
theorem info_str:(Tryz.prog.info? 9).map (fun i=>(i.zero,i.size,i.bytes))=some (some (.string ⟨#[]⟩),1,16):=by kernel_rfl
def sV (L:List (List UInt8)):List Value:=L.map fun b=>.string (bs b)
theorem sV_length (L:List (List UInt8)):(sV L).length=L.length:=by simp [sV]
def RefAll (w:World) (l:List UInt8) (p m:Int) (e:Ending) (w':World):Prop :=
  ∃ v,e=.returned (.tuple #[v,.int .i64 (endF p (allF l m.toNat p))])∧w'.ownsRow w.heap.size 9 1 v (allF l m.toNat p).length (sV (allF l m.toNat p))∧Below w.heap.size w w'
theorem refGot_is (t:ByteArray) (l:List UInt8) (p:Int) (w:World) (ht:t=bs l) (hl:l.length≤1000000000000) :
    Calls Tryz.prog 121 #[.string t,.int .i64 p] w (RefGot w l p):=refGot_any t l p w ht hl
set_option maxHeartbeats 2000000 in
theorem refAll_any (t : ByteArray) (l : List UInt8) (p m : Int) (w : World) (ht : t = bs l) (hl : l.length ≤ 1000000000000) (hm : m ≤ 9223372036854775807) :
    Calls Tryz.prog 92 #[.string t,.int .i64 p,.int .i64 m] w (RefAll w l p m):=by
  have HT:=Lib.hid ht;clear ht
  obtain ⟨i0,hi0,hz0,hz1,hz2⟩:=info_parts info_str
  have HZ2:=Lib.hid hz2;clear hz2
  have HO:Hid ((w.alloc (.cells #[] 9)).ownsRow w.heap.size 9 1 (.slice (some ⟨w.heap.size,0,none⟩) 0 0) 0 []):=World.ownsRow_made w #[] 0 (Nat.le_refl _) (by decide) rfl
  go_enter Tryz.func92,Tryz.ntmps92
  go_wp2_with fail
  go_loopw [1,8] (fun pv v wr=>∃ L:List (List UInt8),Found l m.toNat p L∧pv=.int .i64 (endF p L)∧wr.ownsRow w.heap.size 9 1 v L.length (sV L)∧Below w.heap.size w wr) (fun pv v _=>m.toNat - (match v with | .slice _ n _=>n | _=>0))
  case atStart=>exact ⟨[],Found.start _ _ _,rfl,HO.out,box1 _ _⟩
  case round =>
    obtain ⟨L,hf,rfl,hown,hb⟩:=hrel
    have HF:=Lib.hid hf;have HOW:=Lib.hid hown;have HB:=Lib.hid hb
    have hfew:=hf.few
    have hLm:=hf.1
    have hBs:=hb.size
    obtain ⟨va,vc,rfl,_,_,_⟩:=own_slice hown
    clear hf hown hb
    by_cases hlt:(L.length:Int) < m
    · go_wp2_with fail
      refine (refGot_is t l (endF p L) wr HT.out hl).mono ?_;rintro e w1 ⟨hb1,(⟨B,hg,rfl⟩ | ⟨k,hg,rfl⟩)⟩
      · have HN:=Lib.hid (HF.out.next (by omega) hg)
        have HE:Hid (endF p (L ++ [B])=endF p L+6+(B.length:Int)):=by show _=_;rw [endF_snoc];omega
        have HO1:=Lib.hid ((own_below HOW.out hb1).alloc (.cells #[.string (bs B)] 9))
        have HB1:=Lib.hid (bel2 HB.out hb1)
        have hBs1:w.heap.size≤w1.heap.size:=HB1.out.size
        clear hg hb1
        go_wp2_with (at_builtin; go_must (refine wpList_append_rd _ rfl (.tmp 28) (.tmp 30) 62 rfl w.heap.size 9 i0 _ 1 16 Tryz.underlying62 hi0 hz0 hz1 HZ2.out rfl (by omega) _ L.length (sV L) rfl HO1.out _ _ 1 _ [.string (bs B)] rfl (by simp) (lit_rd w1 #[.string (bs B)] _) (by simp [Value.oneCell']) (by unfold maxLen; omega) (by omega) (by simp; omega) ?_)
                     intro v7 w3 hown3 hg3 _
                     have HO3:=Lib.hid hown3;have HB3:=Lib.hid (Below.of_grown (HB1.out.alloc hBs1 _) hg3 (by simp;omega) (by intro g hg;exact (own_shape HO1.out hg).1));clear hown3 hg3)
        go_roundw
        case rel=>exact ⟨L ++ [B],HN.out,by rw [HE.out],by rw [List.length_append];simpa [sV] using HO3.out,HB3.out⟩
        case measure =>
          obtain ⟨va',vc',rfl,_,_,_⟩:=own_slice HO3.out
          simp
          omega
      · have HS:=Lib.hid (HF.out.stop hg)
        have hk:((k:Int) != 0)=true:=by have:=(gotF_err hg).1;simp;omega
        have HO1:=Lib.hid (own_below HOW.out hb1)
        have HB1:=Lib.hid (bel2 HB.out hb1)
        clear hg hb1
        go_wp2_with fail
        go_ret2
        exact ⟨_,by rw [HS.out];rfl,by rw [HS.out];exact HO1.out,HB1.out⟩
    · have HS:=Lib.hid (HF.out.full (by omega))
      go_wp2_with fail
      go_ret2
      exact ⟨_,by rw [HS.out];rfl,by rw [HS.out];exact HOW.out,HB.out⟩
end Go.Proofs.YtccbpngehedbaaaGreat

namespace Go.Proofs.YtccbpngehedbaaaGreat
open Go Go.RowKit

set_option maxRecDepth 20000
end Go.Proofs.YtccbpngehedbaaaGreat

namespace Go.Proofs.YtccbpngehedbaaaGreat
open Go Go.RowKit

set_option maxRecDepth 20000
end Go.Proofs.YtccbpngehedbaaaGreat

namespace Go.Proofs.YtccbpngehedbaaaGreat
open Go Go.RowKit

set_option maxRecDepth 20000
/-! Frames that are laid one behind the other. -/
def catF (L:List (List UInt8)):List UInt8:=L.flatMap frL
end Go.Proofs.YtccbpngehedbaaaGreat

