import Derived.Test.YtccbpngehedbaaaGreatJc
import Derived.Test.YtccbpngehedbaaaGreatJb
import Derived.Test.YtccbpngehedbaaaGreatJa
import Derived.Deep.RegionHeldLaw
namespace Go.Proofs.YtccbpngehedbaaaGreat
open Go Go.RowKit

/-! Batches as bytes: plain functions, and what they make of one another. -/
def spanL (s:Sp):List UInt8 :=
  putL s.trace.toNat 8 ++ (putL s.id.toNat 8 ++ (putL s.parent.toNat 8 ++ (putL s.kind.toNat 1 ++ (putL s.start.toNat 8 ++ (putL s.dur.toNat 8 ++ (fldL s.host.data.toList ++ fldL s.name.data.toList))))))
def letL:List UInt8:=[83,80,65,78]
def batchL (L:List Sp):List UInt8:=letL ++ putL L.length 2 ++ L.flatMap spanL
def mayL (L:List Sp):Bool:=decide (1≤L.length) && decide (L.length≤32) && L.all mayB
/-- The span at a place: or the error's number. -/
def spanAt (b:List UInt8) (p:Nat):Except Nat Sp :=
  match getT b ((p+41:Nat):Int),getT b ((p+58:Nat):Int) with
  | none,_=>.error 3
  | _,none=>.error 3
  | some h,some n =>
    let s:Sp:=⟨gN b p 8,gN b (p+8) 8,gN b (p+16) 8,gN b (p+24) 1,bs h,bs n,IntKind.i64.wrap (gN b (p+25) 8),IntKind.i64.wrap (gN b (p+33) 8)⟩
    if mayB s=true then .ok s else .error 4
def spansTo (b:List UInt8):Nat→Except Nat (List Sp)
  | 0=>.ok []
  | k+1=>match spansTo b k with
    | .error e=>.error e
    | .ok l=>match spanAt b (6+75 * k) with
      | .error e=>.error e
      | .ok s=>.ok (l ++ [s])
def getW (b:List UInt8):Except Nat (List Sp) :=
  if b.length < 6 then .error 2
  else if b.take 4 ≠ letL then .error 3
  else if gN b 4 2=0∨32 < gN b 4 2 then .error 3
  else if b.length < 6+75 * gN b 4 2 then .error 2
  else if 6+75 * gN b 4 2 < b.length then .error 3
  else spansTo b (gN b 4 2)
def errW:Except Nat (List Sp)→Nat | .ok _=>0 | .error e=>e
def lstW:Except Nat (List Sp)→List Sp | .ok l=>l | .error _=>[]

theorem byt_of_gN (l : List UInt8) (at_ : Nat) : ∀ k, ∀ i < k, byt (gN l at_ k) i = l.getD (at_ + i) 0
  | 0,i,h=>by omega
  | k + 1, i, h => by
    apply UInt8.toNat_inj.1
    rw [byt_nat,gN]
    by_cases hi:i < k
    · have ih:=byt_of_gN l at_ k i hi
      rw [← ih,byt_nat]
      have e:(l.getD (at_+k) 0).toNat * 2 ^ (8 * k)=2 ^ (8 * i) * (256 * ((l.getD (at_+k) 0).toNat * 2 ^ (8 * (k - i - 1)))):=by
        rw [show 8 * k=8 * i+(8+8 * (k - i - 1)) by omega,Nat.pow_add,Nat.pow_add,show (2:Nat) ^ 8=256 from rfl]
        simp only [← Nat.mul_assoc];rw [Nat.mul_comm (l.getD (at_+k) 0).toNat];simp only [Nat.mul_assoc];rw [Nat.mul_left_comm (l.getD (at_+k) 0).toNat]
      rw [e,Nat.add_mul_div_left _ _ (Nat.pow_pos (by omega))]
      omega
    · obtain rfl:i=k:=by omega
      have hlt:=gN_lt l at_ i
      rw [Nat.add_mul_div_right _ _ (Nat.pow_pos (by omega)),Nat.div_eq_of_lt hlt,Nat.zero_add]
      exact Nat.mod_eq_of_lt (UInt8.toNat_lt _)
/-- The bytes of the number that is read are those that were read. -/
theorem putL_gN (l:List UInt8) (p k:Nat) (h:p+k≤l.length):putL (gN l p k) k=(l.drop p).take k:=by
  apply List.ext_getElem
  · rw [putL_length,List.length_take,List.length_drop];omega
  · intro i h1 h2
    rw [putL_length] at h1
    simp only [putL,List.getElem_map,List.getElem_range,List.getElem_take,List.getElem_drop]
    rw [byt_of_gN l p k i h1,getD_lt (by omega)]
theorem gN_of (l:List UInt8) (p n:Nat):∀ k,(∀ i < k,l.getD (p+i) 0=byt n i)→gN l p k=n % 2 ^ (8 * k)
  | 0,_=>by rw [gN,Nat.mul_zero,Nat.pow_zero,Nat.mod_one]
  | k+1,h=>by
    rw [gN,gN_of l p n k (fun i hi=>h i (by omega)),h k (by omega),byt_nat,show 8 * (k+1)=8 * k+8 by omega,Nat.pow_add,Nat.mod_mul,Nat.mul_comm (2 ^ (8 * k)),show (2:Nat) ^ 8=256 from rfl]
theorem getD_drop_take (l:List UInt8) (p k i:Nat) (h:i < k):((l.drop p).take k).getD i 0=l.getD (p+i) 0:=by
  simp only [List.getD]
  rw [List.getElem?_take_of_lt h,List.getElem?_drop]
theorem gN_slab {l:List UInt8} {p n k:Nat} (h:(l.drop p).take k=putL n k):gN l p k=n % 2 ^ (8 * k) :=
  gN_of l p n k fun i hi=>by
    rw [← getD_drop_take l p k i hi,h]
    simp [List.getD,putL,hi]
theorem slab {l F:List UInt8} {p n off k:Nat} (h:(l.drop p).take n=F) (hk:off+k≤n):(l.drop (p+off)).take k=(F.drop off).take k:=by
  subst h
  rw [List.drop_take,List.take_take,List.drop_drop]
  congr 1;omega
theorem mayB_parts {s:Sp} (h:mayB s=true):s.trace ≠ 0∧s.id ≠ 0∧s.kind≤2∧0≤s.start∧s.start < 1125899906842624∧0≤s.dur∧s.dur≤1125899906842624∧s.host.size≤16∧s.name.size≤16:=by
  simp [mayB,nmB,tmB,nameB] at h
  omega
theorem spanL_length {s:Sp} (h:mayB s=true):(spanL s).length=75:=by
  obtain ⟨_,_,_,_,_,_,_,h1,h2⟩:=mayB_parts h
  simp only [spanL,List.length_append,putL_length]
  rw [fldL_length (by simpa using h1),fldL_length (by simpa using h2)]
theorem dropA (n k m:Nat) (R:List UInt8) (h:k≤m):(putL n k ++ R).drop m=R.drop (m - k):=by
  rw [List.drop_append,List.drop_of_length_le (by rw [putL_length];exact h),List.nil_append,putL_length]
theorem takeA (n k:Nat) (R:List UInt8):(putL n k ++ R).take k=putL n k:=by
  rw [List.take_append,putL_length,Nat.sub_self,List.take_zero,List.append_nil,List.take_of_length_le (by rw [putL_length];exact Nat.le_refl _)]
theorem getT_slab {l h:List UInt8} {p:Nat} (hp:p+17≤l.length) (hh:h.length≤16) (e:(l.drop p).take 17=fldL h):getT l (p:Int)=some h:=by
  unfold getT
  rw [if_pos (by omega),Int.toNat_natCast,e,fld_back hh]
theorem i64_small {n:Nat} (h:n < 9223372036854775808):IntKind.i64.wrap (n:Int)=(n:Int):=IntWalk.i64_in _ ⟨by omega,by omega⟩
/-- A span is read from its bytes as it was. -/
theorem spanAt_of {l:List UInt8} {p:Nat} {s:Sp} (ok:s.Ok) (hm:mayB s=true) (hp:p+75≤l.length) (h:(l.drop p).take 75=spanL s):spanAt l p=.ok s:=by
  obtain ⟨_,_,hk,hs1,hs2,hd1,hd2,h1,h2⟩:=mayB_parts hm
  have hl1:s.host.data.toList.length≤16:=by simpa using h1
  have hl2:s.name.data.toList.length≤16:=by simpa using h2
  have f0:=gN_slab (l:=l) (p:=p+0) (k:=8) (n:=s.trace.toNat) (by rw [slab h (by omega:0+8≤75),List.drop_zero,spanL,takeA])
  have f1:=gN_slab (l:=l) (p:=p+8) (k:=8) (n:=s.id.toNat) (by rw [slab h (by omega:8+8≤75),spanL,dropA _ _ _ _ (by omega),List.drop_zero,takeA])
  have f2:=gN_slab (l:=l) (p:=p+16) (k:=8) (n:=s.parent.toNat) (by rw [slab h (by omega:16+8≤75),spanL,dropA _ _ _ _ (by omega),dropA _ _ _ _ (by omega),List.drop_zero,takeA])
  have f3:=gN_slab (l:=l) (p:=p+24) (k:=1) (n:=s.kind.toNat) (by rw [slab h (by omega:24+1≤75),spanL,dropA _ _ _ _ (by omega),dropA _ _ _ _ (by omega),dropA _ _ _ _ (by omega),List.drop_zero,takeA])
  have f4:=gN_slab (l:=l) (p:=p+25) (k:=8) (n:=s.start.toNat) (by rw [slab h (by omega:25+8≤75),spanL,dropA _ _ _ _ (by omega),dropA _ _ _ _ (by omega),dropA _ _ _ _ (by omega),dropA _ _ _ _ (by omega),List.drop_zero,takeA])
  have f5:=gN_slab (l:=l) (p:=p+33) (k:=8) (n:=s.dur.toNat) (by rw [slab h (by omega:33+8≤75),spanL,dropA _ _ _ _ (by omega),dropA _ _ _ _ (by omega),dropA _ _ _ _ (by omega),dropA _ _ _ _ (by omega),dropA _ _ _ _ (by omega),List.drop_zero,takeA])
  have e6:(l.drop (p+41)).take 17=fldL s.host.data.toList:=by
    rw [slab h (by omega:41+17≤75),spanL,dropA _ _ _ _ (by omega),dropA _ _ _ _ (by omega),dropA _ _ _ _ (by omega),dropA _ _ _ _ (by omega),dropA _ _ _ _ (by omega),dropA _ _ _ _ (by omega),List.drop_zero,
      List.take_append,fldL_length hl1,Nat.sub_self,List.take_zero,List.append_nil,List.take_of_length_le (by rw [fldL_length hl1];exact Nat.le_refl _)]
  have e7:(l.drop (p+58)).take 17=fldL s.name.data.toList:=by
    rw [slab h (by omega:58+17≤75),spanL,dropA _ _ _ _ (by omega),dropA _ _ _ _ (by omega),dropA _ _ _ _ (by omega),dropA _ _ _ _ (by omega),dropA _ _ _ _ (by omega),dropA _ _ _ _ (by omega),
      List.drop_append,fldL_length hl1,List.drop_of_length_le (by rw [fldL_length hl1];omega),List.nil_append,show 58 - 8 - 8 - 8 - 1 - 8 - 8 - 17=0 from rfl,List.drop_zero,List.take_of_length_le (by rw [fldL_length hl2];omega)]
  have t6:=getT_slab (by omega:p+41+17≤l.length) hl1 e6
  have t7:=getT_slab (by omega:p+58+17≤l.length) hl2 e7
  obtain ⟨⟨a1,a2⟩,⟨b1,b2⟩,⟨c1,c2⟩,⟨d1,d2⟩,_,_,_,_⟩:=ok
  have e:(⟨gN l p 8,gN l (p+8) 8,gN l (p+16) 8,gN l (p+24) 1,bs s.host.data.toList,bs s.name.data.toList,IntKind.i64.wrap (gN l (p+25) 8),IntKind.i64.wrap (gN l (p+33) 8)⟩:Sp)=s:=by
    rw [Nat.add_zero] at f0
    rw [f0,f1,f2,f3,f4,f5,bs_of,bs_of,i64_small (by omega),i64_small (by omega)]
    cases s
    simp only [Sp.mk.injEq,true_and]
    simp only at *
    omega
  unfold spanAt
  rw [t6,t7]
  simp only []
  rw [e,if_pos hm]
end Go.Proofs.YtccbpngehedbaaaGreat

namespace Go.Proofs.YtccbpngehedbaaaGreat
open Go Go.RowKit

theorem unF_back {F h:List UInt8} (hF:F.length=17) (e:unF F=some h):fldL h=F∧h.length≤16:=by
  unfold unF at e
  by_cases hc:(F.getD 0 0).toNat≤16∧zerosB (F.drop (1+(F.getD 0 0).toNat))=true
  · rw [if_pos hc] at e
    injection e with e
    subst e
    exact ⟨(fld_same hF hc.1).2 hc.2,by rw [List.length_take];omega⟩
  · rw [if_neg hc] at e;cases e
theorem getT_back {l h:List UInt8} {p:Nat} (hp:p+17≤l.length) (e:getT l (p:Int)=some h):fldL h=(l.drop p).take 17∧h.length≤16:=by
  unfold getT at e
  rw [if_pos (by omega),Int.toNat_natCast] at e
  exact unF_back (by rw [List.length_take,List.length_drop];omega) e
theorem i64_back {g:Nat} (h:g < 18446744073709551616) (h0:0≤IntKind.i64.wrap (g:Int)):IntKind.i64.wrap (g:Int)=(g:Int):=by
  by_cases hg:g < 9223372036854775808
  · exact i64_small hg
  · exfalso
    have e:IntKind.i64.wrap (g:Int)=(g:Int) - 18446744073709551616:=by
      simp [IntKind.wrap,IntKind.bits,IntKind.signed];omega
    omega
theorem gN_lt64 (l:List UInt8) (p:Nat):gN l p 8 < 18446744073709551616:=by have:=gN_lt l p 8;omega
theorem take_cat (l:List UInt8) (p i j:Nat):(l.drop p).take (i+j)=(l.drop p).take i ++ (l.drop (p+i)).take j:=by
  rw [List.take_add,List.drop_drop]
/-- What is read has just those bytes, and may be. -/
theorem spanAt_back {l : List UInt8} {p : Nat} {s : Sp} (hp : p + 75 ≤ l.length) (h : spanAt l p = .ok s) : spanL s = (l.drop p).take 75 ∧ mayB s = true ∧ s.Ok := by
  unfold spanAt at h
  cases h1:getT l ((p+41:Nat):Int) with
  | none=>rw [h1] at h;simp at h
  | some x =>
    cases h2:getT l ((p+58:Nat):Int) with
    | none=>rw [h1,h2] at h;simp at h
    | some y =>
      rw [h1,h2] at h
      simp only [] at h
      split at h
      case isFalse=>cases h
      case isTrue hm =>
        injection h with h
        subst h
        obtain ⟨e6,l6⟩:=getT_back (by omega) h1
        obtain ⟨e7,l7⟩:=getT_back (by omega) h2
        obtain ⟨_,_,hk,hs1,hs2,hd1,hd2,_,_⟩:=mayB_parts hm
        simp only at hs1 hs2 hd1 hd2 hk
        have w1:=i64_back (gN_lt64 l (p+25)) hs1
        have w2:=i64_back (gN_lt64 l (p+33)) hd1
        have b0:=gN_lt64 l p;have b1:=gN_lt64 l (p+8);have b2:=gN_lt64 l (p+16)
        refine ⟨?_,hm,⟨⟨?_,?_⟩,⟨?_,?_⟩,⟨?_,?_⟩,⟨?_,?_⟩,?_,?_,⟨?_,?_⟩,⟨?_,?_⟩⟩⟩
        · simp only [spanL,w1,w2,Int.toNat_natCast,bs_toList]
          rw [putL_gN l p 8 (by omega),putL_gN l (p+8) 8 (by omega),putL_gN l (p+16) 8 (by omega),putL_gN l (p+24) 1 (by omega),putL_gN l (p+25) 8 (by omega),putL_gN l (p+33) 8 (by omega),e6,e7]
          rw [show (75:Nat)=8+(8+(8+(1+(8+(8+(17+17)))))) from rfl]
          simp only [take_cat]
        all_goals simp only [bs_size]
        all_goals first | omega | (unfold maxLen;omega)
theorem spansTo_back {b : List UInt8} : ∀ (k : Nat) {L : List Sp}, 6 + 75 * k ≤ b.length → spansTo b k = .ok L → L.length = k ∧ L.flatMap spanL = (b.drop 6).take (75 * k) ∧ ∀ s ∈ L, mayB s = true ∧ s.Ok
  | 0,L,_,h=>by
    injection h with h;subst h
    exact ⟨rfl,by simp,by simp⟩
  | k + 1, L, hb, h => by
    unfold spansTo at h
    cases h1:spansTo b k with
    | error e=>rw [h1] at h;cases h
    | ok l =>
      rw [h1] at h
      simp only [] at h
      cases h2:spanAt b (6+75 * k) with
      | error e=>rw [h2] at h;cases h
      | ok s =>
        rw [h2] at h
        injection h with h;subst h
        obtain ⟨i1,i2,i3⟩:=spansTo_back k (by omega) h1
        obtain ⟨s1,s2,s3⟩:=spanAt_back (by omega) h2
        refine ⟨by simp [i1],?_,fun x hx=>?_⟩
        · rw [List.flatMap_append,i2,List.flatMap_cons,List.flatMap_nil,List.append_nil,s1,show 75 * (k+1)=75 * k+75 by omega,take_cat b 6 (75 * k) 75]
        · rcases List.mem_append.1 hx with hx | hx
          · exact i3 x hx
          · rw [List.mem_singleton.1 hx];exact ⟨s2,s3⟩
theorem flat_length {L:List Sp} (h:∀ s ∈ L,mayB s=true):(L.flatMap spanL).length=75 * L.length:=by
  induction L with
  | nil=>rfl
  | cons s L ih =>
    rw [List.flatMap_cons,List.length_append,spanL_length (h s (by simp)),ih fun x hx=>h x (by simp [hx]),List.length_cons];omega
theorem mayL_iff {L:List Sp}:mayL L=true ↔ 1≤L.length∧L.length≤32∧∀ s ∈ L,mayB s=true:=by
  simp [mayL,and_assoc]
theorem batchL_length {L:List Sp} (h:mayL L=true):(batchL L).length=6+75 * L.length:=by
  simp only [batchL,List.length_append,putL_length,flat_length (mayL_iff.1 h).2.2];simp [letL]
theorem getW_back {b:List UInt8} {L:List Sp} (h:getW b=.ok L):batchL L=b∧mayL L=true∧∀ s ∈ L,s.Ok:=by
  unfold getW at h
  split at h
  · cases h
  split at h
  · cases h
  split at h
  · cases h
  split at h
  · cases h
  split at h
  · cases h
  rename_i h1 h2 h3 h4 h5
  obtain ⟨i1,i2,i3⟩:=spansTo_back _ (by omega) h
  refine ⟨?_,mayL_iff.2 ⟨by omega,by omega,fun s hs=>(i3 s hs).1⟩,fun s hs=>(i3 s hs).2⟩
  have h2':b.take 4=letL:=by simpa using h2
  rw [batchL,i1,i2,putL_gN b 4 2 (by omega),← h2']
  have e:b=(b.drop 0).take (4+(2+75 * gN b 4 2)):=by rw [List.drop_zero,List.take_of_length_le (by omega)]
  have e2:(b.drop 0).take (4+(2+75 * gN b 4 2))=b.take 4 ++ ((b.drop 4).take 2 ++ (b.drop 6).take (75 * gN b 4 2)):=by
    rw [take_cat,take_cat];simp
  rw [List.append_assoc,← e2,← e]
theorem flat_slab:∀ (L:List Sp) (_:∀ s ∈ L,mayB s=true) (k:Nat) (h:k < L.length),((L.flatMap spanL).drop (75 * k)).take 75=spanL L[k]
  | [],_,k,h=>by simp at h
  | s :: L,hm,0,_=>by
    have hs:=spanL_length (hm s (by simp))
    rw [List.flatMap_cons,Nat.mul_zero,List.drop_zero,List.take_append,hs,Nat.sub_self,List.take_zero,List.append_nil,List.take_of_length_le (by omega)];rfl
  | s :: L,hm,k+1,h=>by
    have hs:=spanL_length (hm s (by simp))
    rw [List.flatMap_cons,List.drop_append,List.drop_of_length_le (by omega),List.nil_append,hs,show 75 * (k+1) - 75=75 * k by omega]
    exact flat_slab L (fun x hx=>hm x (by simp [hx])) k (by simpa using h)
theorem spansTo_of {b:List UInt8} {L:List Sp} (hm:∀ s ∈ L,mayB s=true) (ok:∀ s ∈ L,s.Ok) (hb:b.drop 6=L.flatMap spanL) (hl:6≤b.length):∀ k,k≤L.length→spansTo b k=.ok (L.take k)
  | 0,_=>rfl
  | k+1,hk=>by
    have hlen:b.length=6+75 * L.length:=by have h:=congrArg List.length hb;rw [List.length_drop,flat_length hm] at h;omega
    have hs:=spanAt_of (l:=b) (p:=6+75 * k) (ok L[k] (List.getElem_mem _)) (hm L[k] (List.getElem_mem _)) (by omega) (by rw [← List.drop_drop,hb];exact flat_slab L hm k (by omega))
    rw [spansTo,spansTo_of hm ok hb hl k (by omega)]
    simp only []
    rw [hs,List.take_succ_eq_append_getElem (by omega)]
theorem head_batch (L:List Sp):∃ R,batchL L=83 :: 80 :: 65 :: 78 :: (byt L.length 0) :: (byt L.length 1) :: R∧R=L.flatMap spanL:=⟨_,rfl,rfl⟩
theorem gN_head {b R:List UInt8} {n:Nat} (hb:b=83 :: 80 :: 65 :: 78 :: (byt n 0) :: (byt n 1) :: R) (hn:n < 65536):b.take 4=letL∧gN b 4 2=n∧b.drop 6=R:=by
  subst hb
  refine ⟨rfl,?_,rfl⟩
  rw [gN_of _ 4 n 2 (fun i hi=>by
    rcases Nat.lt_or_ge i 1 with h | h
    · obtain rfl:i=0:=by omega
      rfl
    · obtain rfl:i=1:=by omega
      rfl)]
  omega
/-- A batch is read from its bytes as it was. -/
theorem getW_batch {L:List Sp} (hm:mayL L=true) (ok:∀ s ∈ L,s.Ok):getW (batchL L)=.ok L:=by
  obtain ⟨h1,h2,h3⟩:=mayL_iff.1 hm
  have hl:=batchL_length hm
  obtain ⟨R,hb,hR⟩:=head_batch L
  obtain ⟨t,g,d⟩:=gN_head hb (by omega)
  rw [hR] at d
  unfold getW
  rw [g,hl,t,if_neg (by omega),if_neg (by simp),if_neg (by omega),if_neg (by omega),if_neg (by omega),spansTo_of h3 ok d (by omega) _ (Nat.le_refl _),List.take_length]
end Go.Proofs.YtccbpngehedbaaaGreat

namespace Go.Proofs.YtccbpngehedbaaaGreat
open Go Go.RowKit Go.Sort

theorem refPut_is (n:Nat) (s:Int) (k:Nat) (hk:cnt s=k) (P:List UInt8) (hP:P=putL n k) (w:World) (hn:n < 18446744073709551616) :
    Calls Tryz.prog 85 #[.int .u64 (n:Int),.int .i64 s] w fun e w'=>e=.returned (.string (bs P))∧Below w.heap.size w w':=by
  subst hk hP;exact refPut_any n s w hn
theorem refPutText_is (s:ByteArray) (P:List UInt8) (hP:P=fldL s.data.toList) (w:World) (hs:s.size≤maxLen) :
    Calls Tryz.prog 117 #[.string s] w fun e w'=>e=.returned (.string (bs P))∧Below w.heap.size w w':=by
  subst hP;exact refPutText_any s w hs
set_option maxHeartbeats 2000000 in
theorem refSpan_nat (a b c k st du:Nat) (h n:ByteArray) (w:World) (ha:a < 18446744073709551616) (hb:b < 18446744073709551616) (hc:c < 18446744073709551616) (hk:k < 256) (hst:st < 9223372036854775808) (hdu:du < 9223372036854775808)
    (hh:h.size≤16) (hn:n.size≤16) :
    Calls Tryz.prog 86 #[(⟨a,b,c,k,h,n,st,du⟩:Sp).v] w fun e w'=>e=.returned (.string (bs (spanL ⟨a,b,c,k,h,n,st,du⟩)))∧Below w.heap.size w w':=by
  obtain ⟨P1,h1⟩:∃ P,P=putL a 8:=⟨_,rfl⟩
  obtain ⟨P2,h2⟩:∃ P,P=putL b 8:=⟨_,rfl⟩
  obtain ⟨P3,h3⟩:∃ P,P=putL c 8:=⟨_,rfl⟩
  obtain ⟨P4,h4⟩:∃ P,P=putL k 1:=⟨_,rfl⟩
  obtain ⟨P5,h5⟩:∃ P,P=putL st 8:=⟨_,rfl⟩
  obtain ⟨P6,h6⟩:∃ P,P=putL du 8:=⟨_,rfl⟩
  obtain ⟨P7,h7⟩:∃ P,P=fldL h.data.toList:=⟨_,rfl⟩
  obtain ⟨P8,h8⟩:∃ P,P=fldL n.data.toList:=⟨_,rfl⟩
  have HE:Hid (bs P1 ++ bs P2 ++ bs P3 ++ bs P4 ++ bs P5 ++ bs P6 ++ bs P7 ++ bs P8=bs (spanL ⟨a,b,c,k,h,n,st,du⟩)):=by
    show _=_
    simp only [bs_append,spanL,Int.toNat_natCast,h1,h2,h3,h4,h5,h6,h7,h8,List.append_assoc]
  have q1:(bs P1).size=8:=by rw [bs_size,h1,putL_length]
  have q2:(bs P2).size=8:=by rw [bs_size,h2,putL_length]
  have q3:(bs P3).size=8:=by rw [bs_size,h3,putL_length]
  have q4:(bs P4).size=1:=by rw [bs_size,h4,putL_length]
  have q5:(bs P5).size=8:=by rw [bs_size,h5,putL_length]
  have q6:(bs P6).size=8:=by rw [bs_size,h6,putL_length]
  have q7:(bs P7).size=17:=by rw [bs_size,h7,fldL_length (by simpa using hh)]
  have q8:(bs P8).size=17:=by rw [bs_size,h8,fldL_length (by simpa using hn)]
  have H1:=Lib.hid h1;have H2:=Lib.hid h2;have H3:=Lib.hid h3;have H4:=Lib.hid h4;have H5:=Lib.hid h5;have H6:=Lib.hid h6;have H7:=Lib.hid h7;have H8:=Lib.hid h8
  have HH:=Lib.hid hh;have HN:=Lib.hid hn
  clear h1 h2 h3 h4 h5 h6 h7 h8 hh hn
  have w1:IntKind.u64.wrap (k:Int)=(k:Int):=IntWalk.u64_in _ ⟨by omega,by omega⟩
  have w2:IntKind.u64.wrap (st:Int)=(st:Int):=IntWalk.u64_in _ ⟨by omega,by omega⟩
  have w3:IntKind.u64.wrap (du:Int)=(du:Int):=IntWalk.u64_in _ ⟨by omega,by omega⟩
  unfold Sp.v
  go_enter Tryz.func86,Tryz.ntmps86
  go_wp2_with fail
  obtain ⟨W,hW⟩:∃ W,W=w.alloc (.cells (⟨a,b,c,k,h,n,st,du⟩:Sp).c 126):=⟨_,rfl⟩
  have HB:Hid (Below w.heap.size w W):=by show Below _ _ _;rw [hW];exact box1 _ _
  have hbox:Box W w.heap.size ⟨a,b,c,k,h,n,st,du⟩:=by rw [hW];exact Box.new _ _ _
  have hk0:∀ d os,(grow (redrawn W d) os).cell? ⟨w.heap.size,0,none⟩=some (.int .u64 (a:Int)):=fun d os=>((below_regrown W d os).cell hbox.1).trans hbox.all.1
  have hk1:∀ d os,(grow (redrawn W d) os).cell? ⟨w.heap.size,1,none⟩=some (.int .u64 (b:Int)):=fun d os=>((below_regrown W d os).cell hbox.1).trans hbox.all.2.1
  have hk2:∀ d os,(grow (redrawn W d) os).cell? ⟨w.heap.size,2,none⟩=some (.int .u64 (c:Int)):=fun d os=>((below_regrown W d os).cell hbox.1).trans hbox.all.2.2.1
  have hk3:∀ d os,(grow (redrawn W d) os).cell? ⟨w.heap.size,3,none⟩=some (.int .u8 (k:Int)):=fun d os=>((below_regrown W d os).cell hbox.1).trans hbox.all.2.2.2.1
  have hk4:∀ d os,(grow (redrawn W d) os).cell? ⟨w.heap.size,4,none⟩=some (.string h):=fun d os=>((below_regrown W d os).cell hbox.1).trans hbox.all.2.2.2.2.1
  have hk5:∀ d os,(grow (redrawn W d) os).cell? ⟨w.heap.size,5,none⟩=some (.string n):=fun d os=>((below_regrown W d os).cell hbox.1).trans hbox.all.2.2.2.2.2.1
  have hk6:∀ d os,(grow (redrawn W d) os).cell? ⟨w.heap.size,6,none⟩=some (.int .i64 (st:Int)):=fun d os=>((below_regrown W d os).cell hbox.1).trans hbox.all.2.2.2.2.2.2.1
  have hk7:∀ d os,(grow (redrawn W d) os).cell? ⟨w.heap.size,7,none⟩=some (.int .i64 (du:Int)):=fun d os=>((below_regrown W d os).cell hbox.1).trans hbox.all.2.2.2.2.2.2.2
  unfold Sp.c at hW
  rw [← hW]
  clear hW hbox
  refine wp_region_quiet_below (by kernel_rfl) (by kernel_rfl) ?_
  iterate 35 (first | go_big_quiet_step (first
    | (go_at_call 85;with_reducible (show Calls Tryz.prog 85 #[.int .u64 (a:Int),.int .i64 8] _ _);exact Calls.regrown_of (refPut_is a 8 8 rfl P1 H1.out _ ha))
    | (go_at_call 85;with_reducible (show Calls Tryz.prog 85 #[.int .u64 (b:Int),.int .i64 8] _ _);exact Calls.regrown_of (refPut_is b 8 8 rfl P2 H2.out _ hb))
    | (go_at_call 85;with_reducible (show Calls Tryz.prog 85 #[.int .u64 (c:Int),.int .i64 8] _ _);exact Calls.regrown_of (refPut_is c 8 8 rfl P3 H3.out _ hc))
    | (go_at_call 85;with_reducible (show Calls Tryz.prog 85 #[.int .u64 (k:Int),.int .i64 1] _ _);exact Calls.regrown_of (refPut_is k 1 1 rfl P4 H4.out _ (by omega)))
    | (go_at_call 85;with_reducible (show Calls Tryz.prog 85 #[.int .u64 (st:Int),.int .i64 8] _ _);exact Calls.regrown_of (refPut_is st 8 8 rfl P5 H5.out _ (by omega)))
    | (go_at_call 85;with_reducible (show Calls Tryz.prog 85 #[.int .u64 (du:Int),.int .i64 8] _ _);exact Calls.regrown_of (refPut_is du 8 8 rfl P6 H6.out _ (by omega)))
    | (go_at_call 117;with_reducible (show Calls Tryz.prog 117 #[.string h] _ _);exact Calls.regrown_of (refPutText_is h P7 H7.out _ (by have:=HH.out;unfold maxLen;omega)))
    | (go_at_call 117;with_reducible (show Calls Tryz.prog 117 #[.string n] _ _);exact Calls.regrown_of (refPutText_is n P8 H8.out _ (by have:=HN.out;unfold maxLen;omega)))) | fail)
  refine wpQuiet_nil ?_
  intro W3 hw'
  obtain ⟨⟨d,os⟩,hw''⟩:=hw'
  have hb3:=below_regrown W d os
  rw [← hw''] at hb3
  clear hw'' hk0 hk1 hk2 hk3 hk4 hk5 hk6 hk7
  go_wp2_with fail
  go_ret
  exact ⟨ret_str HE.out,bel2 HB.out hb3⟩
end Go.Proofs.YtccbpngehedbaaaGreat

namespace Go.Proofs.YtccbpngehedbaaaGreat
open Go Go.RowKit

theorem refSpan_any (s:Sp) (w:World) (ok:s.Ok) (hm:mayB s=true) :
    Calls Tryz.prog 86 #[s.v] w fun e w'=>e=.returned (.string (bs (spanL s)))∧Below w.heap.size w w':=by
  obtain ⟨_,_,_,hs1,hs2,hd1,hd2,h1,h2⟩:=mayB_parts hm
  obtain ⟨⟨a1,a2⟩,⟨b1,b2⟩,⟨c1,c2⟩,⟨d1,d2⟩,_,_,_,_⟩:=ok
  obtain ⟨a,b,c,k,h,n,st,du⟩:=s
  simp only at *
  obtain ⟨a,rfl⟩:=Int.eq_ofNat_of_zero_le a1
  obtain ⟨b,rfl⟩:=Int.eq_ofNat_of_zero_le b1
  obtain ⟨c,rfl⟩:=Int.eq_ofNat_of_zero_le c1
  obtain ⟨k,rfl⟩:=Int.eq_ofNat_of_zero_le d1
  obtain ⟨st,rfl⟩:=Int.eq_ofNat_of_zero_le hs1
  obtain ⟨du,rfl⟩:=Int.eq_ofNat_of_zero_le hd1
  exact refSpan_nat a b c k st du h n w (by omega) (by omega) (by omega) (by omega) (by omega) (by omega) h1 h2
theorem mayL_none {L:List Sp} (h:L.length=0):mayL L=false:=by simp [mayL,h]
theorem mayL_many {L:List Sp} (h:32 < L.length):mayL L=false:=by
  have:¬ L.length≤32:=by omega
  simp [mayL,this]
theorem mayL_fit {L:List Sp} (h1:1≤L.length) (h2:L.length≤32):mayL L=L.all mayB:=by simp [mayL,h1,h2]
theorem all_take {L:List Sp} {k:Nat} (h:k < L.length):(L.take (k+1)).all mayB=((L.take k).all mayB && mayB L[k]):=by
  rw [List.take_succ_eq_append_getElem h,List.all_append];simp
theorem all_not {L:List Sp} {k:Nat} (h:k < L.length) (hk:mayB L[k]=false):L.all mayB=false:=by
  rw [List.all_eq_false]
  exact ⟨L[k],List.getElem_mem _,by simp [hk]⟩
theorem refMay_one {s:Sp} {b:Bool} (h:mayB s=b) (w:World) (ok:s.Ok):Calls Tryz.prog 115 #[s.v] w fun e w'=>e=.returned (.bool b)∧Below w.heap.size w w':=by
  subst h;exact refMay_any s w ok.host ok.name ok.kind.1
set_option maxHeartbeats 2000000 in
theorem refMayL_any (a : Option Addr) (c : Nat) (L : List Sp) (w : World) (hr : Rd w w.heap.size a (flatL L)) (hl : L.length ≤ maxLen) (ok : ∀ s ∈ L, s.Ok) :
    Calls Tryz.prog 84 #[.slice a L.length c] w fun e w'=>e=.returned (.bool (mayL L))∧Below w.heap.size w w':=by
  have HR:=Lib.hid hr;have OK:=Lib.hid ok;clear hr ok
  unfold maxLen at hl
  by_cases h0:L.length=0
  · have HE:=Lib.hid (mayL_none h0)
    have h1:((L.length:Int) == 0)=true:=by simp [h0]
    go_enter Tryz.func84,Tryz.ntmps84
    go_wp2
    go_ret
    exact ⟨ret_bool HE.out.symm,Below.refl _ _⟩
  have h1:((L.length:Int) == 0)=false:=beq_eq_false_iff_ne.2 (by omega)
  by_cases h32:32 < L.length
  · have HE:=Lib.hid (mayL_many h32)
    clear h0
    go_enter Tryz.func84,Tryz.ntmps84
    go_wp2
    go_ret
    exact ⟨ret_bool HE.out.symm,Below.refl _ _⟩
  have HF:=Lib.hid (mayL_fit (L:=L) (by omega) (by omega))
  have h32':¬ (32 < (L.length:Int)):=by omega
  clear h0
  go_enter Tryz.func84,Tryz.ntmps84
  go_wp2_with fail
  go_loopw [3] (fun i wr=>∃ k:Nat,k≤L.length∧i=.int .i64 k∧(L.take k).all mayB=true∧Below w.heap.size w wr) (fun i _=>L.length - (intOf i).toNat)
  case atStart=>exact ⟨0,Nat.zero_le _,rfl,rfl,Below.refl _ _⟩
  case round =>
    obtain ⟨k,hk,rfl,he,hbw⟩:=hrel
    have HE:=Lib.hid he;have HW:=Lib.hid hbw;clear he hbw
    by_cases hlt:k < L.length
    · obtain ⟨b1,o1,ha1,_,e0,e1,e2,e3,e4,e5,e6,e7⟩:=(HR.out.below HW.out).elem hlt
      subst ha1
      have i1:(0:Int)≤(k:Int):=by omega
      have i2:(k:Int) < (L.length:Int):=by omega
      have OKK:=Lib.hid (OK.out L[k] (List.getElem_mem _))
      have HT:=Lib.hid (all_take hlt)
      cases hm:mayB L[k]
      · have HA:=Lib.hid (all_not hlt hm)
        have HM:=Lib.hid hm
        clear hm
        generalize L[k]=s at *
        go_wp2_with fail
        refine (refMay_one HM.out _ OKK.out).mono ?_;rintro e w2 ⟨rfl,hb2⟩
        go_wp2_with fail
        go_ret
        exact ⟨ret_bool (by rw [HF.out,HA.out]),bel2 HW.out hb2⟩
      · have HM:=Lib.hid hm
        rw [hm] at HT
        clear hm
        generalize L[k]=s at *
        go_wp2_with fail
        refine (refMay_one HM.out _ OKK.out).mono ?_;rintro e w2 ⟨rfl,hb2⟩
        go_wp2_with fail
        go_roundw
        case rel=>exact ⟨k+1,by omega,by go_num,by rw [HT.out,HE.out];rfl,bel2 HW.out hb2⟩
        case measure=>simp [intOf];omega
    · have:k=L.length:=by omega
      subst this
      have HA:Hid (L.all mayB=true):=by
        show _=_
        have h:=HE.out
        rwa [List.take_length] at h
      go_wp2_with fail
      go_ret
      exact ⟨ret_bool (by rw [HF.out,HA.out]),HW.out⟩
end Go.Proofs.YtccbpngehedbaaaGreat

namespace Go.Proofs.YtccbpngehedbaaaGreat
open Go Go.RowKit

theorem ret_stri {x y:ByteArray} {k:IntKind} {a b:Int} (h:x=y) (h2:a=b):Ending.returned (.tuple #[.string x,.int k a])=.returned (.tuple #[.string y,.int k b]):=by rw [h,h2]
theorem flat_take {L:List Sp} {k:Nat} (h:k < L.length):(L.take (k+1)).flatMap spanL=(L.take k).flatMap spanL ++ spanL L[k]:=by
  rw [List.take_succ_eq_append_getElem h,List.flatMap_append,List.flatMap_cons,List.flatMap_nil,List.append_nil]
/-- The first k spans' bytes behind the head. -/
def partL (L:List Sp) (k:Nat):List UInt8:=letL ++ putL L.length 2 ++ (L.take k).flatMap spanL
theorem partL_zero (L:List Sp):partL L 0=letL ++ putL L.length 2:=by simp [partL]
theorem partL_succ {L:List Sp} {k:Nat} (h:k < L.length):partL L (k+1)=partL L k ++ spanL L[k]:=by
  unfold partL;rw [flat_take h,List.append_assoc];simp only [List.append_assoc]
theorem partL_all (L:List Sp):partL L L.length=batchL L:=by unfold partL;rw [List.take_length];rfl
theorem partL_length {L:List Sp} (h:∀ s ∈ L,mayB s=true) {k:Nat} (hk:k≤L.length):(partL L k).length=6+75 * k:=by
  unfold partL
  rw [List.length_append,List.length_append,putL_length,flat_length (fun s hs=>h s (List.mem_of_mem_take hs)),List.length_take,Nat.min_eq_left hk];rfl
def putStr (L:List Sp):ByteArray:=if mayL L=true then bs (batchL L) else ByteArray.empty
def putErr (L:List Sp):Int:=if mayL L=true then 0 else 1
set_option maxHeartbeats 2000000 in
theorem refPutL_any (a : Option Addr) (c : Nat) (L : List Sp) (w : World) (hr : Rd w w.heap.size a (flatL L)) (hl : L.length ≤ maxLen) (ok : ∀ s ∈ L, s.Ok) :
    Calls Tryz.prog 60 #[.slice a L.length c] w fun e w'=>e=.returned (.tuple #[.string (putStr L),.int .i64 (putErr L)])∧Below w.heap.size w w':=by
  have HR:=Lib.hid hr;have OK:=Lib.hid ok;have HL:=Lib.hid hl;clear hr ok
  unfold maxLen at hl
  cases hm:mayL L
  · have H1:Hid (putStr L=ByteArray.empty):=by show _=_;simp [putStr,hm]
    have H2:Hid (putErr L=1):=by show _=_;simp [putErr,hm]
    have HM:=Lib.hid hm;clear hm
    go_enter Tryz.func60,Tryz.ntmps60
    go_wp2_with fail
    refine (refMayL_any a c L _ HR.out HL.out OK.out).mono ?_;rw [HM.out];rintro e w2 ⟨rfl,hb2⟩
    go_wp2_with fail
    go_ret2
    exact ⟨ret_stri H1.out.symm H2.out.symm,hb2⟩
  · have H1:Hid (putStr L=bs (batchL L)):=by show _=_;simp [putStr,hm]
    have H2:Hid (putErr L=0):=by show _=_;simp [putErr,hm]
    obtain ⟨m1,m2,m3⟩:=mayL_iff.1 hm
    have HM:=Lib.hid hm;have HM3:=Lib.hid m3;clear hm m3
    have hw:IntKind.u64.wrap (L.length:Int)=(L.length:Int):=IntWalk.u64_in _ ⟨by omega,by omega⟩
    obtain ⟨P,hP⟩:∃ P,P=putL L.length 2:=⟨_,rfl⟩
    have hPs:(bs P).size=2:=by rw [bs_size,hP,putL_length]
    have HP:=Lib.hid hP;clear hP
    have HZ:Hid (ByteArray.mk #[83,80,65,78] ++ bs P=bs (partL L 0)):=by
      show _=_
      rw [partL_zero,← HP.out,← bs_append];rfl
    go_enter Tryz.func60,Tryz.ntmps60
    go_wp2_with fail
    refine (refMayL_any a c L _ HR.out HL.out OK.out).mono ?_;rw [HM.out];rintro e w2 ⟨rfl,hb2⟩
    have HR2:=Lib.hid ((HR.out.below hb2).more hb2.size)
    go_wp2_with fail
    refine (refPut_is L.length 2 2 rfl P HP.out _ (by omega)).mono ?_;rintro e w3 ⟨rfl,hb3⟩
    have HR3:=Lib.hid ((HR2.out.below hb3).more hb3.size)
    have HB3:=Lib.hid (bel2 hb2 hb3);clear hb2 hb3
    go_wp2_with fail
    go_loopw [4,5] (fun v i wr=>∃ k:Nat,k≤L.length∧i=.int .i64 k∧v=.string (bs (partL L k))∧RowKit.Below w3.heap.size w3 wr) (fun _ i _=>L.length - (intOf i).toNat)
    case atStart=>exact ⟨0,Nat.zero_le _,rfl,by rw [← HZ.out],Below.refl _ _⟩
    case round =>
      obtain ⟨k,hk,rfl,rfl,hbw⟩:=hrel
      have HW:=Lib.hid hbw;clear hbw
      by_cases hlt:k < L.length
      · obtain ⟨b1,o1,ha1,_,e0,e1,e2,e3,e4,e5,e6,e7⟩:=(HR3.out.below HW.out).elem hlt
        subst ha1
        have i1:(0:Int)≤(k:Int):=by omega
        have i2:(k:Int) < (L.length:Int):=by omega
        have OKK:=Lib.hid (OK.out L[k] (List.getElem_mem _))
        have HMK:=Lib.hid (HM3.out L[k] (List.getElem_mem _))
        have HT:=Lib.hid (partL_succ hlt)
        have q1:(bs (partL L k)).size=6+75 * k:=by rw [bs_size,partL_length HM3.out hk]
        have q2:(bs (spanL L[k])).size=75:=by rw [bs_size,spanL_length HMK.out]
        generalize L[k]=s at *
        have hsz:¬ 9223372036854775807 < 6+75 * k+75:=by omega
        go_wp2_with fail
        refine (refSpan_any s _ OKK.out HMK.out).mono ?_;rintro e w4 ⟨rfl,hb4⟩
        go_wp2_with fail
        go_roundw
        case rel=>exact ⟨k+1,by omega,by go_num,by rw [HT.out,← bs_append],bel2 HW.out hb4⟩
        case measure=>simp [intOf];omega
      · have:k=L.length:=by omega
        subst this
        go_wp2_with fail
        go_ret2
        exact ⟨ret_stri (by rw [H1.out,partL_all]) H2.out.symm,bel2 HB3.out HW.out⟩
end Go.Proofs.YtccbpngehedbaaaGreat

namespace Go.Proofs.YtccbpngehedbaaaGreat
open Go Go.RowKit

/-- What is answered: the spans and the error's number. -/
def SpansOut (w:World) (r:Except Nat (List Sp)) (e:Ending) (w':World):Prop :=
  ∃ a c,e=.returned (.tuple #[.slice a (lstW r).length c,.int .i64 (errW r:Nat)])∧(lstW r).length≤c∧c≤maxLen∧Rd w' w'.heap.size a (flatL (lstW r))∧Below w.heap.size w w'
theorem SpansOut.no {w w':World} {r:Except Nat (List Sp)} {n:Nat} (h:r=.error n) (hb:Below w.heap.size w w'):SpansOut w r (.returned (.tuple #[.slice none 0 0,.int .i64 (n:Int)])) w':=by
  subst h;exact ⟨none,0,rfl,Nat.le_refl _,by decide,Rd.nil _ _ _,hb⟩
theorem spansTo_stuck {b:List UInt8} {k e:Nat} (h:spansTo b k=.error e):∀ i,spansTo b (k+i)=.error e
  | 0=>h
  | i+1=>by rw [← Nat.add_assoc,spansTo,spansTo_stuck h i]
theorem spansTo_err {b:List UInt8} {k n e:Nat} {l:List Sp} (h:spansTo b k=.ok l) (hk:k < n) (hs:spanAt b (6+75 * k)=.error e):spansTo b n=.error e:=by
  have h1:spansTo b (k+1)=.error e:=by rw [spansTo,h];simp only [];rw [hs]
  obtain ⟨i,rfl⟩:∃ i,n=k+1+i:=⟨n - (k+1),by omega⟩
  exact spansTo_stuck h1 i
theorem spansTo_next {b:List UInt8} {k:Nat} {l:List Sp} {s:Sp} (h:spansTo b k=.ok l) (hs:spanAt b (6+75 * k)=.ok s):spansTo b (k+1)=.ok (l ++ [s]):=by
  rw [spansTo,h];simp only [];rw [hs]
def szs (j:Nat):Nat:=[8,8,8,1,8,8].getD j 0
def offs (j:Nat):Nat:=[0,8,16,24,25,33,41].getD j 0
theorem szs_all:∀ j:Fin 6,szs j≤8∧1≤szs j∧offs (j+1)=offs j+szs j∧offs j+szs j≤41∧cnt (szs j)=szs j:=by decide
theorem szs_fact {j:Nat} (h:j < 6):szs j≤8∧1≤szs j∧offs (j+1)=offs j+szs j∧offs j+szs j≤41∧cnt (szs j)=szs j:=szs_all ⟨j,h⟩
def szA:Array Value:=#[.int .i64 8,.int .i64 8,.int .i64 8,.int .i64 1,.int .i64 8,.int .i64 8]
theorem szA_get:∀ j:Fin 6,szA.toList[(j:Nat)]?=some (.int .i64 (szs j:Nat)):=by
  intro j
  match j with
  | ⟨0,_⟩=>rfl
  | ⟨1,_⟩=>rfl
  | ⟨2,_⟩=>rfl
  | ⟨3,_⟩=>rfl
  | ⟨4,_⟩=>rfl
  | ⟨5,_⟩=>rfl
def valL (b:List UInt8) (p j:Nat):List Value:=(List.range j).map fun i=>.int .u64 (gN b (p+offs i) (szs i):Nat)
theorem valL_succ (b:List UInt8) (p j:Nat):valL b p (j+1)=valL b p j ++ [.int .u64 (gN b (p+offs j) (szs j):Nat)]:=by
  unfold valL;rw [List.range_succ,List.map_append];rfl
theorem info_u64:(Tryz.prog.info? 69).map (fun i=>(i.zero,i.size,i.bytes))=some (some (.int .u64 0),1,8):=by kernel_rfl
theorem getW_short {b:List UInt8} (h:b.length < 6):getW b=.error 2:=if_pos h
theorem getW_letters {b:List UInt8} (h:¬ b.length < 6) (h2:b.take 4 ≠ letL):getW b=.error 3:=by unfold getW;rw [if_neg h,if_pos h2]
theorem getW_count {b:List UInt8} (h:¬ b.length < 6) (h2:b.take 4=letL) (h3:gN b 4 2=0∨32 < gN b 4 2):getW b=.error 3:=by unfold getW;rw [if_neg h,if_neg (by simp [h2]),if_pos h3]
theorem getW_less {b:List UInt8} (h:¬ b.length < 6) (h2:b.take 4=letL) (h3:¬ (gN b 4 2=0∨32 < gN b 4 2)) (h4:b.length < 6+75 * gN b 4 2):getW b=.error 2:=by unfold getW;rw [if_neg h,if_neg (by simp [h2]),if_neg h3,if_pos h4]
theorem getW_great {b:List UInt8} (h:¬ b.length < 6) (h2:b.take 4=letL) (h3:¬ (gN b 4 2=0∨32 < gN b 4 2)) (h5:6+75 * gN b 4 2 < b.length):getW b=.error 3:=by unfold getW;rw [if_neg h,if_neg (by simp [h2]),if_neg h3,if_neg (by omega),if_pos h5]
theorem getW_fit {b:List UInt8} (h:¬ b.length < 6) (h2:b.take 4=letL) (h3:¬ (gN b 4 2=0∨32 < gN b 4 2)) (h5:b.length=6+75 * gN b 4 2):getW b=spansTo b (gN b 4 2):=by unfold getW;rw [if_neg h,if_neg (by simp [h2]),if_neg h3,if_neg (by omega),if_neg (by omega)]
theorem refGet_is (x:ByteArray) (p:Nat) (s:Nat) (w:World) (b:List UInt8) (hb:x.data.toList=b) (hc:cnt s=s) (hs:s≤8) (hp:p+s≤b.length) (hl:b.length≤1000000000000) (G:Nat) (hG:gN b p s=G) :
    Calls Tryz.prog 91 #[.string x,.int .i64 (p:Int),.int .i64 (s:Int)] w fun e w'=>e=.returned (.tuple #[.int .u64 (G:Int),.bool true])∧Below w.heap.size w w':=by
  subst hb hG
  have hx:x.size≤1000000000000:=by rw [← data_length];exact hl
  have h:=refGet_any x (p:Int) (s:Int) w hx (by omega) (by omega) (by omega) (by omega)
  rw [getR_yes (by rw [hc];omega),hc,Int.toNat_natCast] at h
  exact h
theorem spanAt_err {b:List UInt8} {p e:Nat} (h:spanAt b p=.error e):e ≠ 0:=by
  unfold spanAt at h
  split at h
  · injection h with h;omega
  · injection h with h;omega
  · simp only [] at h
    split at h
    · cases h
    · injection h with h;omega
theorem spansTo_err0 {b:List UInt8}:∀ {k e:Nat},spansTo b k=.error e→e ≠ 0
  | 0,_,h=>by cases h
  | k+1,e,h=>by
    unfold spansTo at h
    cases h1:spansTo b k with
    | error x=>rw [h1] at h;injection h with h;subst h;exact spansTo_err0 h1
    | ok l =>
      rw [h1] at h
      simp only [] at h
      cases h2:spanAt b (6+75 * k) with
      | error x=>rw [h2] at h;injection h with h;subst h;exact spanAt_err h2
      | ok s=>rw [h2] at h;cases h
theorem getW_err {b:List UInt8} {e:Nat} (h:getW b=.error e):e ≠ 0:=by
  unfold getW at h
  split at h
  · injection h with h;omega
  split at h
  · injection h with h;omega
  split at h
  · injection h with h;omega
  split at h
  · injection h with h;omega
  split at h
  · injection h with h;omega
  exact spansTo_err0 h
end Go.Proofs.YtccbpngehedbaaaGreat

namespace Go.Proofs.YtccbpngehedbaaaGreat
open Go Go.RowKit

theorem refGetText_is (x:ByteArray) (P:Int) (b:List UInt8) (hb:x.data.toList=b) (hl:b.length≤1000000000000) (w:World) (h1:0≤P) (h2:P≤9223372036854775807) (o:Option (List UInt8)) (ho:getT b P=o) :
    Calls Tryz.prog 122 #[.string x,.int .i64 P] w fun e w'=>e=.returned (.tuple #[.string (txt o),.bool o.isSome])∧Below w.heap.size w w':=by
  subst hb ho
  exact refGetText_any x P w (by rw [← data_length];exact hl) (by omega) h2
theorem info_sp:(Tryz.prog.info? 126).map (fun i=>(i.zero,i.size,i.bytes))=some (some (⟨0,0,0,0,ByteArray.empty,ByteArray.empty,0,0⟩:Sp).v,8,80):=by kernel_rfl
set_option maxRecDepth 100000 in
set_option maxHeartbeats 4000000 in
theorem refGetL_any (t : ByteArray) (b : List UInt8) (htb : t.data.toList = b) (w : World) (hl : b.length ≤ 1000000000000) :
    Calls Tryz.prog 93 #[.string t] w (SpansOut w (getW b)):=by
  have HTB:=Lib.hid htb
  have hsz:t.size=b.length:=by rw [← htb,data_length]
  clear htb
  by_cases h6:b.length < 6
  · have HE:=Lib.hid (getW_short h6)
    go_enter Tryz.func93,Tryz.ntmps93
    go_wp2_with fail
    go_ret2
    exact SpansOut.no HE.out (Below.refl _ _)
  have HX:Hid (t.extract 0 4=bs (b.take 4)):=by show _=_;rw [bs_extract,HTB.out,List.drop_zero]
  have e4:(ByteArray.mk #[83,80,65,78]).toList=[83,80,65,78]:=by rw [ByteArray.toList_eq]
  by_cases h4:b.take 4=letL
  case neg =>
    have HE:=Lib.hid (getW_letters h6 h4)
    obtain ⟨t1,t2⟩:=str_eq (x:=t.extract 0 4) (y:=ByteArray.mk #[83,80,65,78]) (b:=false) (by
      rw [HX.out]
      have:¬ bs (b.take 4)=ByteArray.mk #[83,80,65,78]:=fun e=>h4 (bs_inj e)
      simp [this])
    rw [e4] at t1
    clear t2 e4
    go_enter Tryz.func93,Tryz.ntmps93
    go_wp2_with fail
    go_ret2
    exact SpansOut.no HE.out (Below.refl _ _)
  obtain ⟨t1,t2⟩:=str_eq (x:=t.extract 0 4) (y:=ByteArray.mk #[83,80,65,78]) (b:=true) (by
    rw [HX.out,h4];decide)
  rw [e4] at t1
  clear t2 e4
  obtain ⟨N,hN⟩:∃ N,gN b 4 2=N:=⟨_,rfl⟩
  have hN16:N < 65536:=by have:=gN_lt b 4 2;omega
  by_cases h0:N=0
  · have HE:=Lib.hid (getW_count h6 h4 (by omega))
    go_enter Tryz.func93,Tryz.ntmps93
    go_wp2_with fail
    refine (refGet_is t 4 2 _ b HTB.out rfl (by omega) (by omega) hl N hN).mono ?_;rintro e w2 ⟨rfl,hb2⟩
    have h0':((N:Int) == 0)=true:=by simp [h0]
    go_wp2_with fail
    go_ret2
    exact SpansOut.no HE.out hb2
  have h0':((N:Int) == 0)=false:=beq_eq_false_iff_ne.2 (by omega)
  by_cases h32:32 < N
  · have HE:=Lib.hid (getW_count h6 h4 (by omega))
    go_enter Tryz.func93,Tryz.ntmps93
    go_wp2_with fail
    refine (refGet_is t 4 2 _ b HTB.out rfl (by omega) (by omega) hl N hN).mono ?_;rintro e w2 ⟨rfl,hb2⟩
    go_wp2_with fail
    go_ret2
    exact SpansOut.no HE.out hb2
  have hw:IntKind.i64.wrap (N:Int)=(N:Int):=i64_small (by omega)
  by_cases hless:b.length < 6+75 * N
  · have HE:=Lib.hid (getW_less h6 h4 (by omega) (by omega))
    go_enter Tryz.func93,Tryz.ntmps93
    go_wp2_with fail
    refine (refGet_is t 4 2 _ b HTB.out rfl (by omega) (by omega) hl N hN).mono ?_;rintro e w2 ⟨rfl,hb2⟩
    go_wp2_with fail
    go_ret2
    exact SpansOut.no HE.out hb2
  by_cases hgreat:6+75 * N < b.length
  · have HE:=Lib.hid (getW_great h6 h4 (by omega) (by omega))
    go_enter Tryz.func93,Tryz.ntmps93
    go_wp2_with fail
    refine (refGet_is t 4 2 _ b HTB.out rfl (by omega) (by omega) hl N hN).mono ?_;rintro e w2 ⟨rfl,hb2⟩
    go_wp2_with fail
    go_ret2
    exact SpansOut.no HE.out hb2
  have hlen:b.length=6+75 * N:=by omega
  have HE:=Lib.hid (getW_fit h6 h4 (by omega) (by omega))
  rw [hN] at HE
  go_enter Tryz.func93,Tryz.ntmps93
  go_wp2_with fail
  refine (refGet_is t 4 2 _ b HTB.out rfl (by omega) (by omega) hl N hN).mono ?_;rintro e w2 ⟨rfl,hb2⟩
  have HB2:=Lib.hid hb2;clear hb2
  go_wp2_with fail
  clear t1 HX hN hw h0' h0 hless hgreat h4
  obtain ⟨i0,hi0,hz0,hz1,hz2⟩:=info_parts info_sp
  obtain ⟨j0,hj0,hy0,hy1,hy2⟩:=info_parts info_u64
  have HZ2:=Lib.hid hz2;have HY2:=Lib.hid hy2;clear hz2 hy2
  have HOUT:=Lib.hid (World.ownsRow_made (base:=w.heap.size) (e:=126) (size:=8) w2 #[] 0 HB2.out.size (by decide) rfl)
  have HBO:=Lib.hid (HB2.out.alloc HB2.out.size (.cells #[] 126))
  go_loopw [6,7] (fun v i wr=>∃ (k p:Nat) (l:List Sp),p=6+75 * k∧k≤N∧i=.int .i64 p∧wr.ownsRow w.heap.size 126 8 v k (flatL l)∧spansTo b k=.ok l∧RowKit.Below w.heap.size w wr) (fun _ i _=>6+75 * N - (intOf i).toNat)
  case atStart=>exact ⟨0,6,[],by omega,Nat.zero_le _,rfl,HOUT.out,rfl,HBO.out⟩
  case round =>
    clear HOUT HBO
    obtain ⟨k,p,l,hp,hk,rfl,hown,hl,hbw⟩:=hrel
    generalize wr=WO at *
    have HO:=Lib.hid hown;have HL:=Lib.hid hl;have HW:=Lib.hid hbw;have HP:=Lib.hid hp;clear hown hl hbw
    by_cases hlt:k < N
    · have hpl:p+75≤b.length:=by omega
      have hpn:(p:Int) < 6+75 * (N:Int):=by omega
      clear hp
      go_wp2_with fail
      go_loopw [8,10,11] (fun v kk i wx=>∃ (j q:Nat),j≤6∧i=.int .i64 j∧q=p+offs j∧kk=.int .i64 q∧wx.ownsRow WO.heap.size 69 1 v j (valL b p j)∧wx.ownsRow WO.heap.size 3 1 (.slice (some ⟨WO.heap.size+1,0,none⟩) 6 6) 6 szA.toList∧Apart (.slice (some ⟨WO.heap.size+1,0,none⟩) 6 6) v∧RowKit.Below WO.heap.size WO wx) (fun _ _ i _=>6 - (intOf i).toNat)
      case atStart =>
        refine ⟨0,p,Nat.zero_le _,rfl,rfl,rfl,?_,?_,?_,?_⟩
        · exact (World.ownsRow_made WO #[] 0 (Nat.le_refl _) (by decide) rfl).alloc _
        · have h:=World.ownsRow_lit (base:=WO.heap.size) (e:=3) (size:=1) (WO.alloc (.cells #[] 69)) szA 6 (by simp) (by decide) rfl
          rw [World.size_alloc] at h
          exact h
        · exact .inr (.inr (by simp [Value.ownBlock]))
        · exact (box1 WO _).alloc (by simp) _
      case round =>
        obtain ⟨j,q,hj,rfl,hq,rfl,hv,hz,hap,hbx⟩:=hrel
        have HV:=Lib.hid hv;have HZ:=Lib.hid hz;have HAP:=Lib.hid hap;have HBX:=Lib.hid hbx;have HQ:=Lib.hid hq;clear hv hz hap hbx
        by_cases hj6:j < 6
        · obtain ⟨s1,s2,s3,s4,s5⟩:=szs_fact hj6
          have hcell:=HZ.out.cellAt j (by omega)
          have SZ:Hid (szA.toList[j]?=some (.int .i64 (szs j:Nat))):=szA_get ⟨j,hj6⟩
          rw [SZ.out] at hcell
          have i1:(0:Int)≤(j:Int):=by omega
          have i2:(j:Int) < 6:=by omega
          obtain ⟨G,hG⟩:∃ G,gN b q (szs j)=G:=⟨_,rfl⟩
          have HVS:Hid (valL b p (j+1)=valL b p j ++ [.int .u64 (G:Nat)]):=by show _=_;rw [valL_succ,← hq,hG]
          have HG:=Lib.hid hG;clear hG
          have hqs:q+szs j≤b.length:=by omega
          have HO3:Hid (q+szs j=p+offs (j+1)):=by show _=_;omega
          have HS5:=Lib.hid s5
          clear s3 s4 s5 hq
          generalize szs j=z at *
          go_wp2_with fail
          refine (refGet_is t q z _ b HTB.out HS5.out s1 hqs hl G HG.out).mono ?_;rintro e w4 ⟨rfl,hb4⟩
          have HV4:=Lib.hid (own_below HV.out hb4);have HZ4:=Lib.hid (own_below HZ.out hb4);have HB4:=Lib.hid (bel2 HBX.out hb4);clear hb4
          go_wp2_with (refine wpList_append_rd _ rfl (.tmp 75) (.tmp 77) 188 rfl WO.heap.size 69 j0 _ 1 8 Tryz.underlying188 hj0 hy0 hy1 HY2.out rfl (by omega) u8 j _ rfl (HV4.out.alloc _) _ _ 1 1 [.int .u64 (G : Nat)] rfl rfl (lit_rd w4 #[.int .u64 (G : Int)] _) (by intro u hu; rw [List.mem_singleton.1 hu]; rfl) (by unfold maxLen; omega) (by omega) (by have := HB4.out.size; simp; omega) ?_
                       intro v5 w5 hown5 hg5 hblk5
                       have hz5:=(HZ4.out.alloc (.cells #[.int .u64 (G:Int)] 69)).kept hg5 HAP.out.row
                       have hap5:=HAP.out.next (HZ4.out.alloc _) hblk5
                       have hb5:=Below.of_grown (HB4.out.alloc HB4.out.size (.cells #[.int .u64 (G:Int)] 69)) hg5 (by have:=HB4.out.size;simp;omega) (fun g h=>(own_shape HV4.out h).1)
                       have HO5:=Lib.hid hown5;have HZ5:=Lib.hid hz5;have HAP5:=Lib.hid hap5;have HB5:=Lib.hid hb5;clear hown5 hg5 hblk5 hap5 hb5
                       have hcell5:=hz5.cellAt j (by omega)
                       rw [SZ.out] at hcell5
                       clear hz5)
          go_roundw
          case rel=>exact ⟨j+1,q+z,by omega,by go_num,HO3.out,by go_num,by rw [HVS.out];exact HO5.out,HZ5.out,HAP5.out,HB5.out⟩
          case measure=>simp [intOf];omega
        · obtain rfl : j = 6 := by omega
          have HQ1:Hid (q=p+41):=hq
          have hq2:q+34≤b.length:=by have:=HQ1.out;omega
          clear hq HQ HZ HAP
          obtain ⟨o1,ho1⟩:∃ o,getT b (q:Int)=o:=⟨_,rfl⟩
          have HO1:=Lib.hid ho1
          clear ho1
          cases o1 with
          | none =>
            have HR:Hid (spanAt b p=.error 3):=by
              show _=_
              have h:=HO1.out;rw [HQ1.out] at h
              unfold spanAt;rw [h]
            go_wp2_with fail
            refine (refGetText_is t q b HTB.out hl _ (by omega) (by omega) none HO1.out).mono ?_;rintro e w4 ⟨rfl,hb4⟩
            go_wp2_with fail
            go_ret2
            exact SpansOut.no (by rw [HE.out];exact spansTo_err HL.out hlt (by rw [← HP.out];exact HR.out)) (bel2 (bel2 HW.out HBX.out) hb4)
          | some H =>
            go_wp2_with fail
            refine (refGetText_is t q b HTB.out hl _ (by omega) (by omega) (some H) HO1.out).mono ?_;rintro e w4 ⟨rfl,hb4⟩
            have HV4:=Lib.hid (own_below HV.out hb4);have HB4:=Lib.hid (bel2 HBX.out hb4);clear hb4
            obtain ⟨o2,ho2⟩:∃ o,getT b ((q:Int)+17)=o:=⟨_,rfl⟩
            have HO2:=Lib.hid ho2
            clear ho2
            have HQ2:Hid ((q:Int)+17=((p+58:Nat):Int)):=by show _=_;rw [HQ1.out];omega
            cases o2 with
            | none =>
              have HR:Hid (spanAt b p=.error 3):=by
                show _=_
                have h:=HO1.out;rw [HQ1.out] at h
                have h2:=HO2.out;rw [HQ2.out] at h2
                unfold spanAt;rw [h,h2]
              go_wp2_with fail
              refine (refGetText_is t _ b HTB.out hl _ (by omega) (by omega) none HO2.out).mono ?_;rintro e w5 ⟨rfl,hb5⟩
              go_wp2_with fail
              go_ret2
              exact SpansOut.no (by rw [HE.out];exact spansTo_err HL.out hlt (by rw [← HP.out];exact HR.out)) (bel2 (bel2 HW.out HB4.out) hb5)
            | some M =>
              go_wp2_with fail
              refine (refGetText_is t _ b HTB.out hl _ (by omega) (by omega) (some M) HO2.out).mono ?_;rintro e w5 ⟨rfl,hb5⟩
              have HV5:=Lib.hid (own_below HV4.out hb5);have HB5:=Lib.hid (bel2 HB4.out hb5);clear hb5
              obtain ⟨g,cap8,rfl⟩:∃ g cap8,u8=.slice (some ⟨g,0,none⟩) 6 cap8:=by
                obtain ⟨a8,c8,rfl,_,_,hx⟩:=own_slice HV5.out
                obtain ⟨g,rfl,_⟩:=hx (by omega)
                exact ⟨g,c8,rfl⟩
              have hgl:g < w5.heap.size:=(own_shape HV5.out rfl).2.1
              have cl:=fun (i:Nat) (h:i < 6)=>HV5.out.cellAt i (by omega)
              obtain ⟨A,hA⟩:∃ A,gN b p 8=A:=⟨_,rfl⟩
              obtain ⟨B,hB⟩:∃ B,gN b (p+8) 8=B:=⟨_,rfl⟩
              obtain ⟨C,hC⟩:∃ C,gN b (p+16) 8=C:=⟨_,rfl⟩
              obtain ⟨K,hK⟩:∃ K,gN b (p+24) 1=K:=⟨_,rfl⟩
              obtain ⟨S,hS⟩:∃ S,gN b (p+25) 8=S:=⟨_,rfl⟩
              obtain ⟨D,hD⟩:∃ D,gN b (p+33) 8=D:=⟨_,rfl⟩
              have c0:w5.cell? ⟨g,0,none⟩=some (.int .u64 (A:Int)):=by rw [← hA];exact cl 0 (by omega)
              have c1:w5.cell? ⟨g,1,none⟩=some (.int .u64 (B:Int)):=by rw [← hB];exact cl 1 (by omega)
              have c2:w5.cell? ⟨g,2,none⟩=some (.int .u64 (C:Int)):=by rw [← hC];exact cl 2 (by omega)
              have c3:w5.cell? ⟨g,3,none⟩=some (.int .u64 (K:Int)):=by rw [← hK];exact cl 3 (by omega)
              have c4:w5.cell? ⟨g,4,none⟩=some (.int .u64 (S:Int)):=by rw [← hS];exact cl 4 (by omega)
              have c5:w5.cell? ⟨g,5,none⟩=some (.int .u64 (D:Int)):=by rw [← hD];exact cl 5 (by omega)
              have hKl:K < 256:=by rw [← hK];exact gN_lt b (p+24) 1
              have hKw:IntKind.u8.wrap (K:Int)=(K:Int):=IntWalk.u8_in _ ⟨by omega,by omega⟩
              obtain ⟨st,hst⟩:∃ st,IntKind.i64.wrap (S:Int)=st:=⟨_,rfl⟩
              obtain ⟨du,hdu⟩:∃ du,IntKind.i64.wrap (D:Int)=du:=⟨_,rfl⟩
              have HF:Hid (spanAt b p=if mayB ⟨A,B,C,K,bs H,bs M,st,du⟩=true then .ok ⟨A,B,C,K,bs H,bs M,st,du⟩ else .error 4):=by
                show _=_
                have h:=HO1.out;rw [HQ1.out] at h
                have h2:=HO2.out;rw [HQ2.out] at h2
                unfold spanAt;rw [h,h2];simp only []
                rw [hA,hB,hC,hK,hS,hD,hst,hdu]
              have tx1:txt (some H)=bs H:=rfl
              have tx2:txt (some M)=bs M:=rfl
              clear cl hA hB hC hK hS hD
              rw [tx1,tx2]
              clear tx1 tx2
              go_wp2_with fail
              have k0:∀ w',RowKit.Below w5.heap.size w5 w'→w'.cell? ⟨g,0,none⟩=some (.int .u64 (A:Int)):=fun w' h=>(h.cell (p:=⟨g,0,none⟩) hgl).trans c0
              have k1:∀ w',RowKit.Below w5.heap.size w5 w'→w'.cell? ⟨g,1,none⟩=some (.int .u64 (B:Int)):=fun w' h=>(h.cell (p:=⟨g,1,none⟩) hgl).trans c1
              have k2:∀ w',RowKit.Below w5.heap.size w5 w'→w'.cell? ⟨g,2,none⟩=some (.int .u64 (C:Int)):=fun w' h=>(h.cell (p:=⟨g,2,none⟩) hgl).trans c2
              have k3:∀ w',RowKit.Below w5.heap.size w5 w'→w'.cell? ⟨g,3,none⟩=some (.int .u64 (K:Int)):=fun w' h=>(h.cell (p:=⟨g,3,none⟩) hgl).trans c3
              have k4:∀ w',RowKit.Below w5.heap.size w5 w'→w'.cell? ⟨g,4,none⟩=some (.int .u64 (S:Int)):=fun w' h=>(h.cell (p:=⟨g,4,none⟩) hgl).trans c4
              have k5:∀ w',RowKit.Below w5.heap.size w5 w'→w'.cell? ⟨g,5,none⟩=some (.int .u64 (D:Int)):=fun w' h=>(h.cell (p:=⟨g,5,none⟩) hgl).trans c5
              clear c0 c1 c2 c3 c4 c5
              go_region_held_law (fun w'=>RowKit.Below w5.heap.size w5 w') (first | assumption | exact Below_drew (Below.refl _ _) | exact (Below_drew (Below.refl _ _)).alloc (by simp) _) (fail)
              clear k0 k1 k2 k3 k4 k5
              clear hst hdu
              have hH:=(getT_back (l:=b) (h:=H) (p:=p+41) (by omega) (by have h:=HO1.out;rw [HQ1.out] at h;exact h)).2
              have hM:=(getT_back (l:=b) (h:=M) (p:=p+58) (by omega) (by have h:=HO2.out;rw [HQ2.out] at h;exact h)).2
              have HHs:Hid ((bs H).size≤maxLen):=by show _≤_;rw [bs_size];unfold maxLen;omega
              have HMs:Hid ((bs M).size≤maxLen):=by show _≤_;rw [bs_size];unfold maxLen;omega
              clear hH hM hKw
              obtain ⟨X,hX⟩:∃ X:Sp,X=⟨A,B,C,K,bs H,bs M,st,du⟩:=⟨_,rfl⟩
              have HBX6:=Lib.hid (Box.new w5 X 126)
              have hB6:=(bel2 (box1 w5 (.cells X.c 126)) (Below_drew (Below.refl _ _)))
              rw [hX] at hB6
              have HB6:=Lib.hid hB6
              clear hB6
              have HX:=Lib.hid hX
              rw [← hX] at HF
              clear hX
              cases hm:mayB X
              case false =>
                have HR:Hid (spanAt b p=.error 4):=by show _=_;rw [HF.out,hm];rfl
                have HM:=Lib.hid hm;clear hm
                go_wp2_with fail
                refine (refMay_is (s:=⟨A,B,C,K,bs H,bs M,st,du⟩) (b:=false) (by rw [← HX.out];exact HM.out) _ HHs.out HMs.out (Int.natCast_nonneg _)).mono ?_;rintro e w7 ⟨rfl,hb7⟩
                go_wp2_with fail
                go_ret2
                exact SpansOut.no (by rw [HE.out];exact spansTo_err HL.out hlt (by rw [← HP.out];exact HR.out)) (bel2 (bel2 (bel2 HW.out HB5.out) HB6.out) hb7)
              case true =>
                have HR:Hid (spanAt b p=.ok X):=by show _=_;rw [HF.out,hm];rfl
                have HM:=Lib.hid hm;clear hm
                go_wp2_with fail
                refine (refMay_is (s:=⟨A,B,C,K,bs H,bs M,st,du⟩) (b:=true) (by rw [← HX.out];exact HM.out) _ HHs.out HMs.out (Int.natCast_nonneg _)).mono ?_;rintro e w7 ⟨rfl,hb7⟩
                have hbox:Box w7 w5.heap.size ⟨A,B,C,K,bs H,bs M,st,du⟩:=by
                  have h:=HBX6.out
                  rw [HX.out] at h
                  exact Box.below (B:=(w5.alloc (.cells (⟨A,B,C,K,bs H,bs M,st,du⟩:Sp).c 126)).heap.size) h ((Below_drew (Below.refl _ _)).trans hb7) (by simp)
                obtain ⟨d0,d1,d2,d3,d4,d5,d6,d7⟩:=hbox.all
                have HB7:=Lib.hid (bel2 (bel2 HB5.out HB6.out) hb7)
                have HO7:=Lib.hid (own_below HO.out HB7.out)
                have HW7:=Lib.hid (bel2 HW.out HB7.out)
                clear hb7 hbox
                go_wp2_with (refine wpList_append_rd _ rfl (.tmp 129) (.tmp 131) 98 rfl w.heap.size 126 i0 _ 8 80 Tryz.underlying98 hi0 hz0 hz1 HZ2.out rfl (by omega) u6 k _ rfl (HO7.out.alloc _) _ _ 1 1 (flatL [⟨A, B, C, K, bs H, bs M, st, du⟩]) rfl rfl (lit_rd w7 (⟨A, B, C, K, bs H, bs M, st, du⟩ : Sp).c _) (flatL_one _) (by unfold maxLen; omega) (by omega) (by have := HW7.out.size; simp; omega) ?_
                             intro v8 w8 hown8 hg8 _
                             have hb8:=Below.of_grown (HW7.out.alloc HW7.out.size (.cells (⟨A,B,C,K,bs H,bs M,st,du⟩:Sp).c 126)) hg8 (by have:=HW7.out.size;simp;omega) (fun g h=>(own_shape HO7.out h).1)
                             have HO8:=Lib.hid hown8;have HB8:=Lib.hid hb8;clear hown8 hg8 hb8)
                go_roundw
                case rel=>exact ⟨k+1,p+75,l ++ [⟨A,B,C,K,bs H,bs M,st,du⟩],by rw [HP.out];omega,by omega,by go_num,by rw [flatL_append];exact HO8.out,spansTo_next HL.out (by rw [← HP.out,HR.out,HX.out]),HB8.out⟩
                case measure=>show 6+75 * N - ((p:Int)+75).toNat < 6+75 * N - (p:Int).toNat;omega
    · have:k=N:=by omega
      subst this
      obtain ⟨a6,c6,rfl,hx1,hx2,_⟩:=own_slice HO.out
      have hkl:k=l.length:=by have h:=HO.out.1;rw [flatL_length] at h;omega
      have HX1:=Lib.hid hx1;have HX2:=Lib.hid hx2;have HKL:=Lib.hid hkl;clear hx1 hx2 hkl
      go_wp2_with fail
      go_ret2
      rw [HE.out,HL.out]
      exact ⟨a6,c6,by rw [show (lstW (Except.ok (ε:=Nat) l)).length=k from HKL.out.symm];rfl,by show l.length≤c6;rw [← HKL.out];exact HX1.out,HX2.out,Rd.own HO.out,HW.out⟩
/-- What Put answers: the batch's bytes, or none, and the error's number. -/
def putB (L:List Sp):List UInt8:=if mayL L=true then batchL L else []
theorem putB_no {L:List Sp} (h:mayL L=false):putB L=[]∧putErr L=1∧putStr L=ByteArray.empty:=by simp [putB,putErr,putStr,h]
theorem putB_yes {L:List Sp} (h:mayL L=true):putB L=batchL L∧putErr L=0∧putStr L=bs (batchL L):=by simp [putB,putErr,putStr,h]
theorem putStr_bs (L:List Sp):bs (putB L)=putStr L:=by
  cases h:mayL L
  · rw [(putB_no h).1,(putB_no h).2.2];rfl
  · rw [(putB_yes h).1,(putB_yes h).2.2]
theorem putB_le {L:List Sp}:(putB L).length≤2406:=by
  cases h:mayL L
  · rw [(putB_no h).1];simp
  · rw [(putB_yes h).1,batchL_length h];have:=(mayL_iff.1 h).2.1;omega
end Go.Proofs.YtccbpngehedbaaaGreat

