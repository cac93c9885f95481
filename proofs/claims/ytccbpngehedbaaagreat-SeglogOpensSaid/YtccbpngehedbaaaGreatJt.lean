import Derived.Test.YtccbpngehedbaaaGreatJs
import Derived.Shelf.Abstract
import Derived.Laws.Concat
import Derived.Deep.RegionHeldLaw
namespace Go.Proofs.YtccbpngehedbaaaGreat
open Go Go.RowKit Go.Maps Go.Sort

/-! The landed file system: the numbers of some of the files, in order. -/
theorem ranges_move {w w':World} {b r n:Nat} {D:DataW Value} {left:Lit→Bool} {cnt:Nat} (h:w.ranges Tryz.prog 22 fileR b r n D left cnt) (hb:w'.heap[b]?=w.heap[b]?) (hr:w'.heap[r]?=w.heap[r]?):w'.ranges Tryz.prog 22 fileR b r n D left cnt:=by
  obtain ⟨es,clock,since,seen,c0,h1,F,hs,hD,h2,rest⟩:=h
  exact ⟨es,clock,since,seen,c0,hb.trans h1,F,hs,hD,hr.trans h2,rest⟩
theorem ranges_below {w w':World} {b r n:Nat} {D:DataW Value} {left:Lit→Bool} {cnt:Nat} (h:w.ranges Tryz.prog 22 fileR b r n D left cnt) (hb:Below w.heap.size w w'):w'.ranges Tryz.prog 22 fileR b r n D left cnt :=
  ranges_move h (hb.block b h.owns.lt) (hb.block r h.lt)
theorem wpList_next_files {P:Program} (hP:P=Tryz.prog) (w:World) {ops:Array Oper} {rest:List Oper} {o:Oper} {a:Act} {Q:Exit→Act→World→Prop}
    (hg:o.guard=none) (it:Operand) (hop:o.op=Op.next it false) (b r n:Nat) (L:List Fl) (hs:SdF L) (left:Lit→Bool) (cnt:Nat)
    (hit:a.eval it=.pointer (some ⟨r,0,none⟩)) (h:w.ranges Tryz.prog 22 fileR b r n (dF L) left cnt)
    (hDone:(∀ kl,left kl=false)→wpList P ops Q rest (a.put o.dst (.tuple #[.bool false])) w)
    (hMore:∀ (z:Fl) (w':World) (cnt':Nat),z ∈ L→left (keyF z.n)=true→w'.ranges Tryz.prog 22 fileR b r n (dF L) (fun q=>left q && !q.sameKey (keyF z.n)) cnt'→cnt' < cnt →
      w.grownBy w' (some r)→w'.heap.size=w.heap.size→(Instr.entry (.pointer (some ⟨r,0,none⟩))).run P w'=.ok (.tuple #[.int .u32 (z.n:Int),.agg #[.bool z.there,.string z.now,.bool z.kept,.string z.safe]]) w' →
      wpList P ops Q rest (a.put o.dst (.tuple #[.bool true,.int .u32 (z.n:Int),.agg #[.bool z.there,.string z.now,.bool z.kept,.string z.safe]])) w') :
    wpList P ops Q (o :: rest) a w:=by
  subst hP
  refine wpList_next_ranges w hg it hop 22 lawF fileR (Value.int .u32) flV (fun key kl hkey=>by obtain ⟨x,rfl,_⟩:=Maps.keyOf_int_inv Tryz.underlying22 hkey;exact ⟨x,rfl⟩) (fun v y hv=>by obtain ⟨x,rfl,_⟩:=fileR_inv hv;exact ⟨x,rfl⟩)
    b r n (dF L) left cnt hit h (fun _ hl=>hDone hl) fun x c kl y w' cnt' hkey hlk hv hat hrg hlt hgr hsz hen=>?_
  obtain ⟨z,hz,rfl⟩:=(has_dF L kl).1 (has_true_of_atKey hat)
  obtain ⟨x',ex,ek,_⟩:=Maps.keyOf_int_inv Tryz.underlying22 hkey
  cases ex
  simp only [keyF,Lit.int.injEq,true_and] at ek
  subst ek
  have e1:=at_dF hs hz (.held (.bool false))
  rw [hat] at e1
  obtain ⟨c',ec,rfl⟩:=fileR_inv hv
  simp only [DataW.held.injEq] at e1
  have e2:flV c=flV z:=by rw [ec,e1]
  rw [e2] at hen ⊢
  exact hMore z w' cnt' hz hlk hrg hlt hgr hsz hen
/-- Numbers that are gone through, in whatever order. -/
def Gone (lo:Bool) (L:List Fl) (left:Lit→Bool) (N:List Nat):Prop:=N.Nodup∧∀ k,k ∈ N ↔ k ∈ numsF lo L∧left (keyF k)=false
theorem gone_start (lo:Bool) (L:List Fl):Gone lo L (Maps.has (dF L)) []:=by
  refine ⟨List.nodup_nil,fun k=>?_⟩
  simp only [List.not_mem_nil,false_iff,not_and,Bool.not_eq_false]
  intro h
  obtain ⟨y,hy,rfl,_⟩:=mem_nums.1 h
  exact (has_dF L _).2 ⟨y,hy,rfl⟩
theorem gone_yes {lo:Bool} {L:List Fl} {left:Lit→Bool} {N:List Nat} (h:Gone lo L left N) {z:Fl} (hz:z ∈ L) (hl:left (keyF z.n)=true) (hp:pickF lo z=true):Gone lo L (fun q=>left q && !q.sameKey (keyF z.n)) (N ++ [z.n]):=by
  refine ⟨?_,fun k=>?_⟩
  · refine List.nodup_append.2 ⟨h.1,by simp,fun a ha b hb e=>?_⟩
    simp only [List.mem_singleton] at hb
    subst hb;subst e
    have:=((h.2 _).1 ha).2
    rw [hl] at this;cases this
  · simp only [List.mem_append,List.mem_singleton,keyF_same,Bool.and_eq_false_iff,Bool.not_eq_false',decide_eq_true_eq,h.2]
    constructor
    · rintro (⟨h1,h2⟩ | rfl)
      · exact ⟨h1,.inl h2⟩
      · exact ⟨mem_nums.2 ⟨z,hz,rfl,hp⟩,.inr rfl⟩
    · rintro ⟨h1,h2 | h2⟩
      · exact .inl ⟨h1,h2⟩
      · exact .inr h2
theorem gone_no {lo:Bool} {L:List Fl} (hs:SdF L) {left:Lit→Bool} {N:List Nat} (h:Gone lo L left N) {z:Fl} (hz:z ∈ L) (hp:pickF lo z=false):Gone lo L (fun q=>left q && !q.sameKey (keyF z.n)) N:=by
  refine ⟨h.1,fun k=>?_⟩
  simp only [keyF_same,Bool.and_eq_false_iff,Bool.not_eq_false',decide_eq_true_eq,h.2]
  constructor
  · rintro ⟨h1,h2⟩;exact ⟨h1,.inl h2⟩
  · rintro ⟨h1,h2 | rfl⟩
    · exact ⟨h1,h2⟩
    · obtain ⟨y,hy,e,hq⟩:=mem_nums.1 h1
      obtain rfl:=SdF_one hs hy hz e
      rw [hp] at hq;cases hq
theorem gone_end {lo:Bool} {L:List Fl} (hs:SdF L) {left:Lit→Bool} {N N':List Nat} (h:Gone lo L left N) (hl:∀ q,left q=false) (hp:N'.Perm N) (hw:N'.Pairwise (·≤·)):N'=numsF lo L:=by
  have h1:=nums_sorted (lo:=lo) hs
  have nd:(numsF lo L).Nodup:=h1.imp fun {a b} h=>Nat.ne_of_lt h
  have p2:N.Perm (numsF lo L):=(List.perm_ext_iff_of_nodup h.1 nd).2 fun k=>by rw [h.2];simp [hl]
  exact List.Perm.eq_of_pairwise (le:=(·≤·)) (fun a b _ _ h1 h2=>Nat.le_antisymm h1 h2) hw (h1.imp fun {a b} h=>Nat.le_of_lt h) (hp.trans p2)
theorem gone_len {lo:Bool} {L:List Fl} (hs:SdF L) {left:Lit→Bool} {N:List Nat} (h:Gone lo L left N):N.length≤L.length:=by
  have h1:=nums_sorted (lo:=lo) hs
  have nd:(numsF lo L).Nodup:=h1.imp fun {a b} h=>Nat.ne_of_lt h
  have p2:N.Perm ((numsF lo L).filter fun k=>decide (k ∈ N)):=(List.perm_ext_iff_of_nodup h.1 (nd.filter _)).2 fun k=>by
    rw [List.mem_filter,decide_eq_true_eq]
    exact ⟨fun hk=>⟨((h.2 k).1 hk).1,hk⟩,fun hk=>hk.2⟩
  rw [p2.length_eq]
  exact Nat.le_trans (List.length_filter_le _ _) (numsF_le lo L)
set_option maxRecDepth 20000 in
set_option maxHeartbeats 4000000 in
theorem nums_any (lo : Bool) (fv : Value) (K : FuncId) (hfv : fv = .func (.func K) #[] #[]) (hen : ∀ args w, (callFunc K args).run Tryz.prog w = .ok (.enter K args) w)
    (hc:∀ x w,OkX x→Calls Tryz.prog K #[flV x] w fun e w'=>e=.returned (.bool (pickF lo x))∧Below w.heap.size w w')
    (w:World) (S R:Nat→Prop) (p:Nat) (m:FSm) (hF:FsL w S R p m) (hb:m.files.length≤1000000000) (hk:∀ y ∈ m.files,y.n < 4294967296) :
    Calls Tryz.prog 61 #[.pointer (some ⟨p,0,none⟩),fv] w (NumsOut w (numsF lo m.files)):=by
  subst hfv
  have HEN:=Lib.hid hen;have HC:=Lib.hid hc;have HK:=Lib.hid hk;clear hen hc hk
  obtain ⟨i0,hi0,hz0,hz1,hz2⟩:=info_parts info_u32
  have HZ2:=Lib.hid hz2;clear hz2
  obtain ⟨b,fu,hne,hS,hR,hp,ho,h1,h2,h3,ok⟩:=hF
  have HO:=Lib.hid ho;have HOK:=Lib.hid ok
  have c0:=cells_cell hp (i:=0) rfl
  have HBL:=Lib.hid ho.lt
  clear hS hR hp ho ok h3
  go_enter Tryz.func61,Tryz.ntmps61
  go_wp2_with (at_range;refine wpList_range_own _ rfl _ 74 rfl 22 82 lawF Tryz.underlying74 fileR b m.files.length (dF m.files) rfl HO.out ?_;intro w0 hrg0 hg0 hs0;have HR0:=Lib.hid hrg0;have HG0:=Lib.hid hg0;have HS0:=Lib.hid hs0;clear hrg0 hg0 hs0)
  go_frame
  go_loopw [5] (fun v wr=>∃ left cnt N,wr.ranges Tryz.prog 22 fileR b w.heap.size m.files.length (dF m.files) left cnt∧wr.ownsRow (w.heap.size+1) 22 1 v N.length (u32V N)∧Gone lo m.files left N∧RowKit.Below w.heap.size w wr) (fun _ wr=>wr.rangeLeft b w.heap.size)
  case atStart =>
    exact ⟨_,_,[],HR0.out,World.ownsRow_nil _ _ _ _,gone_start lo m.files,(Below.refl _ w).grown HG0.out (Nat.le_refl _) (fun j hj=>by cases hj)⟩
  case round =>
    obtain ⟨left,cnt,N,hrg,hown,hgn,hbw⟩:=hrel
    have HRG:=Lib.hid hrg;have HW:=Lib.hid hown;have HG:=Lib.hid hgn;have HB:=Lib.hid hbw
    clear hrg hown hgn hbw
    have HWS:Hid (w.heap.size+1≤wr.heap.size):=by show _≤_;have:=HRG.out.lt;omega
    have HLN:=Lib.hid (gone_len HOK.out.1 HG.out)
    go_wp2_with (at_next;refine wpList_next_files rfl _ rfl _ rfl b w.heap.size m.files.length m.files HOK.out.1 left cnt rfl HRG.out ?_ ?_)
    · intro hl0
      have HL0:=Lib.hid hl0;clear hl0
      rcases HW.out.2 with ⟨rfl,h0⟩ | ⟨g,cap,cur,rfl,hg1,hgb,hcap,hcm,_⟩
      · have HE:Hid (numsF lo m.files=[]):=by
          show _=_
          have:N=[]:=List.length_eq_zero_iff.1 h0
          subst this
          exact (gone_end HOK.out.1 HG.out HL0.out (List.Perm.refl _) List.Pairwise.nil).symm
        clear h0
        go_wp2_with fail
        refine (sortU_nil _).mono ?_;rintro e w5 ⟨rfl,hg5⟩
        have HB5:=Lib.hid (HB.out.grown hg5 (by have:=HWS.out;omega) (fun j hj=>by cases hj));clear hg5
        go_wp2_with fail
        go_ret
        rw [HE.out]
        exact ⟨none,0,rfl,Nat.le_refl _,by decide,Rd.nil _ _ _,fun b o s h=>by (cases h),HB5.out⟩
      · have HCM:=Lib.hid hcm;have HCAP:=Lib.hid hcap;have HG1:=Lib.hid hg1
        clear hgb hcm hcap hg1
        go_wp2_with fail
        refine (sortU_any (w.heap.size+1) g cap N wr HW.out (by have:=HLN.out;omega) (fun n hn=>by
          obtain ⟨y,hy,rfl,_⟩:=mem_nums.1 ((HG.out.2 n).1 hn).1
          exact HK.out y hy)).mono ?_
        rintro e w5 ⟨rfl,N',hp5,hw5,ho5,hg5⟩
        have HB5:=Lib.hid (HB.out.grown hg5 (by have:=HWS.out;omega) (fun j hj=>by cases hj;have:=HG1.out;omega));clear hg5
        have hE:=gone_end HOK.out.1 HG.out HL0.out hp5 hw5
        have HLE:Hid ((numsF lo m.files).length=N.length):=by show _=_;rw [← hE];exact hp5.length_eq
        rw [hE] at ho5
        have HO5:=Lib.hid ho5;clear ho5 hp5 hw5 hE
        go_wp2_with fail
        go_ret
        refine ⟨some ⟨g,0,none⟩,cap,by rw [HLE.out];rfl,by rw [HLE.out];exact HCAP.out,HCM.out,?_,fun b o s h=>by (cases h;have:=HG1.out;omega),HB5.out⟩
        have h:=HO5.out
        rw [← HLE.out] at h
        rw [HLE.out] at *
        exact Rd.own h
    · intro z w1 cnt1 hz hlz hrg1 hlt hg1 hs1 hen
      have HZ:=Lib.hid hz;have HLZ:=Lib.hid hlz;have HR1:=Lib.hid hrg1;have HT1:=Lib.hid hlt
      have HB1:=Lib.hid (HB.out.grown hg1 (by have:=HWS.out;omega) (fun j hj=>by cases hj;exact Nat.le_refl _))
      have HW1:=Lib.hid (HW.out.kept hg1 (by
        cases hv:u5.ownBlock with
        | none=>exact .inl rfl
        | some k=>refine .inr fun e=>?_;cases e;have:=(HW.out.lt _ hv).1;omega))
      have HS1:Hid (w.heap.size+1≤w1.heap.size):=by show _≤_;rw [hs1];exact HWS.out
      have HX:=Lib.hid (HOK.out.2.1 z hz).2
      clear hz hlz hrg1 hlt hg1 hs1
      have hcf:=HEN.out
      go_wp2_with fail
      refine (HC.out z _ HX.out).mono ?_;rintro e w3 ⟨rfl,hb3⟩
      have HBA:=Lib.hid (HB1.out.alloc HB1.out.size (.cells #[.bool z.there,.string z.now,.bool z.kept,.string z.safe] 82))
      have HRA:=Lib.hid (HR1.out.alloc (.cells #[.bool z.there,.string z.now,.bool z.kept,.string z.safe] 82))
      have HWA:=Lib.hid (HW1.out.alloc (.cells #[.bool z.there,.string z.now,.bool z.kept,.string z.safe] 82))
      have HB3:=Lib.hid (HBA.out.trans (hb3.mono HBA.out.size))
      have HR3:=Lib.hid (ranges_below HRA.out hb3)
      have HW3:=Lib.hid (own_below HWA.out hb3)
      have HS3:Hid (w.heap.size+1≤w3.heap.size):=by show _≤_;have h1:=HS1.out;have h2:=hb3.size;simp at h2;omega
      clear hb3 hen HBA HRA HWA HB1 HR1 HW1
      cases hp:pickF lo z
      · have HN:=Lib.hid (gone_no HOK.out.1 HG.out HZ.out hp)
        clear hp
        go_wp2_with fail
        go_roundw
        case rel=>exact ⟨_,_,N,HR3.out,HW3.out,HN.out,HB3.out⟩
        case measure=>rw [HR3.out.left_eq,HRG.out.left_eq];exact HT1.out
      · have HN:=Lib.hid (gone_yes HG.out HZ.out HLZ.out hp)
        clear hp
        go_wp2_with (refine wpList_append_rd _ rfl (.tmp 21) (.tmp 23) 70 rfl (w.heap.size + 1) 22 i0 _ 1 4 Tryz.underlying70 hi0 hz0 hz1 HZ2.out rfl (by omega) u5 N.length _ rfl (HW3.out.alloc _) _ _ 1 1 (u32V [z.n]) rfl rfl (lit_rd w3 #[.int .u32 (z.n : Int)] _) (u32V_one _) (by have := HLN.out; unfold maxLen; omega) (by have := HLN.out; omega) (by have := HS3.out; simp at this ⊢; omega) ?_
                     intro v8 w8 hown8 hg8 _
                     have HO8:=Lib.hid hown8;have HG8:=Lib.hid hg8;clear hown8 hg8)
        have hgb:∀ k,u5.ownBlock=some k→w.heap.size+1≤k:=fun k hk=>(HW3.out.lt k hk).1
        go_roundw
        case rel =>
          refine ⟨_,_,N ++ [z.n],(HR3.out.alloc _).kept HG8.out ?_ ?_,by rw [List.length_append,u32V_append];exact HO8.out,HN.out,(HB3.out.alloc (by have:=HS3.out;omega) _).grown HG8.out (by simp;have:=HS3.out;omega) (fun k hk=>by have:=hgb k hk;omega)⟩
          · intro e;have:=hgb b e.symm;have:=HBL.out;omega
          · intro e;have:=hgb _ e.symm;omega
        case measure=>rw [((HR3.out.alloc _).kept HG8.out (by intro e;have:=hgb b e.symm;have:=HBL.out;omega) (by intro e;have:=hgb _ e.symm;omega)).left_eq,HRG.out.left_eq];exact HT1.out
end Go.Proofs.YtccbpngehedbaaaGreat

namespace Go.Proofs.YtccbpngehedbaaaGreat
open Go Go.RowKit Go.Maps Go.Sort Go.Shelf
open Go.WideElems (Fit rd_key rg_of)

/-! The landed file system: List and Unsafe; what each act makes of a file. -/
theorem files_u32 {w:World} {b k:Nat} {L:List Fl} (ho:w.ownsMap Tryz.prog 22 fileR b k (dF L)):∀ y ∈ L,y.n < 4294967296:=by
  obtain ⟨es,clock,_,F,_,hD⟩:=ho
  intro y hy
  unfold dF at hD
  simp only [DataW.map.injEq] at hD
  have hp:entF y ∈ L.map entF:=List.mem_map.2 ⟨y,hy,rfl⟩
  rw [hD] at hp
  obtain ⟨x,hx,e⟩:=List.mem_map.1 (mem_sorted.1 hp)
  obtain ⟨q,hq⟩:=F.reads x hx
  have hk:=rd_key hq
  rw [rg_of hq] at e
  rw [e] at hk
  obtain ⟨v,_,e2,hw⟩:=Maps.keyOf_int_inv Tryz.underlying22 hk
  simp only [entF,keyF,Lit.int.injEq,true_and] at e2
  subst e2
  simp only [Lit.wf,show IntKind.u32.min=0 from rfl,show IntKind.u32.max=4294967295 from rfl,Bool.and_eq_true,decide_eq_true_eq] at hw
  omega
theorem FsL.u32 {w:World} {S R:Nat→Prop} {p:Nat} {m:FSm} (h:FsL w S R p m):∀ y ∈ m.files,y.n < 4294967296:=by
  obtain ⟨b,fu,hne,hS,hR,hp,ho,_⟩:=h
  exact files_u32 ho
theorem enters_there:∀ args w,(callFunc 66 args).run Tryz.prog w=.ok (.enter 66 args) w:=enters_of Tryz.func66 (by kernel_rfl) rfl
theorem enters_unsafe:∀ args w,(callFunc 30 args).run Tryz.prog w=.ok (.enter 30 args) w:=enters_of Tryz.func30 (by kernel_rfl) rfl
set_option maxHeartbeats 1000000 in
theorem list_any (w:World) (S R:Nat→Prop) (p:Nat) (m:FSm) (hF:FsL w S R p m) (hb:m.files.length≤1000000000) :
    Calls Tryz.prog 31 #[.pointer (some ⟨p,0,none⟩)] w (NumsOut w (numsF false m.files)):=by
  go_enter Tryz.func31,Tryz.ntmps31
  go_wp2_with fail
  refine (nums_any false _ 66 rfl enters_there (fun x w _=>isThere_any x w) w S R p m hF hb hF.u32).mono ?_
  rintro e w5 ⟨a,c,rfl,h1,h2,h3,h4,h5⟩
  go_wp2_with fail
  go_ret
  exact ⟨a,c,rfl,h1,h2,h3,h4,h5⟩
set_option maxHeartbeats 1000000 in
theorem unsafe_any (w:World) (S R:Nat→Prop) (p:Nat) (m:FSm) (hF:FsL w S R p m) (hb:m.files.length≤1000000000) :
    Calls Tryz.prog 26 #[.pointer (some ⟨p,0,none⟩)] w (NumsOut w (numsF true m.files)):=by
  go_enter Tryz.func26,Tryz.ntmps26
  go_wp2_with fail
  refine (nums_any true _ 30 rfl enters_unsafe (fun x w hx=>isUnsafe_any x hx w) w S R p m hF hb hF.u32).mono ?_
  rintro e w5 ⟨a,c,rfl,h1,h2,h3,h4,h5⟩
  go_wp2_with fail
  go_ret
  exact ⟨a,c,rfl,h1,h2,h3,h4,h5⟩
/-- What is done to a number's file: the error, and the file. -/
def makeG (k:Nat) (x:Fl):Int × Fl:=if x.there=true∨looseF x=true then (9,x) else if 63 < k then (6,x) else (0,{ x with there:=true })
def moreG (b:ByteArray) (x:Fl):Int × Fl:=if x.there=true then (0,appF x b) else (5,x)
def lessG (s:Int) (x:Fl):Int × Fl:=if x.there=true then (if s < 0∨(x.now.size:Int) < s then (4,x) else (0,cutF x s.toNat)) else (5,x)
def safeG (falls:Bool) (x:Fl):Int × Fl:=if x.there=true∨looseF x=true then (0,if falls=true then x else syncedF x) else (5,x)
def awayG (x:Fl):Int × Fl:=if x.there=true then (0,goneF x) else (5,x)
/-- Block q holds a file; another one there behind. -/
def Turned (w w':World) (q:Nat) (x:Fl):Prop:=Off (fun k=>k=q) w w'∧w'.heap[q]?=some (.cells (flC x) 82)
theorem Turned.no {w w':World} {q:Nat} {x:Fl} (h:w.heap[q]?=some (.cells (flC x) 82)) (hb:Below w.heap.size w w'):Turned w w' q x :=
  ⟨Off.of_below hb,by rw [hb.block q (Array.getElem?_eq_some_iff.1 h).1];exact h⟩
theorem file_cells {w:World} {q:Nat} {x:Fl} (h:w.heap[q]?=some (.cells (flC x) 82)) :
    w.cell? ⟨q,0,none⟩=some (.bool x.there)∧w.cell? ⟨q,1,none⟩=some (.string x.now)∧w.cell? ⟨q,2,none⟩=some (.bool x.kept)∧w.cell? ⟨q,3,none⟩=some (.string x.safe) ∧
    w.frozen? ⟨q,0,none⟩=false∧w.frozen? ⟨q,1,none⟩=false∧w.frozen? ⟨q,2,none⟩=false∧w.frozen? ⟨q,3,none⟩=false :=
  ⟨cells_cell h rfl,cells_cell h rfl,cells_cell h rfl,cells_cell h rfl,cells_frozen h 0,cells_frozen h 1,cells_frozen h 2,cells_frozen h 3⟩
theorem hx_now {x:Fl} (h:OkX x):x.there=false→x.now=ByteArray.empty:=h.1
theorem turn_at (w:World) (q i:Nat) (v:Value):Off (fun k=>k=q) w (w.setCell ⟨q,i,none⟩ v):=set_off _ _ q i _ rfl
set_option maxRecDepth 20000 in
set_option maxHeartbeats 2000000 in
theorem remove1_any (x:Fl) (q:Nat) (fl:Bool) (w:World) (hq:w.heap[q]?=some (.cells (flC x) 82)) :
    Calls Tryz.prog 88 #[.pointer (some ⟨q,0,none⟩),.bool fl] w fun e w'=>e=.returned (.int .i64 (awayG x).1)∧Turned w w' q (awayG x).2:=by
  obtain ⟨n,t,k,nw,sf⟩:=x
  obtain ⟨c0,c1,c2,c3,f0,f1,f2,f3⟩:=file_cells hq
  simp only at c0 c1 c2 c3
  have HQ:=Lib.hid hq;clear hq
  cases t
  · go_enter Tryz.func88,Tryz.ntmps88
    go_wp2
    go_ret
    exact ⟨rfl,Turned.no HQ.out (Below.refl _ _)⟩
  · go_enter Tryz.func88,Tryz.ntmps88
    go_wp2
    go_ret
    exact ⟨rfl,(turn_at _ q 0 _).trans (turn_at _ q 1 _),set_heap (set_heap HQ.out 0 _) 1 _⟩
set_option maxRecDepth 20000 in
set_option maxHeartbeats 2000000 in
theorem sync1_any (x : Fl) (hx : OkX x) (q : Nat) (fl : Bool) (w : World) (hq : w.heap[q]? = some (.cells (flC x) 82)) :
    Calls Tryz.prog 89 #[.pointer (some ⟨q,0,none⟩),.bool fl] w fun e w'=>e=.returned (.int .i64 (safeG fl x).1)∧Turned w w' q (safeG fl x).2:=by
  have HX:=Lib.hid hx;clear hx
  have HU:=Lib.hid (isUnsafe_any x HX.out)
  have hln:=hx_now HX.out
  obtain ⟨n,t,k,nw,sf⟩:=x
  cases t
  · have:nw=ByteArray.empty:=hln rfl
    subst this
    clear hln
    cases hl:looseF ⟨n,false,k,ByteArray.empty,sf⟩
    · have HL:=Lib.hid hl;clear hl
      rw [HL.out] at HU
      obtain ⟨c0,c1,c2,c3,f0,f1,f2,f3⟩:=file_cells hq
      simp only at c0 c1 c2 c3
      have HQ:=Lib.hid hq;clear hq
      go_enter Tryz.func89,Tryz.ntmps89
      go_wp2_with fail
      refine (HU.out _).mono ?_
      rintro e w5 ⟨rfl,hb5⟩
      go_wp2
      go_ret
      simp only [safeG,HL.out]
      exact ⟨rfl,Turned.no HQ.out hb5⟩
    · have HL:=Lib.hid hl;clear hl
      rw [HL.out] at HU
      obtain ⟨c0,c1,c2,c3,f0,f1,f2,f3⟩:=file_cells hq
      simp only at c0 c1 c2 c3
      have HQ:=Lib.hid hq;clear hq
      go_enter Tryz.func89,Tryz.ntmps89
      go_wp2_with fail
      refine (HU.out _).mono ?_
      rintro e w5 ⟨rfl,hb5⟩
      have hT5:=Turned.no HQ.out hb5
      have HT5:=Lib.hid hT5
      obtain ⟨d0,d1,d2,d3,g0,g1,g2,g3⟩:=file_cells hT5.2
      simp only at d0 d1 d2 d3
      clear c0 c1 c2 c3 f0 f1 f2 f3 hT5
      cases fl
      · go_wp2
        go_ret
        simp only [safeG,HL.out]
        exact ⟨rfl,(HT5.out.1.trans (turn_at _ q 2 _)).trans (turn_at _ q 3 _),set_heap (set_heap HT5.out.2 2 _) 3 _⟩
      · go_wp2
        go_ret
        simp only [safeG,HL.out]
        exact ⟨rfl,HT5.out⟩
  · obtain ⟨c0,c1,c2,c3,f0,f1,f2,f3⟩:=file_cells hq
    simp only at c0 c1 c2 c3
    have HQ:=Lib.hid hq;clear hq hln
    cases fl
    · go_enter Tryz.func89,Tryz.ntmps89
      go_wp2
      go_ret
      exact ⟨rfl,(turn_at _ q 2 _).trans (turn_at _ q 3 _),set_heap (set_heap HQ.out 2 _) 3 _⟩
    · go_enter Tryz.func89,Tryz.ntmps89
      go_wp2
      go_ret
      exact ⟨rfl,Turned.no HQ.out (Below.refl _ _)⟩
set_option maxRecDepth 20000 in
set_option maxHeartbeats 2000000 in
theorem create1_any (S R : Nat → Prop) (p : Nat) (m : FSm) (hb : m.files.length ≤ 1000000000) (x : Fl) (hx : OkX x) (q bx : Nat) (fl : Bool) (w : World) (hF : FsL w S R p m) (hq : w.heap[q]? = some (.cells (flC x) 82)) (hbx : w.cell? ⟨bx, 0, none⟩ = some (.pointer (some ⟨p, 0, none⟩))) :
    Calls Tryz.prog 29 #[.pointer (some ⟨q,0,none⟩),.bool fl,.pointer (some ⟨bx,0,none⟩)] w fun e w'=>e=.returned (.int .i64 (makeG (numsF false m.files).length x).1)∧Turned w w' q (makeG (numsF false m.files).length x).2:=by
  have HX:=Lib.hid hx;clear hx
  have HU:=Lib.hid (isUnsafe_any x HX.out)
  have HF:=Lib.hid hF;clear hF
  have hbl:bx < w.heap.size:=by
    unfold World.cell? at hbx
    split at hbx
    · rename_i h;exact (Array.getElem?_eq_some_iff.1 h).1
    · cases hbx
  obtain ⟨n,t,k,nw,sf⟩:=x
  obtain ⟨c0,c1,c2,c3,f0,f1,f2,f3⟩:=file_cells hq
  simp only at c0 c1 c2 c3
  have HQ:=Lib.hid hq;clear hq
  cases t
  · cases hl:looseF ⟨n,false,k,nw,sf⟩
    · have HL:=Lib.hid hl;clear hl
      rw [HL.out] at HU
      go_enter Tryz.func29,Tryz.ntmps29
      go_wp2_with fail
      refine (HU.out _).mono ?_
      rintro e w5 ⟨rfl,hb5⟩
      have hbx5:w5.cell? ⟨bx,0,none⟩=some (.pointer (some ⟨p,0,none⟩)):=by rw [hb5.cell (p:=⟨bx,0,none⟩) hbl];exact hbx
      have HF5:=Lib.hid (HF.out.below hb5)
      have HB5:=Lib.hid hb5
      clear c0 c1 c2 c3 f0 f1 f2 f3 hbx hb5
      go_wp2_with fail
      refine (list_any w5 S R p m HF5.out hb).mono ?_
      rintro e w6 ⟨a,c,rfl,h1,h2,h3,h4,h5⟩
      have hT6:=Turned.no HQ.out (HB5.out.trans (h5.mono HB5.out.size))
      have HT6:=Lib.hid hT6
      obtain ⟨d0,d1,d2,d3,g0,g1,g2,g3⟩:=file_cells hT6.2
      simp only at d0 d1 d2 d3
      clear h1 h2 h3 h4 h5 hT6
      by_cases hN:63 < (numsF false m.files).length
      · have HE:Hid (makeG (numsF false m.files).length ⟨n,false,k,nw,sf⟩=(6,⟨n,false,k,nw,sf⟩)):=by show _=_;simp [makeG,HL.out,hN]
        go_wp2
        go_ret
        rw [HE.out]
        exact ⟨rfl,HT6.out⟩
      · have HE:Hid (makeG (numsF false m.files).length ⟨n,false,k,nw,sf⟩=(0,⟨n,true,k,nw,sf⟩)):=by show _=_;simp [makeG,HL.out,hN]
        go_wp2
        go_ret
        rw [HE.out]
        exact ⟨rfl,HT6.out.1.trans (turn_at _ q 0 _),set_heap HT6.out.2 0 _⟩
    · have HL:=Lib.hid hl;clear hl
      rw [HL.out] at HU
      have HE:Hid (makeG (numsF false m.files).length ⟨n,false,k,nw,sf⟩=(9,⟨n,false,k,nw,sf⟩)):=by show _=_;simp [makeG,HL.out]
      rw [HE.out]
      go_enter Tryz.func29,Tryz.ntmps29
      go_wp2_with fail
      refine (HU.out _).mono ?_
      rintro e w5 ⟨rfl,hb5⟩
      go_wp2
      go_ret
      exact ⟨rfl,Turned.no HQ.out hb5⟩
  · have HE:Hid (makeG (numsF false m.files).length ⟨n,true,k,nw,sf⟩=(9,⟨n,true,k,nw,sf⟩)):=by show _=_;simp [makeG]
    rw [HE.out]
    go_enter Tryz.func29,Tryz.ntmps29
    go_wp2
    go_ret
    exact ⟨rfl,Turned.no HQ.out (Below.refl _ _)⟩
end Go.Proofs.YtccbpngehedbaaaGreat

namespace Go.Proofs.YtccbpngehedbaaaGreat
open Go Go.RowKit Go.Maps Go.Sort

/-! The landed file system: what Append and Truncate make of a file. -/
theorem string_grown {W:World} {a:Option Addr} (c:Nat) {l:List UInt8} (h:Rd W W.heap.size a (bV l)) :
    ∀ d os,(convert 38 9 (.slice a l.length c)).run Tryz.prog (grow (redrawn W d) os)=.ok (.string (bs l)) (grow (redrawn W d) os):=fun d os =>
  run_string_rd (P:=Tryz.prog) _ 38 9 5 Tryz.underlying38 Tryz.underlying5 Tryz.underlying9 l.length c ((h.below (below_regrown W d os)).more (below_regrown W d os).size) rfl
set_option maxRecDepth 20000 in
set_option maxHeartbeats 4000000 in
theorem append1_any (x:Fl) (q bx:Nat) (fl:Bool) (w:World) (a:Option Addr) (c:Nat) (b:List UInt8) (hq:w.heap[q]?=some (.cells (flC x) 82)) (hbx:w.cell? ⟨bx,0,none⟩=some (.slice a b.length c)) (hr:Rd w w.heap.size a (bV b)) (hbl:b.length≤1000000000) (hsz:x.now.size≤1000000000) :
    Calls Tryz.prog 32 #[.pointer (some ⟨q,0,none⟩),.bool fl,.pointer (some ⟨bx,0,none⟩)] w fun e w'=>e=.returned (.int .i64 (moreG (bs b) x).1)∧Turned w w' q (moreG (bs b) x).2:=by
  obtain ⟨n,t,k,nw,sf⟩:=x
  obtain ⟨c0,c1,c2,c3,f0,f1,f2,f3⟩:=file_cells hq
  simp only at c0 c1 c2 c3 hsz
  have HQ:=Lib.hid hq;clear hq
  have hadd:∀ w,(Op.stringOp .add nw (bs b)).run Tryz.prog w=.ok (.string (nw ++ bs b)) w:=fun w=>run_string_add_sum w _ _ (by rw [bs_size];omega)
  cases t
  · go_enter Tryz.func32,Tryz.ntmps32
    go_wp2
    go_ret
    exact ⟨rfl,Turned.no HQ.out (Below.refl _ _)⟩
  · go_enter Tryz.func32,Tryz.ntmps32
    go_wp2_with fail
    have k1:=fun d os=>cell_regrown c1 d os
    have k2:=fun d os=>cell_regrown hbx d os
    have kc:=string_grown c hr
    clear c0 c1 c2 c3 f0 f1 f2 f3 hbx hr
    refine wp_region_below_tail 8 (by kernel_rfl) (by kernel_rfl) ?_
    simp only [List.take_succ_cons,List.take_zero,List.drop_succ_cons,List.drop_zero]
    iterate 8 (first | go_big_quiet_step (fail) | fail)
    refine wpQuiet_nil ?_
    intro W3 hw'
    obtain ⟨⟨d,os⟩,hw''⟩:=hw'
    have hb3:=below_regrown w d os
    rw [← hw''] at hb3
    clear hw'' k1 k2 kc
    have hT3:=Turned.no HQ.out hb3
    have HT3:=Lib.hid hT3
    obtain ⟨c0,c1,c2,c3,f0,f1,f2,f3⟩:=file_cells hT3.2
    simp only at c0 c1 c2 c3
    clear hT3 hb3
    go_wp2
    go_ret
    exact ⟨rfl,HT3.out.1.trans (turn_at _ q 1 _),set_heap HT3.out.2 1 _⟩
set_option maxRecDepth 20000 in
set_option maxHeartbeats 4000000 in
theorem trunc1_any (x : Fl) (q bx : Nat) (fl : Bool) (w : World) (s : Int) (hq : w.heap[q]? = some (.cells (flC x) 82)) (hbx : w.cell? ⟨bx, 0, none⟩ = some (.int .i64 s)) (h1 : -9223372036854775808 ≤ s) (h2 : s ≤ 9223372036854775807) (hsz : x.now.size ≤ 1000000000) :
    Calls Tryz.prog 155 #[.pointer (some ⟨q,0,none⟩),.bool fl,.pointer (some ⟨bx,0,none⟩)] w fun e w'=>e=.returned (.int .i64 (lessG s x).1)∧Turned w w' q (lessG s x).2:=by
  obtain ⟨n,t,k,nw,sf⟩:=x
  obtain ⟨c0,c1,c2,c3,f0,f1,f2,f3⟩:=file_cells hq
  simp only at c0 c1 c2 c3 hsz
  have HQ:=Lib.hid hq;clear hq
  cases t
  · go_enter Tryz.func155,Tryz.ntmps155
    go_wp2
    go_ret
    exact ⟨rfl,Turned.no HQ.out (Below.refl _ _)⟩
  · by_cases hs:s < 0
    · have HE:Hid (lessG s ⟨n,true,k,nw,sf⟩=(4,⟨n,true,k,nw,sf⟩)):=by show _=_;simp [lessG,hs]
      have d0:decide (s < 0)=true:=decide_eq_true hs
      go_enter Tryz.func155,Tryz.ntmps155
      go_wp2_with fail
      have k1:=fun d os=>cell_regrown c1 d os
      have k2:=fun d os=>cell_regrown hbx d os
      clear c0 c1 c2 c3 f0 f1 f2 f3 hbx
      refine wp_region_quiet_below (by kernel_rfl) (by kernel_rfl) ?_
      iterate 13 (first | go_big_quiet_step (fail) | fail)
      refine wpQuiet_nil ?_
      intro W3 hw'
      obtain ⟨⟨d,os⟩,hw''⟩:=hw'
      have hb3:=below_regrown w d os
      rw [← hw''] at hb3
      clear hw'' k1 k2
      have HB3:=Lib.hid hb3;clear hb3
      go_wp2
      go_ret
      rw [HE.out]
      exact ⟨rfl,Turned.no HQ.out HB3.out⟩
    · have hsn:(0:Int)≤s:=by omega
      have d0:decide (s < 0)=false:=decide_eq_false hs
      by_cases hg:(nw.size:Int) < s
      · have HE:Hid (lessG s ⟨n,true,k,nw,sf⟩=(4,⟨n,true,k,nw,sf⟩)):=by show _=_;simp [lessG,hg]
        have d1:decide ((nw.size:Int) < s)=true:=decide_eq_true hg
        go_enter Tryz.func155,Tryz.ntmps155
        go_wp2_with fail
        have k1:=fun d os=>cell_regrown c1 d os
        have k2:=fun d os=>cell_regrown hbx d os
        clear c0 c1 c2 c3 f0 f1 f2 f3 hbx
        refine wp_region_quiet_below (by kernel_rfl) (by kernel_rfl) ?_
        iterate 13 (first | go_big_quiet_step (fail) | fail)
        refine wpQuiet_nil ?_
        intro W3 hw'
        obtain ⟨⟨d,os⟩,hw''⟩:=hw'
        have hb3:=below_regrown w d os
        rw [← hw''] at hb3
        clear hw'' k1 k2
        have HB3:=Lib.hid hb3;clear hb3
        go_wp2
        go_ret
        rw [HE.out]
        exact ⟨rfl,Turned.no HQ.out HB3.out⟩
      · have HE:Hid (lessG s ⟨n,true,k,nw,sf⟩=(0,cutF ⟨n,true,k,nw,sf⟩ s.toNat)):=by show _=_;simp [lessG,hg,hs]
        have d1:decide ((nw.size:Int) < s)=false:=decide_eq_false hg
        have i1:s≤(nw.size:Int):=by omega
        go_enter Tryz.func155,Tryz.ntmps155
        go_wp2_with fail
        have k1:=fun d os=>cell_regrown c1 d os
        have k2:=fun d os=>cell_regrown hbx d os
        clear c0 c2 c3 f0 f1 f2 f3
        refine wp_region_quiet_below (by kernel_rfl) (by kernel_rfl) ?_
        iterate 13 (first | go_big_quiet_step (fail) | fail)
        refine wpQuiet_nil ?_
        intro W3 hw'
        obtain ⟨⟨d,os⟩,hw''⟩:=hw'
        have hb3:=below_regrown w d os
        rw [← hw''] at hb3
        have q2:=k2 d os
        rw [← hw''] at q2
        clear hw'' k1 k2 c1 hbx
        have hT3:=Turned.no HQ.out hb3
        have HT3:=Lib.hid hT3
        obtain ⟨c0,c1,c2,c3,f0,f1,f2,f3⟩:=file_cells hT3.2
        simp only at c0 c1 c2 c3
        clear hT3 hb3
        go_wp2_with fail
        have k1:=fun d os=>cell_regrown c1 d os
        have k2:=fun d os=>cell_regrown q2 d os
        clear c0 c1 c2 c3 f0 f1 f2 f3 q2
        refine wp_region_below_tail 8 (by kernel_rfl) (by kernel_rfl) ?_
        simp only [List.take_succ_cons,List.take_zero,List.drop_succ_cons,List.drop_zero]
        iterate 8 (first | go_big_quiet_step (fail) | fail)
        refine wpQuiet_nil ?_
        intro W5 hw'
        obtain ⟨⟨d,os⟩,hw''⟩:=hw'
        have hb5:=below_regrown W3 d os
        rw [← hw''] at hb5
        clear hw'' k1 k2
        have hT5:=Turned.no HT3.out.2 hb5
        have HT5:=Lib.hid hT5
        obtain ⟨c0,c1,c2,c3,f0,f1,f2,f3⟩:=file_cells hT5.2
        simp only at c0 c1 c2 c3
        clear hT5 hb5
        go_wp2
        go_ret
        rw [HE.out]
        exact ⟨rfl,(HT3.out.1.trans HT5.out.1).trans (turn_at _ q 1 _),set_heap HT5.out.2 1 _⟩
end Go.Proofs.YtccbpngehedbaaaGreat

namespace Go.Proofs.YtccbpngehedbaaaGreat
open Go Go.RowKit Go.Maps Go.Sort Go.Shelf

/-! The landed file system: an act. -/
def actG (m:FSm) (n:Nat) (g:Bool→Fl→Int × Fl):FSm × Int :=
  if m.down=true then (m,7) else
    if (g (decide (m.fuse=0)) (getF m.files n)).1 ≠ 0 then (m,(g (decide (m.fuse=0)) (getF m.files n)).1) else
      if m.fuse=0 then ({ m with files:=putF m.files (g (decide (m.fuse=0)) (getF m.files n)).2,down:=true },7)
      else ({ m with files:=putF m.files (g (decide (m.fuse=0)) (getF m.files n)).2,fuse:=if 0 < m.fuse then m.fuse - 1 else m.fuse },0)
theorem FsL.fall {w:World} {S R:Nat→Prop} {p:Nat} {m:FSm} (h:FsL w S R p m):FsL (w.setCell ⟨p,2,none⟩ (.bool true)) S R p { m with down:=true }∧Off S w (w.setCell ⟨p,2,none⟩ (.bool true)):=by
  obtain ⟨b,fu,hne,hS,hR,hp,ho,h1,h2,h3,ok⟩:=h
  exact ⟨⟨b,fu,hne,hS,hR,set_heap hp 2 _,owns_move ho (set_other _ _ hne),h1,h2,h3,ok⟩,set_off S w p 2 _ ((hS p).2 (.inl rfl))⟩
theorem FsL.burn {w:World} {S R:Nat→Prop} {p:Nat} {m:FSm} (h:FsL w S R p m) (hf:0 < m.fuse):FsL (w.setCell ⟨p,1,none⟩ (.int .i64 (m.fuse - 1))) S R p { m with fuse:=m.fuse - 1 }∧Off S w (w.setCell ⟨p,1,none⟩ (.int .i64 (m.fuse - 1))):=by
  obtain ⟨b,fu,hne,hS,hR,hp,ho,h1,h2,h3,ok⟩:=h
  refine ⟨⟨b,m.fuse - 1,hne,hS,hR,set_heap hp 1 _,owns_move ho (set_other _ _ hne),by omega,by omega,?_,ok.1,ok.2.1,?_,?_⟩,set_off S w p 1 _ ((hS p).2 (.inl rfl))⟩
  · show m.fuse - 1=max (m.fuse - 1) (-1);omega
  · show -1≤m.fuse - 1;omega
  · show m.fuse - 1≤_;omega
theorem FsL.cells {w:World} {S R:Nat→Prop} {p:Nat} {m:FSm} (h:FsL w S R p m):∃ b fu,w.cell? ⟨p,0,none⟩=some (.map (some b))∧w.cell? ⟨p,1,none⟩=some (.int .i64 fu)∧w.cell? ⟨p,2,none⟩=some (.bool m.down) ∧
    w.frozen? ⟨p,1,none⟩=false∧w.frozen? ⟨p,2,none⟩=false∧w.ownsMap Tryz.prog 22 fileR b m.files.length (dF m.files)∧-9223372036854775808≤fu∧fu≤9223372036854775807∧m.fuse=max fu (-1)∧p < w.heap.size∧S p:=by
  obtain ⟨b,fu,hne,hS,hR,hp,ho,h1,h2,h3,ok⟩:=h
  exact ⟨b,fu,cells_cell hp rfl,cells_cell hp rfl,cells_cell hp rfl,cells_frozen hp 1,cells_frozen hp 2,ho,h1,h2,h3,(Array.getElem?_eq_some_iff.1 hp).1,(hS p).2 (.inl rfl)⟩
set_option maxRecDepth 20000 in
set_option maxHeartbeats 4000000 in
theorem act_any (fv : Value) (K : FuncId) (caps : Array Value) (hfv : fv = .func (.func K) #[] caps) (hen : ∀ args w, (callFunc K args).run Tryz.prog w = .ok (.enter K args) w) (g : Bool → Fl → Int × Fl)
    (w:World) (S R:Nat→Prop) (p:Nat) (m:FSm) (n:Nat) (hF:FsL w S R p m) (hb:m.files.length≤1000000000) (hn:n < 4294967296) (hgn:∀ fl x,(g fl x).2.n=x.n) (hgx:∀ fl x,OkX x→OkX (g fl x).2)
    (hc:∀ fl W q,Below w.heap.size w W→w.heap.size≤q→W.heap[q]?=some (.cells (flC (getF m.files n)) 82) →
      Calls Tryz.prog K (#[.pointer (some ⟨q,0,none⟩),.bool fl] ++ caps) W fun e W'=>e=.returned (.int .i64 (g fl (getF m.files n)).1)∧Turned W W' q (g fl (getF m.files n)).2) :
    Calls Tryz.prog 28 #[.pointer (some ⟨p,0,none⟩),.int .u32 (n:Int),fv] w fun e w'=>e=.returned (.int .i64 (actG m n g).2)∧FsL w' S R p (actG m n g).1∧Off S w w':=by
  subst hfv
  have HEN:=Lib.hid hen;have HGN:=Lib.hid hgn;have HGX:=Lib.hid hgx;have HC:=Lib.hid hc;have HF:=Lib.hid hF
  clear hen hgn hgx hc
  obtain ⟨b,fu,c0,c1,c2,f1,f2,ho,h1,h2,h3,hpl,hSp⟩:=hF.cells
  have HO:=Lib.hid ho;have H3:=Lib.hid h3
  clear hF h3
  cases hd:m.down
  case true =>
    rw [hd] at c2
    have HE:Hid (actG m n g=(m,7)):=by show _=_;unfold actG;rw [if_pos hd]
    clear hd ho
    go_enter Tryz.func28,Tryz.ntmps28
    go_wp2
    go_ret
    rw [HE.out]
    exact ⟨rfl,HF.out,Off.refl _ _⟩
  case false =>
  rw [hd] at c2
  have hlk:=fun w' (h:RowKit.Below w.heap.size w w')=>look_any (owns_move ho (h.block b ho.lt)) HF.out.ok.1 hn
  have hgx:=get_okx HF.out.ok.2.1 n
  have hgn:=getF_n m.files n
  obtain ⟨x,hx⟩:∃ x,x=getF m.files n:=⟨_,rfl⟩
  rw [← hx] at hlk hgx hgn
  have HGX2:=Lib.hid hgx;have HGN2:=Lib.hid hgn
  have HC2:Hid (∀ fl W q,RowKit.Below w.heap.size w W→w.heap.size≤q→W.heap[q]?=some (.cells (flC x) 82) →
      Calls Tryz.prog K (#[.pointer (some ⟨q,0,none⟩),.bool fl] ++ caps) W fun e W'=>e=.returned (.int .i64 (g fl x).1)∧Turned W W' q (g fl x).2):=by rw [hx];exact HC.out
  have HA:Hid (actG m n g=if (g (fu == 0) x).1 ≠ 0 then (m,(g (fu == 0) x).1) else
      if fu=0 then ({ m with files:=putF m.files (g (fu == 0) x).2,down:=true },7)
      else ({ m with files:=putF m.files (g (fu == 0) x).2,fuse:=if 0 < m.fuse then m.fuse - 1 else m.fuse },0)):=by
    show _=_
    have e:(m.fuse=0)=(fu=0):=by have:=H3.out;simp only [eq_iff_iff];omega
    unfold actG
    rw [if_neg (by rw [hd];simp),← hx]
    simp only [e]
    rfl
  clear hx hgx hgn hd HC ho
  obtain ⟨er,y,hey⟩:∃ er y,g (fu == 0) x=(er,y):=⟨_,_,rfl⟩
  rw [hey] at HA
  have HC3:Hid (∀ W q,RowKit.Below w.heap.size w W→w.heap.size≤q→W.heap[q]?=some (.cells (flC x) 82) →
      Calls Tryz.prog K (#[.pointer (some ⟨q,0,none⟩),.bool (fu == 0)] ++ caps) W fun e W'=>e=.returned (.int .i64 er)∧Turned W W' q y):=fun W q h1 h2 h3=>by
    have:=HC2.out (fu == 0) W q h1 h2 h3
    rw [hey] at this
    exact this
  have HY:Hid (y.n=n∧OkX y):=by
    have e1:=HGN.out (fu == 0) x;have e2:=HGX.out (fu == 0) x HGX2.out
    rw [hey] at e1 e2
    exact ⟨e1.trans HGN2.out,e2⟩
  clear hey HC2 HGN HGX HGX2 HGN2
  have k0:∀ w',RowKit.Below w.heap.size w w'→w'.cell? ⟨p,0,none⟩=some (.map (some b)):=fun w' h=>(h.cell (p:=⟨p,0,none⟩) hpl).trans c0
  have k1:∀ w',RowKit.Below w.heap.size w w'→w'.cell? ⟨p,1,none⟩=some (.int .i64 fu):=fun w' h=>(h.cell (p:=⟨p,1,none⟩) hpl).trans c1
  have hcf:=HEN.out
  unfold flV at hlk
  obtain ⟨W,hW⟩:∃ W,W=(w.alloc (.cells (flC x) 82)).drew:=⟨_,rfl⟩
  have HBW:Hid (RowKit.Below w.heap.size w W):=by show RowKit.Below _ _ _;rw [hW];exact Below_drew (box1 _ _)
  have HQW:Hid (W.heap[w.heap.size]?=some (.cells (flC x) 82)):=by show _=_;rw [hW];exact (MapKept.heap_alloc w _).1
  have HFW:=Lib.hid (HF.out.below HBW.out)
  unfold flC at hW
  by_cases her:er=0
  case neg =>
    have HE:Hid (actG m n g=(m,er)):=by show _=_;rw [HA.out,if_pos her]
    clear HA
    go_enter Tryz.func28,Tryz.ntmps28
    go_wp2_with fail
    go_region_held_law (fun w'=>RowKit.Below w.heap.size w w') (first | assumption | exact Below_drew (Below.refl _ _) | exact (Below_drew (Below.refl _ _)).alloc (by simp) _) (fail)
    all_goals
      rw [← hW]
      clear hW hlk k0 k1
      go_wp2_with fail
      refine (HC3.out W w.heap.size HBW.out (Nat.le_refl _) HQW.out).mono ?_
      rintro e w5 ⟨rfl,hT⟩
      have HT:=Lib.hid hT
      clear hT
      go_wp2_with fail
      go_ret
      rw [HE.out]
      exact ⟨rfl,HFW.out.move fun k hk=>HT.out.1.block k (hk.elim (HFW.out.low.1 k) (HFW.out.low.2 k)) (fun e=>by
        have:=hk.elim (HF.out.low.1 k) (HF.out.low.2 k);omega),(Off.of_below HBW.out).new HT.out.1 (fun k hk=>.inr (Nat.le_of_eq hk.symm))⟩
  case pos =>
    subst her
    have HA2:Hid (actG m n g=if fu=0 then ({ m with files:=putF m.files y,down:=true },7) else ({ m with files:=putF m.files y,fuse:=if 0 < m.fuse then m.fuse - 1 else m.fuse },0)):=by
      show _=_;rw [HA.out];simp
    clear HA
    by_cases hf0:fu=0
    · subst hf0
      have HE:Hid (actG m n g=({ m with files:=putF m.files y,down:=true },7)):=by show _=_;rw [HA2.out];simp
      clear HA2
      go_enter Tryz.func28,Tryz.ntmps28
      go_wp2_with fail
      go_region_held_law (fun w'=>RowKit.Below w.heap.size w w') (first | assumption | exact Below_drew (Below.refl _ _) | exact (Below_drew (Below.refl _ _)).alloc (by simp) _) (fail)
      all_goals
        rw [← hW]
        clear hW hlk k0 k1
        go_wp2_with fail
        refine (HC3.out W w.heap.size HBW.out (Nat.le_refl _) HQW.out).mono ?_
        rintro e w5 ⟨rfl,hT⟩
        have HT:=Lib.hid hT
        have HF5:=Lib.hid (HFW.out.move fun k hk=>HT.out.1.block k (hk.elim (HFW.out.low.1 k) (HFW.out.low.2 k)) (fun e=>by
          have:=hk.elim (HF.out.low.1 k) (HF.out.low.2 k);omega))
        have HO5:Hid (Off S w w5):=(Off.of_below HBW.out).new HT.out.1 (fun k hk=>.inr (Nat.le_of_eq hk.symm))
        obtain ⟨e0,e1,e2,e3,_⟩:=file_cells hT.2
        clear hT
        go_wp2_with fail
        refine (show Calls Tryz.prog 53 #[.pointer (some ⟨p,0,none⟩),.int .u32 (n:Int),flV y] w5 _ from by
          have:=putK_any w5 S R p m y HF5.out HY.out.2 (by rw [HY.out.1];exact hn) hb
          rw [HY.out.1] at this
          exact this).mono ?_
        rintro e w6 ⟨rfl,hF6,hO6⟩
        have HF6:=Lib.hid hF6;have HO6:=Lib.hid hO6
        obtain ⟨b6,fu6,d0,d1,d2,g1,g2,_⟩:=hF6.cells
        clear hF6 hO6 e0 e1 e2 e3
        go_wp2
        go_ret
        rw [HE.out]
        exact ⟨rfl,HF6.out.fall.1,(HO5.out.trans HO6.out).trans HF6.out.fall.2⟩
    · by_cases hp0:0 < fu
      · have HE:Hid (actG m n g=({ m with files:=putF m.files y,fuse:=m.fuse - 1 },0)):=by
          show _=_
          have:=H3.out
          rw [HA2.out,if_neg hf0,if_pos (by omega)]
        have hmf:fu=m.fuse:=by have:=H3.out;omega
        have HMF:=Lib.hid hmf;clear hmf
        have hne0:(fu == 0)=false:=beq_eq_false_iff_ne.2 hf0
        rw [hne0] at HC3
        clear HA2
        go_enter Tryz.func28,Tryz.ntmps28
        go_wp2_with fail
        go_region_held_law (fun w'=>RowKit.Below w.heap.size w w') (first | assumption | exact Below_drew (Below.refl _ _) | exact (Below_drew (Below.refl _ _)).alloc (by simp) _) (fail)
        all_goals
          rw [← hW]
          clear hW hlk k0 k1
          go_wp2_with fail
          refine (HC3.out W w.heap.size HBW.out (Nat.le_refl _) HQW.out).mono ?_
          rintro e w5 ⟨rfl,hT⟩
          have HT:=Lib.hid hT
          have HF5:=Lib.hid (HFW.out.move fun k hk=>HT.out.1.block k (hk.elim (HFW.out.low.1 k) (HFW.out.low.2 k)) (fun e=>by
            have:=hk.elim (HF.out.low.1 k) (HF.out.low.2 k);omega))
          have HO5:Hid (Off S w w5):=(Off.of_below HBW.out).new HT.out.1 (fun k hk=>.inr (Nat.le_of_eq hk.symm))
          obtain ⟨e0,e1,e2,e3,_⟩:=file_cells hT.2
          clear hT
          go_wp2_with fail
          refine (show Calls Tryz.prog 53 #[.pointer (some ⟨p,0,none⟩),.int .u32 (n:Int),flV y] w5 _ from by
            have:=putK_any w5 S R p m y HF5.out HY.out.2 (by rw [HY.out.1];exact hn) hb
            rw [HY.out.1] at this
            exact this).mono ?_
          rintro e w6 ⟨rfl,hF6,hO6⟩
          have HF6:=Lib.hid hF6;have HO6:=Lib.hid hO6
          obtain ⟨b6,fu6,d0,d1,d2,g1,g2,_,_,_,q3,_⟩:=hF6.cells
          clear hF6 hO6 e0 e1 e2 e3
          have e6:fu6=fu:=by have h1:=q3;have h2:=HMF.out;simp only at h1;omega
          subst e6
          have i1:-9223372036854775808≤fu6 - 1:=by omega
          have i2:fu6 - 1≤9223372036854775807:=by omega
          clear q3
          go_wp2
          go_ret
          rw [HE.out]
          have hb:=HF6.out.burn (by show 0 < m.fuse;rw [← HMF.out];exact hp0)
          simp only [← HMF.out] at hb
          have HM:=HMF.out
          rw [← HMF.out]
          exact ⟨rfl,hb.1,(HO5.out.trans HO6.out).trans hb.2⟩
      · have HE:Hid (actG m n g=({ m with files:=putF m.files y },0)):=by
          show _=_
          have:=H3.out
          rw [HA2.out,if_neg hf0,if_neg (by omega)]
        have hne0:(fu == 0)=false:=beq_eq_false_iff_ne.2 hf0
        rw [hne0] at HC3
        clear HA2
        go_enter Tryz.func28,Tryz.ntmps28
        go_wp2_with fail
        go_region_held_law (fun w'=>RowKit.Below w.heap.size w w') (first | assumption | exact Below_drew (Below.refl _ _) | exact (Below_drew (Below.refl _ _)).alloc (by simp) _) (fail)
        all_goals
          rw [← hW]
          clear hW hlk k0 k1
          go_wp2_with fail
          refine (HC3.out W w.heap.size HBW.out (Nat.le_refl _) HQW.out).mono ?_
          rintro e w5 ⟨rfl,hT⟩
          have HT:=Lib.hid hT
          have HF5:=Lib.hid (HFW.out.move fun k hk=>HT.out.1.block k (hk.elim (HFW.out.low.1 k) (HFW.out.low.2 k)) (fun e=>by
            have:=hk.elim (HF.out.low.1 k) (HF.out.low.2 k);omega))
          have HO5:Hid (Off S w w5):=(Off.of_below HBW.out).new HT.out.1 (fun k hk=>.inr (Nat.le_of_eq hk.symm))
          obtain ⟨e0,e1,e2,e3,_⟩:=file_cells hT.2
          clear hT
          go_wp2_with fail
          refine (show Calls Tryz.prog 53 #[.pointer (some ⟨p,0,none⟩),.int .u32 (n:Int),flV y] w5 _ from by
            have:=putK_any w5 S R p m y HF5.out HY.out.2 (by rw [HY.out.1];exact hn) hb
            rw [HY.out.1] at this
            exact this).mono ?_
          rintro e w6 ⟨rfl,hF6,hO6⟩
          have HF6:=Lib.hid hF6;have HO6:=Lib.hid hO6
          obtain ⟨b6,fu6,d0,d1,d2,g1,g2,_,_,_,q3,_⟩:=hF6.cells
          clear hF6 hO6 e0 e1 e2 e3
          have e6:¬ 0 < fu6:=by have h1:=q3;have h2:=H3.out;simp only at h1;omega
          clear q3
          go_wp2
          go_ret
          rw [HE.out]
          exact ⟨rfl,HF6.out,HO5.out.trans HO6.out⟩
end Go.Proofs.YtccbpngehedbaaaGreat

namespace Go.Proofs.YtccbpngehedbaaaGreat
open Go Go.RowKit Go.Maps Go.Sort Go.Shelf

/-! The landed file system: Create, Append, Truncate, Sync, Remove. -/
theorem actG_down {m:FSm} {n:Nat} {g:Bool→Fl→Int × Fl} (h:m.down=true):actG m n g=(m,7):=by unfold actG;rw [if_pos h]
theorem actG_no {m:FSm} {n:Nat} {g:Bool→Fl→Int × Fl} (h:m.down=false) {e:Int} (he:(g (decide (m.fuse=0)) (getF m.files n)).1=e) (h0:e ≠ 0):actG m n g=(m,e):=by
  unfold actG;rw [if_neg (by rw [h];simp),he,if_pos h0]
theorem actG_yes {m:FSm} {n:Nat} {g:Bool→Fl→Int × Fl} (h:m.down=false) {y:Fl} (he:g (decide (m.fuse=0)) (getF m.files n)=(0,y)):actG m n g=actF m y false:=by
  unfold actG actF
  rw [if_neg (by rw [h];simp),he,if_neg (by simp)]
  simp
theorem create_is {m : FSm} (ok : m.Ok) (n : Nat) : actG m n (fun _ x => makeG (numsF false m.files).length x) = createF m n := by
  unfold createF
  cases hd:m.down
  · rw [if_neg (by simp)]
    have hx:=get_okx ok.2.1 n
    have hn:=getF_n m.files n
    by_cases h1:(getF m.files n).there=true∨looseF (getF m.files n)=true
    · rw [if_pos h1,actG_no hd (e:=9) (by simp only [makeG,if_pos h1]) (by decide)]
    · rw [if_neg h1]
      by_cases h2:63 < (numsF false m.files).length
      · rw [if_pos h2,actG_no hd (e:=6) (by simp only [makeG,if_neg h1,if_pos h2]) (by decide)]
      · rw [if_neg h2]
        refine actG_yes hd ?_
        simp only [makeG,if_neg h1,if_neg h2]
        generalize getF m.files n=x at *
        obtain ⟨xn,t,k,nw,sf⟩:=x
        obtain ⟨hx1,hx2⟩:=hx
        simp only [not_or,Bool.not_eq_true] at h1 hn hx1 hx2
        obtain ⟨rfl,h1⟩:=h1
        have hk:k=false:=by
          cases k
          · rfl
          · simp [looseF] at h1
        subst hk;subst hn
        rw [hx1 rfl,hx2 rfl]
  · rw [if_pos rfl,actG_down hd]
theorem append_is (m:FSm) (n:Nat) (b:ByteArray):actG m n (fun _ x=>moreG b x)=appendF m n b:=by
  unfold appendF
  cases hd:m.down
  · rw [if_neg (by simp)]
    cases h1:(getF m.files n).there
    · rw [if_pos rfl,actG_no hd (e:=5) (by simp [moreG,h1]) (by decide)]
    · rw [if_neg (by simp),actG_yes hd]
      simp [moreG,h1]
  · rw [if_pos rfl,actG_down hd]
theorem trunc_is (m : FSm) (n : Nat) (s : Int) : actG m n (fun _ x => lessG s x) = truncF m n s := by
  unfold truncF
  cases hd:m.down
  · rw [if_neg (by simp)]
    cases h1:(getF m.files n).there
    · rw [if_pos rfl,actG_no hd (e:=5) (by simp [lessG,h1]) (by decide)]
    · rw [if_neg (by simp)]
      by_cases h2:s < 0∨((getF m.files n).now.size:Int) < s
      · rw [if_pos h2,actG_no hd (e:=4) (by simp [lessG,h1,h2]) (by decide)]
      · rw [if_neg h2,actG_yes hd]
        simp [lessG,h1,h2]
  · rw [if_pos rfl,actG_down hd]
theorem sync_is {m : FSm} (ok : m.Ok) (n : Nat) : actG m n (fun fl x => safeG fl x) = syncF m n := by
  unfold syncF
  cases hd:m.down
  · rw [if_neg (by simp)]
    by_cases h1:(getF m.files n).there=false∧looseF (getF m.files n)=false
    · rw [if_pos h1,actG_no hd (e:=5) (by simp [safeG,h1.1,h1.2]) (by decide)]
    · rw [if_neg h1]
      have h2:(getF m.files n).there=true∨looseF (getF m.files n)=true:=by
        cases e1:(getF m.files n).there <;> cases e2:looseF (getF m.files n) <;> simp_all
      by_cases hf:m.fuse=0
      · rw [actG_yes hd (y:=getF m.files n) (by simp [safeG,h2,hf])]
        unfold actF
        rw [if_pos hf,if_pos hf,putF_same ok.1 (has_all ok)]
        rfl
      · rw [actG_yes hd (y:=syncedF (getF m.files n)) (by simp [safeG,h2,hf])]
        unfold actF
        rw [if_neg hf,if_neg hf]
  · rw [if_pos rfl,actG_down hd]
theorem remove_is (m:FSm) (n:Nat):actG m n (fun _ x=>awayG x)=removeF m n:=by
  unfold removeF
  cases hd:m.down
  · rw [if_neg (by simp)]
    cases h1:(getF m.files n).there
    · rw [if_pos rfl,actG_no hd (e:=5) (by simp [awayG,h1]) (by decide)]
    · rw [if_neg (by simp),actG_yes hd]
      simp [awayG,h1]
  · rw [if_pos rfl,actG_down hd]
theorem makeG_n (k:Nat) (x:Fl):(makeG k x).2.n=x.n:=by unfold makeG;split <;> (try split) <;> rfl
theorem moreG_n (b:ByteArray) (x:Fl):(moreG b x).2.n=x.n:=by unfold moreG;split <;> rfl
theorem lessG_n (s:Int) (x:Fl):(lessG s x).2.n=x.n:=by unfold lessG;split <;> (try split) <;> rfl
theorem safeG_n (fl:Bool) (x:Fl):(safeG fl x).2.n=x.n:=by unfold safeG;split <;> cases fl <;> rfl
theorem awayG_n (x:Fl):(awayG x).2.n=x.n:=by unfold awayG;split <;> rfl
theorem makeG_ok (k:Nat) {x:Fl} (h:OkX x):OkX (makeG k x).2:=by
  unfold makeG;split
  · exact h
  · split
    · exact h
    · exact ⟨fun e=>(by cases e),h.2⟩
theorem moreG_ok (b:ByteArray) {x:Fl} (h:OkX x):OkX (moreG b x).2:=by
  unfold moreG;split
  · rename_i ht;exact ⟨fun e=>(by simp only [appF] at e;rw [ht] at e;cases e),h.2⟩
  · exact h
theorem lessG_ok (s:Int) {x:Fl} (h:OkX x):OkX (lessG s x).2:=by
  unfold lessG;split
  · rename_i ht
    split
    · exact h
    · exact ⟨fun e=>(by simp only [cutF] at e;rw [ht] at e;cases e),h.2⟩
  · exact h
theorem safeG_ok (fl:Bool) {x:Fl} (h:OkX x):OkX (safeG fl x).2:=by
  unfold safeG;split
  · cases fl
    · exact synced_okx h
    · exact h
  · exact h
theorem awayG_ok {x:Fl} (h:OkX x):OkX (awayG x).2:=by
  unfold awayG;split
  · exact ⟨fun _=>rfl,h.2⟩
  · exact h
theorem enters_c:∀ args w,(callFunc 29 args).run Tryz.prog w=.ok (.enter 29 args) w:=enters_of Tryz.func29 (by kernel_rfl) rfl
theorem enters_a:∀ args w,(callFunc 32 args).run Tryz.prog w=.ok (.enter 32 args) w:=enters_of Tryz.func32 (by kernel_rfl) rfl
theorem enters_t:∀ args w,(callFunc 155 args).run Tryz.prog w=.ok (.enter 155 args) w:=enters_of Tryz.func155 (by kernel_rfl) rfl
theorem enters_s:∀ args w,(callFunc 89 args).run Tryz.prog w=.ok (.enter 89 args) w:=enters_of Tryz.func89 (by kernel_rfl) rfl
theorem enters_r:∀ args w,(callFunc 88 args).run Tryz.prog w=.ok (.enter 88 args) w:=enters_of Tryz.func88 (by kernel_rfl) rfl
set_option maxHeartbeats 1000000 in
theorem create_any (w:World) (S R:Nat→Prop) (p:Nat) (m:FSm) (n:Nat) (hF:FsL w S R p m) (hb:m.files.length≤1000000000) (hn:n < 4294967296) :
    Calls Tryz.prog 9 #[.pointer (some ⟨p,0,none⟩),.int .u32 (n:Int)] w fun e w'=>e=.returned (.int .i64 (createF m n).2)∧FsL w' S R p (createF m n).1∧Off S w w':=by
  have HF:=Lib.hid hF;clear hF
  have hb1:=box1 w (.cells #[.pointer (some ⟨p,0,none⟩)] 26)
  have HB1:=Lib.hid hb1
  have HF1:=Lib.hid (HF.out.below hb1)
  have hx:(w.alloc (.cells #[.pointer (some ⟨p,0,none⟩)] 26)).cell? ⟨w.heap.size,0,none⟩=some (.pointer (some ⟨p,0,none⟩)):=by go_simp
  have HX:=Lib.hid hx
  clear hb1 hx
  have hs:w.heap.size < (w.alloc (.cells #[.pointer (some ⟨p,0,none⟩)] 26)).heap.size:=by simp
  go_enter Tryz.func9,Tryz.ntmps9
  go_wp2_with fail
  refine (act_any _ 29 #[.pointer (some ⟨w.heap.size,0,none⟩)] rfl enters_c (fun _ x=>makeG (numsF false m.files).length x) _ S R p m n HF1.out hb hn (fun _ x=>makeG_n _ x) (fun _ x hx=>makeG_ok _ hx) fun fl W q hbW hq hqc =>
    create1_any S R p m hb _ (get_okx HF1.out.ok.2.1 n) q w.heap.size fl W (HF1.out.below hbW) hqc (by rw [hbW.cell (p:=⟨w.heap.size,0,none⟩) hs];exact HX.out)).mono ?_
  rintro e w5 ⟨rfl,h1,h2⟩
  have H1:=Lib.hid h1;have H2:=Lib.hid h2;clear h1 h2
  go_wp2_with fail
  go_ret
  have e:=create_is HF.out.ok n
  rw [← e]
  exact ⟨rfl,H1.out,(Off.of_below HB1.out).trans H2.out⟩
set_option maxHeartbeats 1000000 in
theorem append_any (w:World) (S R:Nat→Prop) (p:Nat) (m:FSm) (n:Nat) (a:Option Addr) (c:Nat) (b:List UInt8) (hF:FsL w S R p m) (hb:Bnd m) (hn:n < 4294967296) (hr:Rd w w.heap.size a (bV b)) (hbl:b.length≤1000000000) :
    Calls Tryz.prog 10 #[.pointer (some ⟨p,0,none⟩),.int .u32 (n:Int),.slice a b.length c] w fun e w'=>e=.returned (.int .i64 (appendF m n (bs b)).2)∧FsL w' S R p (appendF m n (bs b)).1∧Off S w w':=by
  have HF:=Lib.hid hF;clear hF
  have hb1:=box1 w (.cells #[.slice a b.length c] 38)
  have HB1:=Lib.hid hb1
  have HF1:=Lib.hid (HF.out.below hb1)
  have hx:(w.alloc (.cells #[.slice a b.length c] 38)).cell? ⟨w.heap.size,0,none⟩=some (.slice a b.length c):=by go_simp
  have HX:=Lib.hid hx
  have HR:=Lib.hid ((hr.below hb1).more hb1.size)
  clear hb1 hx hr
  have hs:w.heap.size < (w.alloc (.cells #[.slice a b.length c] 38)).heap.size:=by simp
  have HZ:=Lib.hid (get_sz hb.2 n).1
  go_enter Tryz.func10,Tryz.ntmps10
  go_wp2_with fail
  refine (act_any _ 32 #[.pointer (some ⟨w.heap.size,0,none⟩)] rfl enters_a (fun _ x=>moreG (bs b) x) _ S R p m n HF1.out (by have:=hb.1;omega) hn (fun _ x=>moreG_n _ x) (fun _ x hx=>moreG_ok _ hx) fun fl W q hbW hq hqc =>
    append1_any _ q w.heap.size fl W a c b hqc (by rw [hbW.cell (p:=⟨w.heap.size,0,none⟩) hs];exact HX.out) ((HR.out.below hbW).more hbW.size) hbl HZ.out).mono ?_
  rintro e w5 ⟨rfl,h1,h2⟩
  have H1:=Lib.hid h1;have H2:=Lib.hid h2;clear h1 h2
  go_wp2_with fail
  go_ret
  have e:=append_is m n (bs b)
  rw [← e]
  exact ⟨rfl,H1.out,(Off.of_below HB1.out).trans H2.out⟩
set_option maxHeartbeats 1000000 in
theorem trunc_any (w:World) (S R:Nat→Prop) (p:Nat) (m:FSm) (n:Nat) (s:Int) (hF:FsL w S R p m) (hb:Bnd m) (hn:n < 4294967296) (h1:-9223372036854775808≤s) (h2:s≤9223372036854775807) :
    Calls Tryz.prog 127 #[.pointer (some ⟨p,0,none⟩),.int .u32 (n:Int),.int .i64 s] w fun e w'=>e=.returned (.int .i64 (truncF m n s).2)∧FsL w' S R p (truncF m n s).1∧Off S w w':=by
  have HF:=Lib.hid hF;clear hF
  have hb1:=box1 w (.cells #[.int .i64 s] 3)
  have HB1:=Lib.hid hb1
  have HF1:=Lib.hid (HF.out.below hb1)
  have hx:(w.alloc (.cells #[.int .i64 s] 3)).cell? ⟨w.heap.size,0,none⟩=some (.int .i64 s):=by go_simp
  have HX:=Lib.hid hx
  clear hb1 hx
  have hs:w.heap.size < (w.alloc (.cells #[.int .i64 s] 3)).heap.size:=by simp
  have HZ:=Lib.hid (get_sz hb.2 n).1
  go_enter Tryz.func127,Tryz.ntmps127
  go_wp2_with fail
  refine (act_any _ 155 #[.pointer (some ⟨w.heap.size,0,none⟩)] rfl enters_t (fun _ x=>lessG s x) _ S R p m n HF1.out (by have:=hb.1;omega) hn (fun _ x=>lessG_n _ x) (fun _ x hx=>lessG_ok _ hx) fun fl W q hbW hq hqc =>
    trunc1_any _ q w.heap.size fl W s hqc (by rw [hbW.cell (p:=⟨w.heap.size,0,none⟩) hs];exact HX.out) h1 h2 HZ.out).mono ?_
  rintro e w5 ⟨rfl,h1,h2⟩
  have H1:=Lib.hid h1;have H2:=Lib.hid h2;clear h1 h2
  go_wp2_with fail
  go_ret
  have e:=trunc_is m n s
  rw [← e]
  exact ⟨rfl,H1.out,(Off.of_below HB1.out).trans H2.out⟩
set_option maxHeartbeats 1000000 in
theorem sync_any (w:World) (S R:Nat→Prop) (p:Nat) (m:FSm) (n:Nat) (hF:FsL w S R p m) (hb:m.files.length≤1000000000) (hn:n < 4294967296) :
    Calls Tryz.prog 65 #[.pointer (some ⟨p,0,none⟩),.int .u32 (n:Int)] w fun e w'=>e=.returned (.int .i64 (syncF m n).2)∧FsL w' S R p (syncF m n).1∧Off S w w':=by
  have HF:=Lib.hid hF;clear hF
  go_enter Tryz.func65,Tryz.ntmps65
  go_wp2_with fail
  refine (act_any _ 89 #[] rfl enters_s (fun fl x=>safeG fl x) w S R p m n HF.out hb hn (fun _ x=>safeG_n _ x) (fun _ x hx=>safeG_ok _ hx) fun fl W q hbW hq hqc =>
    sync1_any _ (get_okx HF.out.ok.2.1 n) q fl W hqc).mono ?_
  rintro e w5 ⟨rfl,h1,h2⟩
  have H1:=Lib.hid h1;have H2:=Lib.hid h2;clear h1 h2
  go_wp2_with fail
  go_ret
  have e:=sync_is HF.out.ok n
  rw [← e]
  exact ⟨rfl,H1.out,H2.out⟩
set_option maxHeartbeats 1000000 in
theorem remove_any (w:World) (S R:Nat→Prop) (p:Nat) (m:FSm) (n:Nat) (hF:FsL w S R p m) (hb:m.files.length≤1000000000) (hn:n < 4294967296) :
    Calls Tryz.prog 64 #[.pointer (some ⟨p,0,none⟩),.int .u32 (n:Int)] w fun e w'=>e=.returned (.int .i64 (removeF m n).2)∧FsL w' S R p (removeF m n).1∧Off S w w':=by
  have HF:=Lib.hid hF;clear hF
  go_enter Tryz.func64,Tryz.ntmps64
  go_wp2_with fail
  refine (act_any _ 88 #[] rfl enters_r (fun _ x=>awayG x) w S R p m n HF.out hb hn (fun _ x=>awayG_n x) (fun _ x hx=>awayG_ok hx) fun fl W q hbW hq hqc =>
    remove1_any _ q fl W hqc).mono ?_
  rintro e w5 ⟨rfl,h1,h2⟩
  have H1:=Lib.hid h1;have H2:=Lib.hid h2;clear h1 h2
  go_wp2_with fail
  go_ret
  have e:=remove_is m n
  rw [← e]
  exact ⟨rfl,H1.out,H2.out⟩
end Go.Proofs.YtccbpngehedbaaaGreat

