import Derived.Test.YtccbpngehedbaaaGreatJ1
import Derived.Test.YtccbpngehedbaaaGreatJi
import Derived.Test.YtccbpngehedbaaaGreatJv
namespace Go.Proofs.YtccbpngehedbaaaGreat
open Go Go.RowKit Go.Sort

/-! A batch of one span. -/
def oneS (id:Int):Sp:=⟨1,id,0,0,⟨#[97]⟩,⟨#[98]⟩,0,0⟩
def oneB (id:Int):List UInt8:=putB [oneS id]
theorem oneS_may {id:Int} (h:1≤id):mayL [oneS id]=true:=by
  refine mayL_iff.2 ⟨by simp,by simp,fun s hs=>?_⟩
  have hs:s=oneS id:=by simpa using hs
  subst hs
  have h1:nameB (⟨#[97]⟩:ByteArray)=true:=by decide
  have h2:nameB (⟨#[98]⟩:ByteArray)=true:=by decide
  have h3:(id == 0)=false:=by simp;omega
  have h4:((0:Int) == id)=false:=by simp;omega
  unfold mayB nmB tmB oneS
  simp [h1,h2,h3,h4]
theorem oneS_ok {id:Int} (h:1≤id) (h2:id < 18446744073709551616):∀ s ∈ [oneS id],s.Ok:=by
  intro s hs
  have hs:s=oneS id:=by simpa using hs
  subst hs
  have u1:U64 1:=⟨by decide,by decide⟩
  have u0:U64 0:=⟨by decide,by decide⟩
  have k0:U8 0:=⟨by decide,by decide⟩
  have i0:I64 0:=⟨by decide,by decide⟩
  have s1:(⟨#[97]⟩:ByteArray).size≤maxLen:=by decide
  have s2:(⟨#[98]⟩:ByteArray).size≤maxLen:=by decide
  exact ⟨u1,⟨by show 0≤id;omega,h2⟩,u0,k0,s1,s2,i0,i0⟩
theorem oneB_isB {id:Int} (h:1≤id) (h2:id < 18446744073709551616):isB (oneB id)=true:=by
  unfold oneB isB
  rw [(putB_yes (oneS_may h)).1,getW_batch (oneS_may h) (oneS_ok h h2)]
  rfl
set_option maxRecDepth 20000 in
set_option maxHeartbeats 1000000 in
theorem one_any (id:Int) (h1:1≤id) (h2:id < 18446744073709551616) (w:World) :
    Calls Tryz.prog 25 #[.int .u64 id] w fun e w'=>∃ g c,e=.returned (.slice (some ⟨g,0,none⟩) (oneB id).length c)∧(oneB id).length≤c∧c≤maxLen∧w.heap.size≤g∧g < w'.heap.size∧w'.rangeAt g 0 (bV (oneB id))∧Below w.heap.size w w':=by
  have OK:=Lib.hid (oneS_ok h1 h2)
  have hS:putStr [oneS id]=bs (oneB id):=(putStr_bs [oneS id]).symm
  have HS:=Lib.hid hS
  have kb:=fun (w:World) (S:ByteArray)=>run_bytes_of_string (P:=Tryz.prog) w 9 38 5 S Tryz.underlying9 Tryz.underlying38 Tryz.underlying5
  clear hS
  go_enter Tryz.func25,Tryz.ntmps25
  go_wp2_with fail
  have hrd:Rd (w.alloc (.cells (oneS id).c 126)) (w.alloc (.cells (oneS id).c 126)).heap.size (some ⟨w.heap.size,0,none⟩) (flatL [oneS id]):=by
    rw [flatL_cons,flatL_nil,List.append_nil]
    exact (lit_rd w (oneS id).c 126).more (by simp)
  refine (refPutL_any (some ⟨w.heap.size,0,none⟩) 1 [oneS id] (w.alloc (.cells (oneS id).c 126)) hrd (by show 1≤maxLen;unfold maxLen;omega) OK.out).mono ?_;rintro e w1 ⟨rfl,hb1⟩
  have HB1:=Lib.hid (bel2 (box1 w _) hb1)
  clear hb1 hrd
  rw [HS.out]
  obtain ⟨S,hSS⟩:∃ S,S=bs (oneB id):=⟨_,rfl⟩
  have HSS:=Lib.hid hSS
  rw [← hSS]
  have hsz:S.size≤2406:=by rw [hSS,bs_size];exact putB_le
  clear hSS
  go_wp2_with fail
  go_ret
  obtain ⟨hra,hth⟩:=alloc_bytes w1 S (grownCap w1 S.size 0 5) ((bytesRow S (grownCap w1 S.size 0 5)).size,(bytesRow S (grownCap w1 S.size 0 5)).size+1) (by unfold bytesRow;simp)
  have hSl:S.size=(oneB id).length:=by rw [HSS.out,bs_size]
  have hSd:S.data.toList=oneB id:=by rw [HSS.out,bs_toList]
  refine ⟨w1.heap.size,grownCap w1 S.size 0 5,by rw [← hSl];rfl,by rw [← hSl];exact grownCap_ge _ _ _ _,grownCap_le_maxLen _ _ _ _ (by unfold maxLen;omega),HB1.out.size,by simp,?_,Below_drew (HB1.out.alloc HB1.out.size _)⟩
  rw [← hSd]
  exact (World.rangeAt_drew _ _ _ _).2 hra
end Go.Proofs.YtccbpngehedbaaaGreat

namespace Go.Proofs.YtccbpngehedbaaaGreat
open Go Go.RowKit Go.Sort

/-! A log that lives, without a fall, over plain files: no program. -/
structure Live (m:FSm) (g:LgM):Prop where
  ok:m.Ok
  fuse:m.fuse=-1
  down:m.down=false
  over:g.over=false
  k1:1≤g.keep∧g.keep≤16
  r1:1≤g.room∧g.room≤32
  few:g.segs.length≤g.room
  up:g.segs.Pairwise fun s t=>s.n < t.n
  there:∀ n,(getF m.files n).there=true ↔ ∃ s ∈ g.segs,s.n=n
  loose:∀ n,looseF (getF m.files n)=true→g.fresh=false∧g.cur.n=n
  small:∀ s ∈ g.segs,s.L.length≤g.keep
theorem live_nums {m:FSm} {g:LgM} (h:Live m g):(numsF false m.files).length≤32:=by
  have e:numsF false m.files=g.segs.map SgM.n:=by
    refine sorted_ext (nums_sorted h.ok.1) (List.pairwise_map.2 h.up) fun n=>?_
    rw [mem_there h.ok.1,h.there,List.mem_map]
  rw [e,List.length_map]
  have:=h.few;have:=h.r1;omega
theorem next_gt {m:FSm} {g:LgM} (h:Live m g) (_hf:g.fresh=true):∀ s ∈ g.segs,s.n < g.next:=by
  intro s hs
  unfold LgM.next
  cases hl:g.segs.getLast? with
  | none=>rw [List.getLast?_eq_none_iff.1 hl] at hs;cases hs
  | some t =>
    obtain ⟨A,hA⟩:=List.getLast?_eq_some_iff.1 hl
    have hu:=h.up
    rw [hA] at hs hu
    show s.n < t.n+1
    rcases List.mem_append.1 hs with hs | hs
    · have:=(List.pairwise_append.1 hu).2.2 s hs t (by simp);omega
    · have:s=t:=by simpa using hs
      rw [this];omega
/-- Files, but for one, which is laid anew. -/
theorem get_put1 {m:FSm} (h:m.Ok) {x:Fl} (hx:hasF x=true) (f:Int) (d:Bool) (k:Nat):getF (⟨putF m.files x,f,d⟩:FSm).files k=if k=x.n then x else getF m.files k:=by
  show getF (putF m.files x) k=_
  rw [get_act h,if_pos hx]
/-- One file is as told, all others as they were. -/
structure Laid (m:FSm) (n:Nat) (x:Fl) (m':FSm):Prop where
  ok:m'.Ok
  fuse:m'.fuse=-1
  down:m'.down=false
  get:∀ k,getF m'.files k=if k=n then x else getF m.files k
theorem Laid.trans {m m1 m2:FSm} {n:Nat} {x y:Fl} (h1:Laid m n x m1) (h2:Laid m1 n y m2):Laid m n y m2 :=
  ⟨h2.ok,h2.fuse,h2.down,fun k=>by
    rw [h2.get]
    split
    · rfl
    · rename_i hk;rw [h1.get,if_neg hk]⟩
theorem Laid.here {m m1:FSm} {n:Nat} {x:Fl} (h:Laid m n x m1):getF m1.files n=x:=by rw [h.get,if_pos rfl]
theorem create_laid {m:FSm} {n:Nat} (ok:m.Ok) (hf:m.fuse=-1) (hd:m.down=false) (ht:(getF m.files n).there=false) (hl:looseF (getF m.files n)=false) (hn:(numsF false m.files).length≤63) :
    (createF m n).2=0∧Laid m n ⟨n,true,false,ByteArray.empty,ByteArray.empty⟩ (createF m n).1:=by
  have ok1:=create_ok ok n
  have e:createF m n=(⟨putF m.files ⟨n,true,false,ByteArray.empty,ByteArray.empty⟩,-1,false⟩,0):=by
    unfold createF
    rw [if_neg (by rw [hd];simp),if_neg (by rw [ht,hl];simp),if_neg (by omega),act_calm hf,hd]
  rw [e] at ok1 ⊢
  exact ⟨rfl,ok1,rfl,rfl,fun k=>by rw [get_put1 ok (by simp [hasF])]⟩
theorem append_laid {m:FSm} {n:Nat} (ok:m.Ok) (hf:m.fuse=-1) (hd:m.down=false) (ht:(getF m.files n).there=true) (b:ByteArray) :
    (appendF m n b).2=0∧Laid m n (appF (getF m.files n) b) (appendF m n b).1:=by
  have ok1:=append_ok ok n b
  have hx:=getF_n m.files n
  have e:appendF m n b=(⟨putF m.files (appF (getF m.files n) b),-1,false⟩,0):=by
    unfold appendF
    rw [if_neg (by rw [hd];simp),if_neg (by rw [ht];simp),act_calm hf,hd]
  rw [e] at ok1 ⊢
  refine ⟨rfl,ok1,rfl,rfl,fun k=>?_⟩
  rw [get_put1 ok (by simp [hasF,appF,ht])]
  show (if k=(getF m.files n).n then _ else _)=_
  rw [hx]
theorem sync_laid {m:FSm} {n:Nat} (ok:m.Ok) (hf:m.fuse=-1) (hd:m.down=false) (ht:(getF m.files n).there=true) :
    (syncF m n).2=0∧Laid m n (syncedF (getF m.files n)) (syncF m n).1:=by
  have ok1:=sync_ok ok n
  have hx:=getF_n m.files n
  have e:syncF m n=(⟨putF m.files (syncedF (getF m.files n)),-1,false⟩,0):=by
    unfold syncF
    rw [if_neg (by rw [hd];simp),if_neg (by rw [ht];simp),act_calm hf,hd]
  rw [e] at ok1 ⊢
  refine ⟨rfl,ok1,rfl,rfl,fun k=>?_⟩
  rw [get_put1 ok (by simp [hasF,syncedF,ht])]
  show (if k=(getF m.files n).n then _ else _)=_
  rw [hx]
theorem take_laid {m:FSm} {n:Nat} (ok:m.Ok) (hf:m.fuse=-1) (hd:m.down=false) (ht:(getF m.files n).there=true) (hl:looseF (getF m.files n)=false) :
    (takeL m n).2=0∧Laid m n (noF n) (takeL m n).1:=by
  have hx:=getF_n m.files n
  have hkept:(getF m.files n).kept=true:=by
    unfold looseF at hl;rw [ht] at hl;simp at hl;exact hl.1
  have r1:removeF m n=(⟨putF m.files (goneF (getF m.files n)),-1,false⟩,0):=by
    unfold removeF
    rw [if_neg (by rw [hd];simp),if_neg (by rw [ht];simp),act_calm hf,hd]
  have ok1:(removeF m n).1.Ok:=remove_ok ok n
  have g1:∀ k,getF (removeF m n).1.files k=if k=n then goneF (getF m.files n) else getF m.files k:=fun k=>by
    rw [r1,get_put1 ok (by simp [hasF,goneF,hkept])]
    show (if k=(getF m.files n).n then _ else _)=_
    rw [hx]
  have gn:=g1 n
  rw [if_pos rfl] at gn
  have r2:syncF (removeF m n).1 n=(⟨putF (removeF m n).1.files (syncedF (goneF (getF m.files n))),-1,false⟩,0):=by
    unfold syncF
    rw [gn,if_neg (by rw [r1];simp),if_neg (by simp [looseF,goneF,hkept]),act_calm (by rw [r1])]
    rw [r1]
  have e:takeL m n=syncF (removeF m n).1 n:=by
    unfold takeL
    rw [if_neg (by rw [r1];simp)]
  rw [e]
  refine ⟨by rw [r2],sync_ok ok1 n,by rw [r2],by rw [r2],fun k=>?_⟩
  rw [r2]
  show getF (putF (removeF m n).1.files _) k=_
  rw [get_act ok1]
  show (if k=(getF m.files n).n then _ else _)=_
  rw [hx,if_neg (show ¬ hasF (syncedF (goneF (getF m.files n)))=true by simp [hasF,syncedF,goneF]),g1]
  split
  · rename_i hk;rw [hk]
  · rfl
/-- The segments but for that which the next batch goes to. -/
def LgM.base (g:LgM):List SgM:=if g.fresh=true then g.segs else g.segs.dropLast
theorem last_split {g:LgM} (hf:g.fresh=false):∃ t,g.segs=g.base ++ [t]∧g.cur=t∧t.L.length ≠ g.keep:=by
  unfold LgM.fresh at hf
  cases hl:g.segs.getLast? with
  | none=>rw [hl] at hf;cases hf
  | some t =>
    rw [hl] at hf
    obtain ⟨A,hA⟩:=List.getLast?_eq_some_iff.1 hl
    have hfr:g.fresh=false:=by unfold LgM.fresh;rw [hl];exact hf
    refine ⟨t,?_,?_,by simpa using hf⟩
    · unfold LgM.base;rw [hfr,if_neg (by simp),hA,List.dropLast_concat]
    · unfold LgM.cur;rw [hfr,if_neg (by simp),hl];rfl
theorem live_base {m:FSm} {g:LgM} (h:Live m g):(∀ s ∈ g.base,s ∈ g.segs∧s.n < g.cur.n)∧g.base.Pairwise (fun s t=>s.n < t.n)∧(∀ s ∈ g.segs,s ∈ g.base∨(g.fresh=false∧s.n=g.cur.n)):=by
  cases hf:g.fresh
  · obtain ⟨t,h1,h2,_⟩:=last_split hf
    have hu:=h.up
    rw [h1] at hu
    obtain ⟨u1,_,u3⟩:=List.pairwise_append.1 hu
    rw [h2]
    refine ⟨fun s hs=>⟨by rw [h1];exact List.mem_append_left _ hs,u3 s hs t (by simp)⟩,u1,fun s hs=>?_⟩
    rw [h1] at hs
    rcases List.mem_append.1 hs with hs | hs
    · exact .inl hs
    · have:s=t:=by simpa using hs
      exact .inr ⟨rfl,by rw [this]⟩
  · have hb:g.base=g.segs:=by unfold LgM.base;rw [if_pos hf]
    have hc:g.cur.n=g.next:=by unfold LgM.cur;rw [if_pos hf]
    rw [hb,hc]
    exact ⟨fun s hs=>⟨hs,next_gt h hf s hs⟩,h.up,fun s hs=>.inl hs⟩
theorem live_cur {m:FSm} {g:LgM} (h:Live m g):g.cur.L.length+1≤g.keep:=by
  cases hf:g.fresh
  · obtain ⟨t,h1,h2,h3⟩:=last_split hf
    have:=h.small t (by rw [h1];simp)
    rw [h2];omega
  · have hc:g.cur.L=[]:=by unfold LgM.cur;rw [if_pos hf]
    rw [hc];have:=h.k1;simp;omega
theorem live_add {m : FSm} {g : LgM} (h : Live m g) (b : List UInt8) : (addL m g b).2 = 0 ∧ ∃ x, x.there = true ∧ Laid m g.cur.n x (addL m g b).1 := by
  have hn:=live_nums h
  have hb : (beginL m g).2 = 0 ∧ (beginL m g).1.Ok ∧ (beginL m g).1.fuse = -1 ∧ (beginL m g).1.down = false ∧ (getF (beginL m g).1.files g.cur.n).there = true ∧ ∀ k, k ≠ g.cur.n → getF (beginL m g).1.files k = getF m.files k := by
    cases hf:g.fresh
    · obtain ⟨t,h1,h2,_⟩:=last_split hf
      have e:beginL m g=(m,0):=by unfold beginL;rw [hf,if_neg (by simp)]
      rw [e]
      exact ⟨rfl,h.ok,h.fuse,h.down,(h.there _).2 ⟨t,by rw [h1];simp,by rw [h2]⟩,fun _ _=>rfl⟩
    · have hc:g.cur.n=g.next:=by unfold LgM.cur;rw [if_pos hf]
      have ht:(getF m.files g.next).there=false:=by
        cases ht:(getF m.files g.next).there
        · rfl
        · obtain ⟨s,hs,e⟩:=(h.there _).1 ht
          have:=next_gt h hf s hs;omega
      have hl:looseF (getF m.files g.next)=false:=by
        cases hl:looseF (getF m.files g.next)
        · rfl
        · have:=(h.loose _ hl).1;rw [hf] at this;cases this
      obtain ⟨c1,c2⟩:=create_laid h.ok h.fuse h.down ht hl (by omega)
      have ht2:(getF (createF m g.next).1.files g.next).there=true:=by rw [c2.here]
      obtain ⟨a1,a2⟩:=append_laid c2.ok c2.fuse c2.down ht2 (bs (headL g.next g.keep))
      have e:beginL m g=appendF (createF m g.next).1 g.next (bs (headL g.next g.keep)):=by
        unfold beginL;rw [if_pos hf,if_neg (by rw [c1];simp)]
      rw [e,hc]
      refine ⟨a1,a2.ok,a2.fuse,a2.down,by rw [a2.here];exact ht2,fun k hk=>?_⟩
      rw [a2.get,if_neg hk,c2.get,if_neg hk]
  obtain ⟨b1,b2,b3,b4,b5,b6⟩:=hb
  obtain ⟨a1,a2⟩:=append_laid b2 b3 b4 b5 (bs (frL b))
  have e:addL m g b=appendF (beginL m g).1 g.cur.n (bs (frL b)):=by unfold addL;rw [if_neg (by rw [b1];simp)]
  rw [e]
  refine ⟨a1,appF (getF (beginL m g).1.files g.cur.n) (bs (frL b)),b5,a2.ok,a2.fuse,a2.down,fun k=>?_⟩
  rw [a2.get]
  split
  · rfl
  · rename_i hk;exact b6 k hk
theorem live_seal {m:FSm} {g:LgM} (h:Live m g) (b:List UInt8):(sealL m g b).2=0∧∃ x,x.there=true∧(g.cur.L.length+1=g.keep→looseF x=false)∧Laid m g.cur.n x (sealL m g b).1:=by
  obtain ⟨h1,x,h2,h3⟩:=live_add h b
  unfold sealL
  rw [if_neg (by rw [h1];simp)]
  split
  · obtain ⟨s1,s2⟩:=sync_laid h3.ok h3.fuse h3.down (by rw [h3.here];exact h2)
    rw [h3.here] at s2
    exact ⟨s1,syncedF x,h2,fun _=>by simp [looseF,syncedF,h2],h3.trans s2⟩
  · rename_i hk
    exact ⟨h1,x,h2,fun e=>absurd e hk,h3⟩
theorem push_last (g:LgM) (b:List UInt8):(g.push b).segs=g.base ++ [⟨g.cur.n,g.cur.L ++ [b]⟩]:=rfl
theorem push_fresh (g:LgM) (b:List UInt8):(g.push b).fresh=decide (g.cur.L.length+1=g.keep):=by
  unfold LgM.fresh
  rw [push_last,List.getLast?_concat]
  show decide ((g.cur.L ++ [b]).length=g.keep)=_
  rw [List.length_append];rfl
theorem push_cur {g:LgM} {b:List UInt8} (h:¬ g.cur.L.length+1=g.keep):(g.push b).cur=⟨g.cur.n,g.cur.L ++ [b]⟩:=by
  have hf:(g.push b).fresh=false:=by rw [push_fresh];simpa using h
  unfold LgM.cur
  rw [if_neg (by rw [hf];simp),push_last,List.getLast?_concat]
  rfl
theorem live_append {m : FSm} {g : LgM} (h : Live m g) {b : List UInt8} (hb : isB b = true) (hf : g.full = false) : (appendL m g b).1 = 0 ∧ (appendL m g b).2.2 = g.push b ∧ Live (appendL m g b).2.1 (g.push b) := by
  obtain ⟨h1,x,h2,h3,h4⟩:=live_seal h b
  have e:appendL m g b=(0,(sealL m g b).1,g.push b):=by
    unfold appendL
    rw [if_neg (by rw [h.over];simp),if_neg (by rw [hb];simp),if_neg (by rw [hf];simp),h1,if_neg (by simp)]
  rw [e]
  refine ⟨rfl,rfl,?_⟩
  dsimp only
  obtain ⟨p1,p2,p3⟩:=live_base h
  have hcur:=live_cur h
  have hroom:g.base.length+1≤g.room:=by
    cases hfr:g.fresh
    · obtain ⟨t,q1,_,_⟩:=last_split hfr
      have:=congrArg List.length q1
      rw [List.length_append] at this
      have:=h.few;simp at *;omega
    · have hbs:g.base=g.segs:=by unfold LgM.base;rw [if_pos hfr]
      unfold LgM.full at hf
      rw [hfr,Bool.true_and,Bool.or_eq_false_iff] at hf
      have:¬ g.room≤g.segs.length:=by simpa using hf.1
      rw [hbs];omega
  refine ⟨h4.ok,h4.fuse,h4.down,h.over,h.k1,h.r1,?_,?_,fun n=>?_,fun n hl=>?_,fun s hs=>?_⟩
  · rw [push_last,List.length_append];exact hroom
  · rw [push_last,List.pairwise_append]
    exact ⟨p2,by simp,fun s hs t ht=>by
      have:t=⟨g.cur.n,g.cur.L ++ [b]⟩:=by simpa using ht
      rw [this];exact (p1 s hs).2⟩
  · rw [h4.get, push_last]
    by_cases hn:n=g.cur.n
    · rw [if_pos hn]
      exact ⟨fun _=>⟨⟨g.cur.n,g.cur.L ++ [b]⟩,by simp,hn.symm⟩,fun _=>h2⟩
    · rw [if_neg hn, h.there]
      constructor
      · rintro ⟨s,hs,e⟩
        rcases p3 s hs with q | q
        · exact ⟨s,List.mem_append_left _ q,e⟩
        · exact absurd (e.symm.trans q.2) hn
      · rintro ⟨s,hs,e⟩
        rcases List.mem_append.1 hs with hs | hs
        · exact ⟨s,(p1 s hs).1,e⟩
        · have:s=⟨g.cur.n,g.cur.L ++ [b]⟩:=by simpa using hs
          rw [this] at e;exact absurd e.symm hn
  · rw [h4.get] at hl
    by_cases hn:n=g.cur.n
    · rw [if_pos hn] at hl
      have hk:¬ g.cur.L.length+1=g.keep:=fun e=>by rw [h3 e] at hl;cases hl
      rw [push_cur hk,push_fresh]
      exact ⟨by simpa using hk,hn.symm⟩
    · rw [if_neg hn] at hl
      exact absurd (h.loose n hl).2.symm hn
  · rw [push_last] at hs
    rcases List.mem_append.1 hs with hs | hs
    · exact h.small s (p1 s hs).1
    · have:s=⟨g.cur.n,g.cur.L ++ [b]⟩:=by simpa using hs
      rw [this]
      show (g.cur.L ++ [b]).length≤g.keep
      rw [List.length_append];exact hcur
theorem live_expire {m : FSm} {g : LgM} (h : Live m g) {s : SgM} {r : List SgM} (hs : g.segs = s :: r) (hk : s.L.length = g.keep) : (expireL m g).1 = 0 ∧ (expireL m g).2.2 = { g with segs := r } ∧ Live (expireL m g).2.1 { g with segs := r } := by
  have ht:(getF m.files s.n).there=true:=(h.there _).2 ⟨s,by rw [hs];exact List.mem_cons_self ..,rfl⟩
  have hup:=h.up
  rw [hs] at hup
  obtain ⟨u1,u2⟩:=List.pairwise_cons.1 hup
  have hfr:g.fresh=({ g with segs:=r }:LgM).fresh:=by
    unfold LgM.fresh
    show (match g.segs.getLast? with | none=>true | some s=>decide (s.L.length=g.keep))=(match r.getLast? with | none=>true | some s=>decide (s.L.length=g.keep))
    rw [hs]
    cases r with
    | nil=>simp [hk]
    | cons t r=>rw [List.getLast?_cons_cons]
  have hcur:g.fresh=false→g.cur=({ g with segs:=r }:LgM).cur:=fun hf=>by
    unfold LgM.cur
    rw [← hfr,hf,if_neg (by simp),if_neg (by simp)]
    show (g.segs.getLast?).getD _=(r.getLast?).getD _
    rw [hs]
    cases r with
    | nil=>unfold LgM.fresh at hf;rw [hs] at hf;simp [hk] at hf
    | cons t r=>rw [List.getLast?_cons_cons]
  have hl:looseF (getF m.files s.n)=false:=by
    cases hl:looseF (getF m.files s.n)
    · rfl
    · obtain ⟨l1,l2⟩:=h.loose _ hl
      obtain ⟨t,q1,q2,q3⟩:=last_split l1
      rw [q2] at l2
      have htm:t ∈ s :: r:=by rw [← hs,q1];simp
      rcases List.mem_cons.1 htm with e | e
      · rw [e] at q3;exact absurd hk q3
      · have:=u1 t e;omega
  obtain ⟨t1,t2⟩:=take_laid h.ok h.fuse h.down ht hl
  have e:expireL m g=(0,(takeL m s.n).1,{ g with segs:=r }):=by
    unfold expireL
    rw [if_neg (by rw [h.over];simp),hs]
    dsimp only
    rw [if_neg (by rw [hk];simp),t1,if_neg (by simp)]
  rw [e]
  refine ⟨rfl,rfl,?_⟩
  dsimp only
  refine ⟨t2.ok,t2.fuse,t2.down,h.over,h.k1,h.r1,?_,u2,fun n=>?_,fun n hl=>?_,fun x hx=>h.small x (by rw [hs];exact List.mem_cons_of_mem _ hx)⟩
  · have:=h.few;rw [hs] at this;show r.length≤g.room;simp at this;omega
  · rw [t2.get]
    show _ ↔ ∃ x ∈ r,x.n=n
    by_cases hn:n=s.n
    · rw [if_pos hn]
      exact ⟨fun h=>absurd h (by simp [noF]),fun ⟨x,hx,e⟩=>by have:=u1 x hx;omega⟩
    · rw [if_neg hn,h.there,hs]
      constructor
      · rintro ⟨x,hx,e⟩
        rcases List.mem_cons.1 hx with q | q
        · rw [q] at e;exact absurd e.symm hn
        · exact ⟨x,q,e⟩
      · rintro ⟨x,hx,e⟩;exact ⟨x,List.mem_cons_of_mem _ hx,e⟩
  · rw [t2.get] at hl
    by_cases hn:n=s.n
    · rw [if_pos hn] at hl;rw [loose_no] at hl;cases hl
    · rw [if_neg hn] at hl
      obtain ⟨l1,l2⟩:=h.loose _ hl
      rw [← hfr,← hcur l1]
      exact ⟨l1,l2⟩
theorem live_new {keep room:Nat} (k:1≤keep∧keep≤16) (r:1≤room∧room≤32):Live newF ⟨keep,room,[],false⟩:=by
  have hno:∀ n,getF newF.files n=noF n:=fun n=>rfl
  refine ⟨⟨List.Pairwise.nil,fun y hy=>absurd hy (by simp [newF]),by decide,by decide⟩,rfl,rfl,rfl,k,r,Nat.zero_le _,List.Pairwise.nil,fun n=>?_,fun n hl=>?_,fun s hs=>absurd hs (by simp)⟩
  · rw [hno];exact ⟨fun h=>absurd h (by simp [noF]),fun ⟨s,hs,_⟩=>absurd hs (by simp)⟩
  · rw [hno,loose_no] at hl;cases hl
theorem open_new {keep room:Int} (k:1≤keep∧keep≤16) (r:1≤room∧room≤32):openF newF keep room=(0,newF,[]):=by
  unfold openF
  rw [if_neg (by simp;omega),if_neg (by simp [newF]),if_neg (by simp [newF,numsF]),if_neg (by simp [newF,numsF,chainB]),if_neg (by simp [newF,numsF])]
  rfl
end Go.Proofs.YtccbpngehedbaaaGreat

namespace Go.Proofs.YtccbpngehedbaaaGreat
open Go Go.RowKit Go.Sort

/-! A log of a law's own, and the chapter's example. -/
structure LL (F:FsKit) (LK:LogKit F) (w0:World) (B:Nat) (w:World) (p q k:Nat) (m:FSm) (g:LgM) (S R T:Nat→Prop):Prop where
  fs:F.Fs w S R p m
  log:LK.At w T p q g
  dis:Dis T S R
  lim:Lim k m
  num:NumOk m
  gn:GNum g
  bel:Below B w0 w
  hB:B≤w.heap.size
  hs:∀ j,S j→B≤j
  ht:∀ j,T j→B≤j
section
variable {F:FsKit} {LK:LogKit F} {w0 w:World} {B p q k:Nat} {m:FSm} {g:LgM} {S R T:Nat→Prop}
theorem LL.fit (h:LL F LK w0 B w p q k m g S R T) (hk:k≤9000):Fit m:=⟨⟨k,hk,h.lim⟩,h.num⟩
theorem LL.after {w':World} (h:LL F LK w0 B w p q k m g S R T) (hb:Below w.heap.size w w'):LL F LK w0 B w' p q k m g S R T :=
  ⟨F.below h.fs hb,LK.move h.log hb.size fun j hj=>hb.block j (LK.low h.log j hj),h.dis,h.lim,h.num,h.gn,h.bel.trans (hb.mono h.hB),Nat.le_trans h.hB hb.size,h.hs,h.ht⟩
theorem LL.act {w':World} {S' R' T':Nat→Prop} {m':FSm} {g':LgM} {k':Nat} (h:LL F LK w0 B w p q k m g S R T) (hF:F.Fs w' S' R' p m') (hL:LK.At w' T' p q g') (hd:DidL S R T S' R' T' w w') (hl:Lim k' m') (hn:NumOk m') (hg:GNum g'):LL F LK w0 B w' p q k' m' g' S' R' T':=by
  have hB:=h.hB
  refine ⟨hF,hL,hd.dis,hl,hn,hg,h.bel.trans ⟨hd.off.os,hd.off.tape,hd.off.output,hd.off.size,fun j hj=>hd.off.block j (by omega) fun e=>?_⟩,Nat.le_trans hB hd.off.size,fun j hj=>?_,fun j hj=>?_⟩
  · rcases e with e | e
    · have:=h.hs j e;omega
    · have:=h.ht j e;omega
  · rcases hd.s j hj with e | e
    · exact h.hs j e
    · omega
  · rcases hd.t j hj with e | e
    · exact h.ht j e
    · omega
theorem LL.append {b:List UInt8} {a:Option Addr} {n c:Nat} (h:LL F LK w0 B w p q k m g S R T) (hk:k≤9000) (hr:RdN (fun j=>S j∨T j) w a (bV b)) (hn:n=b.length) (hb:b.length≤1000000000) (hlc:n≤c) (hc:c≤maxLen) (e0:Int) (m':FSm) (g':LgM) (he:appendL m g b=(e0,m',g')) :
    Calls Tryz.prog 24 #[.pointer (some ⟨q,0,none⟩),.slice a n c] w fun e w'=>e=.returned (.int .i64 e0)∧∃ S' R' T',LL F LK w0 B w' p q (k+4) m' g' S' R' T':=by
  subst hn
  refine (LK.append w S R T p q m g a c b h.fs h.log h.dis (h.fit hk) hr hb hlc hc).mono ?_
  rintro e w' ⟨S',R',T',rfl,hF,hL,hd⟩
  obtain ⟨n1,n2⟩:=num_appendL h.num h.gn b
  have hl:=lim_appendL h.lim g b
  rw [he] at hF hL n1 n2 hl ⊢
  exact ⟨rfl,S',R',T',h.act hF hL hd hl n1 n2⟩
theorem LL.expire (h:LL F LK w0 B w p q k m g S R T) (hk:k≤9000) (e0:Int) (m':FSm) (g':LgM) (he:expireL m g=(e0,m',g')) :
    Calls Tryz.prog 27 #[.pointer (some ⟨q,0,none⟩)] w fun e w'=>e=.returned (.int .i64 e0)∧∃ S' R' T',LL F LK w0 B w' p q (k+4) m' g' S' R' T':=by
  refine (LK.expire w S R T p q m g h.fs h.log h.dis (h.fit hk)).mono ?_
  rintro e w' ⟨S',R',T',rfl,hF,hL,hd⟩
  obtain ⟨n1,n2⟩:=num_expireL h.num h.gn
  have hl:=lim_expireL h.lim g
  rw [he] at hF hL n1 n2 hl ⊢
  exact ⟨rfl,S',R',T',h.act hF hL hd hl n1 n2⟩
theorem LL.fresh {w1:World} {gb:Nat} {b:List UInt8} (h:LL F LK w0 B w p q k m g S R T) (hg:w.heap.size≤gb) (hg1:gb < w1.heap.size) (hr:w1.rangeAt gb 0 (bV b)):RdN (fun j=>S j∨T j) w1 (some ⟨gb,0,none⟩) (bV b):=fun _ =>
  ⟨gb,0,rfl,hg1,fun e=>by
    rcases e with e | e
    · have:=(F.low h.fs).1 gb e;omega
    · have:=LK.low h.log gb e;omega,fun j u hu=>hr j u hu⟩
end
/-- A call of Append with the batch of one span. -/
theorem LL.one {F:FsKit} {LK:LogKit F} {w0 w w1:World} {B p q k:Nat} {m:FSm} {g:LgM} {S R T:Nat→Prop} (h:LL F LK w0 B w p q k m g S R T) (hk:k≤9000) {id:Int} {gb c:Nat} (hg:w.heap.size≤gb) (hg1:gb < w1.heap.size) (hr:w1.rangeAt gb 0 (bV (oneB id))) (hb:Below w.heap.size w w1) (hlc:(oneB id).length≤c) (hc:c≤maxLen)
    (e0:Int) (m':FSm) (g':LgM) (he:appendL m g (oneB id)=(e0,m',g')) :
    Calls Tryz.prog 24 #[.pointer (some ⟨q,0,none⟩),.slice (some ⟨gb,0,none⟩) (oneB id).length c] w1 fun e w'=>e=.returned (.int .i64 e0)∧∃ S' R' T',LL F LK w0 B w' p q (k+4) m' g' S' R' T' :=
  (h.after hb).append hk (h.fresh hg hg1 hr) rfl (by have:=putB_le (L:=[oneS id]);show (putB _).length≤_;omega) hlc hc e0 m' g' he
theorem append_live {m:FSm} {g:LgM} {b:List UInt8} (h:Live m g) (hb:isB b=true) (hf:g.full=false):∃ m',appendL m g b=(0,m',g.push b)∧Live m' (g.push b):=by
  obtain ⟨h1,h2,h3⟩:=live_append h hb hf
  exact ⟨_,Prod.ext h1 (Prod.ext rfl h2),h3⟩
theorem append_fullL {m:FSm} {g:LgM} {b:List UInt8} (h:Live m g) (hb:isB b=true) (hf:g.full=true):appendL m g b=(6,m,g):=by
  unfold appendL
  rw [if_neg (by rw [h.over];simp),if_neg (by rw [hb];simp),if_pos hf]
theorem expire_live {m:FSm} {g:LgM} {s:SgM} {r:List SgM} (h:Live m g) (hs:g.segs=s :: r) (hk:s.L.length=g.keep):∃ m',expireL m g=(0,m',{ g with segs:=r })∧Live m' { g with segs:=r }:=by
  obtain ⟨h1,h2,h3⟩:=live_expire h hs hk
  exact ⟨_,Prod.ext h1 (Prod.ext rfl h2),h3⟩
/-- A fresh file system, and a log on it. -/
theorem open_live (F:FsKit) (LK:LogKit F) (w w1:World) (p:Nat) (S R:Nat→Prop) (keep room:Int) (k:1≤keep∧keep≤16) (r:1≤room∧room≤32) (hF:F.Fs w1 S R p newF) (hs:∀ j,S j→w.heap.size≤j) (hb:Below w.heap.size w w1) :
    Calls Tryz.prog 16 #[.pointer (some ⟨p,0,none⟩),.int .i64 keep,.int .i64 room] w1 fun e w'=>∃ q S' R' T,e=.returned (.tuple #[.pointer (some ⟨q,0,none⟩),.int .i64 0])∧LL F LK w w.heap.size w' p q 2 newF ⟨keep.toNat,room.toNat,[],false⟩ S' R' T:=by
  have hnum:NumOk newF:=fun x hx=>absurd hx (by simp [newF])
  refine (LK.open_ w1 S R p newF keep room hF ⟨⟨0,by omega,lim_new⟩,hnum⟩ (by omega) (by omega) (by omega) (by omega)).mono ?_
  rintro e w' ⟨S',R',v,rfl,hF',hd,ho⟩
  have hop:=open_new k r
  rw [hop] at hF' ho ⊢
  obtain ⟨q,T,rfl,hL,hT,hD⟩:=ho rfl
  refine ⟨q,S',R',T,rfl,hF',hL,hD,lim_new.more (by omega),hnum,fun s hs=>absurd hs (by simp),?_,Nat.le_trans hb.size hd.off.size,fun j hj=>?_,fun j hj=>Nat.le_trans hb.size (hT j hj)⟩
  · exact hb.trans ⟨hd.off.os,hd.off.tape,hd.off.output,hd.off.size,fun j hj=>hd.off.block j (Nat.lt_of_lt_of_le hj hb.size) fun e=>by have:=hs j e;omega⟩
  · rcases hd.s j hj with e | e
    · exact hs j e
    · exact Nat.le_trans hb.size e
set_option maxRecDepth 20000 in
set_option maxHeartbeats 4000000 in
theorem fixed8_any (F:FsKit) (LK:LogKit F) (w:World):Calls Tryz.prog 6 #[] w fun e w'=>e=.returned (.bool true)∧Below w.heap.size w w':=by
  have hl0:Live newF ⟨2,1,[],false⟩:=live_new (by omega) (by omega)
  have hb1:=oneB_isB (id:=1) (by omega) (by omega)
  have hb2:=oneB_isB (id:=2) (by omega) (by omega)
  have hb3:=oneB_isB (id:=3) (by omega) (by omega)
  obtain ⟨m1,a1,hl1⟩:=append_live hl0 hb1 rfl
  have g1:(⟨2,1,[],false⟩:LgM).push (oneB 1)=⟨2,1,[⟨0,[oneB 1]⟩],false⟩:=rfl
  rw [g1] at a1 hl1
  obtain ⟨m2,a2,hl2⟩:=append_live hl1 hb2 rfl
  have g2:(⟨2,1,[⟨0,[oneB 1]⟩],false⟩:LgM).push (oneB 2)=⟨2,1,[⟨0,[oneB 1,oneB 2]⟩],false⟩:=rfl
  rw [g2] at a2 hl2
  have a3:=append_fullL hl2 hb3 rfl
  obtain ⟨m4,a4,hl4⟩:=expire_live (s:=⟨0,[oneB 1,oneB 2]⟩) (r:=[]) hl2 rfl rfl
  obtain ⟨m5,a5,_⟩:=append_live hl4 hb3 rfl
  have g5:({ (⟨2,1,[⟨0,[oneB 1,oneB 2]⟩],false⟩:LgM) with segs:=[] }:LgM).push (oneB 3)=⟨2,1,[⟨0,[oneB 3]⟩],false⟩:=rfl
  rw [g5] at a5
  have A1:=Lib.hid a1;have A2:=Lib.hid a2;have A3:=Lib.hid a3;have A4:=Lib.hid a4;have A5:=Lib.hid a5
  clear hl0 hl1 hl2 hl4 hb1 hb2 hb3 a1 a2 a3 a4 a5 g1 g2 g5
  go_enter Tryz.func6,Tryz.ntmps6
  go_wp2_with fail
  refine (F.new w).mono ?_
  rintro e w1 ⟨p,S,R,rfl,hF,hS,_,hb1⟩
  have HF:=Lib.hid hF;have HS:=Lib.hid hS;have HB1:=Lib.hid hb1
  clear hF hS hb1
  go_wp2_with fail
  refine (open_live F LK w w1 p S R 2 1 (by omega) (by omega) HF.out HS.out HB1.out).mono ?_
  rintro e w2 ⟨q,S2,R2,T2,rfl,h2⟩
  have H2:Hid (LL F LK w w.heap.size w2 p q 2 newF ⟨2,1,[],false⟩ S2 R2 T2):=h2
  clear h2
  go_wp2_with fail
  refine (one_any 1 (by omega) (by omega) w2).mono ?_
  rintro e w3 ⟨b3,c3,rfl,l3,m3,q3,r3,s3,t3⟩
  have K3:=Lib.hid (H2.out.one (by omega) q3 r3 s3 t3 l3 m3 0 m1 _ A1.out)
  clear l3 m3 q3 r3 s3 t3
  go_wp2_with fail
  refine K3.out.mono ?_
  rintro e w4 ⟨rfl,S4,R4,T4,h4⟩
  have H4:=Lib.hid h4
  clear h4
  go_wp2_with fail
  refine (one_any 2 (by omega) (by omega) w4).mono ?_
  rintro e w5 ⟨b5,c5,rfl,l5,m5',q5,r5,s5,t5⟩
  have K5:=Lib.hid (H4.out.one (by omega) q5 r5 s5 t5 l5 m5' 0 m2 _ A2.out)
  clear l5 m5' q5 r5 s5 t5
  go_wp2_with fail
  refine K5.out.mono ?_
  rintro e w6 ⟨rfl,S6,R6,T6,h6⟩
  have H6:=Lib.hid h6
  clear h6
  go_wp2_with fail
  refine (one_any 3 (by omega) (by omega) w6).mono ?_
  rintro e w7 ⟨b7,c7,rfl,l7,m7,q7,r7,s7,t7⟩
  have K7:=Lib.hid (H6.out.one (by omega) q7 r7 s7 t7 l7 m7 6 m2 _ A3.out)
  clear l7 m7 q7 r7 s7 t7
  go_wp2_with fail
  refine K7.out.mono ?_
  rintro e w8 ⟨rfl,S8,R8,T8,h8⟩
  have H8:=Lib.hid h8
  clear h8
  go_wp2_with fail
  refine (H8.out.expire (by omega) 0 m4 _ A4.out).mono ?_
  rintro e w9 ⟨rfl,S9,R9,T9,h9⟩
  have H9:=Lib.hid h9
  clear h9
  go_wp2_with fail
  refine (one_any 3 (by omega) (by omega) w9).mono ?_
  rintro e w10 ⟨b10,c10,rfl,l10,m10,q10,r10,s10,t10⟩
  have K10:=Lib.hid (H9.out.one (by omega) q10 r10 s10 t10 l10 m10 0 m5 _ A5.out)
  clear l10 m10 q10 r10 s10 t10
  go_wp2_with fail
  refine K10.out.mono ?_
  rintro e w11 ⟨rfl,S11,R11,T11,h11⟩
  have H11:=Lib.hid h11
  clear h11
  go_wp2_with fail
  refine (LK.bodies w11 T11 p q _ H11.out.log ⟨fun b hb=>?_,by show 1≤_;omega⟩).mono ?_
  · have:b=oneB 3:=by simpa [LgM.all] using hb
    rw [this]
    have:=putB_le (L:=[oneS 3])
    show (putB _).length≤_
    omega
  rintro e w12 ⟨a12,c12,xs,rfl,_,_,_,_,hxs,hb12⟩
  have hxl:xs.length=1:=by
    have:=congrArg List.length hxs
    rw [List.length_map] at this
    exact this
  have HB12:=Lib.hid (H11.out.after hb12).bel
  rw [hxl]
  clear hxs hb12 hxl
  go_wp2_with fail
  go_ret
  exact ⟨rfl,HB12.out⟩
end Go.Proofs.YtccbpngehedbaaaGreat

namespace Go.Proofs.YtccbpngehedbaaaGreat
open Go Go.RowKit Go.Sort

/-! How many batches a log has: no program. -/
structure Packed (g:LgM) (i B:Nat):Prop where
  cnt:g.all.length=i
  mid:∀ s ∈ g.segs.dropLast,s.L.length=g.keep
  num:∀ s ∈ g.segs,s.n < B
end Go.Proofs.YtccbpngehedbaaaGreat

namespace Go.Proofs.YtccbpngehedbaaaGreat
open Go Go.RowKit Go.Sort

/-! The law SeglogFull. -/
/-- What holds while batches are taken. -/
structure Fills (F:FsKit) (LK:LogKit F) (w wr:World) (p q k i B K M:Nat) (m:FSm) (g:LgM) (S R T:Nat→Prop):Prop where
  ll:LL F LK w w.heap.size wr p q k m g S R T
  live:Live m g
  pk:Packed g i B
  keep:g.keep=K
  room:g.room=M
  sm:∀ b ∈ g.all,b.length≤1000000000
end Go.Proofs.YtccbpngehedbaaaGreat

