import Derived.Test.YtccbpngehedbaaaGreatJx
import Derived.Laws.OwnMore
import Derived.Lib.SliceRun
import Derived.Deep.RegionLaw
import Derived.Deep.DeepCutAuto
import Derived.Test.YtccbpngehedbaaaGreatJu
namespace Go.Proofs.YtccbpngehedbaaaGreat
open Go Go.RowKit Go.Sort

/-! The landed log: one body more. -/
theorem SgAt.keep2 {w w':World} {T T':Nat→Prop} {r:SgR} (h:SgAt w T r) (h1:∀ k,r.v.ownBlock=some k→w'.heap[k]?=w.heap[k]?) (h2:∀ (k:Nat) (cur:Array Value),w.heap[k]?=some (Obj.cells cur 5)→w'.heap[k]?=w.heap[k]?) (ht:∀ k,T k→T' k):SgAt w' T' r :=
  ⟨own_stays h.own h1,fun k hk=>ht k (h.blk k hk),
    fun x hx=>⟨own_stays (h.bod x hx).1 fun k hk=>by obtain ⟨cur,hc⟩:=own_tag (h.bod x hx).1 hk;exact h2 k cur hc,fun k hk=>ht k ((h.bod x hx).2 k hk)⟩,h.num⟩
theorem flat_last (A:List SgR) (s:SgR) (v:Value):(flatG SgR.l (A ++ [s])).set (A.length * 2+1) v=flatG SgR.l A ++ [.int .u32 (s.n:Int),v]:=by
  rw [flat_snoc,List.set_append_right _ _ (by rw [flatG_length SgR.len];omega),flatG_length SgR.len]
  rw [show A.length * 2+1 - A.length * 2=1 by omega]
  rfl
/-- One body more, at the last segment. -/
theorem LgB.push {w w7 w8 : World} {T : Nat → Prop} {p q : Nat} {g : LgM} {sb c : Nat} {L A : List SgR} {s : SgR} (h : LgB w T p q g (some ⟨sb, 0, none⟩) c L) (hsplit : L = A ++ [s]) {B n g8 c8 : Nat} (hn : n = s.xs.length) (hT : ∀ k, T k → k < B) (_hB : B ≤ w.heap.size) (hb7 : Below w.heap.size w w7) (x : Bod)
    (hown8:w8.ownsRow 0 38 1 (.slice (some ⟨g8,0,none⟩) (n+1) c8) (n+1) (s.xs.map Bod.v ++ [x.v])) (hg8:w7.grownBy w8 (Value.slice s.a n s.c).ownBlock) (hnew:(Value.slice s.a n s.c).ownBlock=some g8∨B≤g8) (hlt:g8 < w8.heap.size)
    (hx:BodAt B x w7) (hsm:s.xs.length < g.keep) :
    LgB (w8.setCell ⟨sb,A.length * 2+1,none⟩ (.slice (some ⟨g8,0,none⟩) (n+1) c8)) (fun j=>T j∨(B≤j∧j < (w8.setCell ⟨sb,A.length * 2+1,none⟩ (.slice (some ⟨g8,0,none⟩) (n+1) c8)).heap.size)) p q { g with segs:=A.map SgR.m ++ [⟨s.n,s.xs.map Bod.b ++ [x.b]⟩] } (some ⟨sb,0,none⟩) c (A ++ [⟨s.n,some ⟨g8,0,none⟩,c8,s.xs ++ [x]⟩])
      ∧ Off T w (w8.setCell ⟨sb,A.length * 2+1,none⟩ (.slice (some ⟨g8,0,none⟩) (n+1) c8)):=by
  subst hn
  obtain ⟨W,hW⟩:∃ W,W=w8.setCell ⟨sb,A.length * 2+1,none⟩ (.slice (some ⟨g8,0,none⟩) (s.xs.length+1) c8):=⟨_,rfl⟩
  have hWk:∀ k,k ≠ sb→W.heap[k]?=w8.heap[k]?:=fun k hk=>by rw [hW];exact heap_set_ne _ _ _ _ hk
  have hWs:W.heap.size=w8.heap.size:=by rw [hW];exact World.size_setCell _ _ _
  rw [← hW]
  have hrows:=h.rows
  have hsL:s ∈ L:=by rw [hsplit];simp
  have hsat:=hrows.rows s hsL
  have hs8:w.heap.size≤w8.heap.size:=Nat.le_trans hb7.size hg8.size
  have hv:(Value.slice s.a s.xs.length s.c)=s.v:=rfl
  rw [hv] at hg8 hnew
  have hlenL:L.length=A.length+1:=by rw [hsplit];simp
  have hsbT:T sb∧sb ≠ q:=hrows.blk sb rfl
  -- blocks that are no row of bodies stay
  have keep8:∀ j (cur:Array Value) (t:TypeId),t ≠ 38→w.heap[j]?=some (Obj.cells cur t)→w8.heap[j]?=w.heap[j]?:=fun j cur t ht hj=>by
    have hjl:=(Array.getElem?_eq_some_iff.1 hj).1
    rw [hg8.block j (Nat.lt_of_lt_of_le hjl hb7.size) fun e=>?_,hb7.block j hjl]
    obtain ⟨c1,h1⟩:=own_tag hsat.own e.symm
    rw [h1] at hj;injection hj with hj;injection hj with _ hj;exact ht hj.symm
  have hq8:w8.heap[q]?=w.heap[q]?:=keep8 q _ _ (by decide) h.box
  obtain ⟨scur,hscur⟩:=own_tag hrows.own (k:=sb) rfl
  have hsb8:w8.heap[sb]?=w.heap[sb]?:=keep8 sb _ _ (by decide) hscur
  have hg8sb:g8 ≠ sb:=fun e=>by
    obtain ⟨c1,h1⟩:=own_tag hown8 (k:=g8) rfl
    rw [e,hsb8,hscur] at h1;simp at h1
  have hgq:g8 ≠ q:=fun e=>by
    obtain ⟨c1,h1⟩:=own_tag hown8 (k:=g8) rfl
    have hb:=h.box
    unfold LB at hb
    rw [e,hq8,hb] at h1;simp at h1
  have keepU:∀ j (cur:Array Value),w.heap[j]?=some (Obj.cells cur 5)→W.heap[j]?=w.heap[j]?:=fun j cur hj=>by
    rw [hWk j fun e=>by rw [e,hscur] at hj;simp at hj]
    exact keep8 j cur _ (by decide) hj
  have hxo:BodAt B x W:=by
    refine own_stays hx fun j hj=>?_
    obtain ⟨c1,h1⟩:=own_tag hx hj
    have h2:=(own_shape hx hj).2.1
    have e1:w8.heap[j]?=w7.heap[j]?:=hg8.block j h2 fun e=>by
      obtain ⟨c2,h3⟩:=own_tag (own_below hsat.own hb7) e.symm
      rw [h1] at h3;simp at h3
    rw [hWk j fun e=>by rw [← e1,e,hsb8,hscur] at h1;simp at h1,e1]
  have hlen:(A ++ [(⟨s.n,some ⟨g8,0,none⟩,c8,s.xs ++ [x]⟩:SgR)]).length=L.length:=by rw [hlenL];simp
  refine ⟨⟨?_,.inl h.tq,fun j hj=>?_,⟨?_,?_,?_,?_⟩,?_,h.k1,h.r1,by rw [hlen];exact h.few,?_⟩,?_⟩
  · rw [hlen]
    exact ((hWk q hsbT.2.symm).trans hq8).trans h.box
  · rcases hj with hj | hj
    · exact Nat.lt_of_lt_of_le (h.low j hj) (by rw [hWs];exact hs8)
    · exact hj.2
  · rw [hlen]
    have h1:=own_stays hrows.own (w':=w8) fun j hj=>by
      have hj:sb=j:=by simpa [Value.ownBlock] using hj
      subst hj;exact hsb8
    have h2:=h1.stored (A.length * 2+1) (.slice (some ⟨g8,0,none⟩) (s.xs.length+1) c8)
    rw [← hW,hsplit,flat_last] at h2
    rw [flat_snoc]
    have e:L.length=(A ++ [s]).length:=by rw [hsplit]
    rw [e]
    have e2:(SgR.v ⟨s.n,some ⟨g8,0,none⟩,c8,s.xs ++ [x]⟩)=.slice (some ⟨g8,0,none⟩) (s.xs.length+1) c8:=by unfold SgR.v;simp
    rw [e2]
    exact h2.1
  · intro j hj
    have hj:sb=j:=by simpa [Value.ownBlock] using hj
    subst hj
    exact ⟨.inl hsbT.1,hsbT.2⟩
  · intro r hr
    rcases List.mem_append.1 hr with hr | hr
    · have hrL:r ∈ L:=by rw [hsplit];exact List.mem_append_left _ hr
      have hrat:=hrows.rows r hrL
      have hap:Apart r.v s.v:=by
        have:=hrows.apart
        rw [hsplit] at this
        exact (List.pairwise_append.1 this).2.2 r hr s (by simp)
      refine hrat.keep2 (fun j hj=>?_) keepU fun j hj=>⟨.inl hj.1,hj.2⟩
      have hjl:=(own_shape hrat.own hj).2.1
      rw [hWk j fun e=>own_tne hrat.own hrows.own (by decide) hj (k2:=sb) rfl e]
      rw [hg8.block j (Nat.lt_of_lt_of_le hjl hb7.size) fun e=>?_,hb7.block j hjl]
      rcases hap with e1 | e1 | e1
      · rw [e1] at hj;cases hj
      · rw [e1] at e;cases e
      · exact e1 (hj.trans e)
    · have hr:r=⟨s.n,some ⟨g8,0,none⟩,c8,s.xs ++ [x]⟩:=by simpa using hr
      subst hr
      refine ⟨?_,?_,?_,hsat.num⟩
      · have e2:(SgR.v ⟨s.n,some ⟨g8,0,none⟩,c8,s.xs ++ [x]⟩)=.slice (some ⟨g8,0,none⟩) (s.xs.length+1) c8:=by unfold SgR.v;simp
        rw [e2]
        show World.ownsRow _ _ _ _ _ (s.xs ++ [x]).length ((s.xs ++ [x]).map Bod.v)
        rw [List.length_append,List.map_append]
        exact own_stays hown8 fun j hj=>by
          have hj:g8=j:=by simpa [Value.ownBlock] using hj
          subst hj;exact hWk g8 hg8sb
      · intro j hj
        have hj:g8=j:=by simpa [SgR.v,Value.ownBlock] using hj
        subst hj
        rcases hnew with e | e
        · exact ⟨.inl (hsat.blk g8 e).1,(hsat.blk g8 e).2⟩
        · exact ⟨.inr ⟨e,by rw [hWs];exact hlt⟩,hgq⟩
      · intro y hy
        rcases List.mem_append.1 hy with hy | hy
        · refine ⟨own_stays (hsat.bod y hy).1 fun j hj=>?_,fun j hj=>?_⟩
          · obtain ⟨cur,hc⟩:=own_tag (hsat.bod y hy).1 hj;exact keepU j cur hc
          · have:=(hsat.bod y hy).2 j hj;exact ⟨.inl this.1,this.2⟩
        · have hy:y=x:=by simpa using hy
          subst hy
          refine ⟨own_base hxo (Nat.zero_le _),fun j hj=>?_⟩
          have:=own_shape hxo hj
          exact ⟨.inr ⟨this.1,this.2.1⟩,fun e=>by have:=hT q h.tq;omega⟩
  · have hap:=hrows.apart
    rw [hsplit] at hap
    obtain ⟨ha1,_,ha3⟩:=List.pairwise_append.1 hap
    rw [List.pairwise_append]
    refine ⟨ha1,by simp,fun r hr t ht=>?_⟩
    have ht:t=⟨s.n,some ⟨g8,0,none⟩,c8,s.xs ++ [x]⟩:=by simpa using ht
    subst ht
    have hrs:=ha3 r hr s (by simp)
    have hrL:r ∈ L:=by rw [hsplit];exact List.mem_append_left _ hr
    cases hrb:r.v.ownBlock with
    | none=>exact .inl hrb
    | some j =>
      refine .inr (.inr fun e=>?_)
      have e':j=g8:=by rw [hrb] at e;simpa [SgR.v,Value.ownBlock] using e
      rcases hnew with e1 | e1
      · rcases hrs with e2 | e2 | e2
        · rw [e2] at hrb;cases hrb
        · rw [e2] at e1;cases e1
        · exact e2 (by rw [hrb,e1,e'])
      · have h1:=hT j ((hrows.rows r hrL).blk j hrb).1
        omega
  · show A.map SgR.m ++ _=_
    rw [List.map_append]
    unfold SgR.m
    simp
  · intro r hr
    rcases List.mem_append.1 hr with hr | hr
    · exact h.small r (by rw [hsplit];exact List.mem_append_left _ hr)
    · have hr:r=⟨s.n,some ⟨g8,0,none⟩,c8,s.xs ++ [x]⟩:=by simpa using hr
      subst hr
      show (s.xs ++ [x]).length≤g.keep
      rw [List.length_append]
      exact hsm
  · refine ⟨?_,?_,?_,by rw [hWs];exact hs8,fun j hj hnt=>?_⟩
    · rw [hW];exact hg8.os.trans hb7.os
    · rw [hW];exact hg8.tape.trans hb7.tape
    · rw [hW];exact hg8.output.trans hb7.output
    · rw [hWk j fun e=>hnt (by rw [e];exact hsbT.1),hg8.block j (Nat.lt_of_lt_of_le hj hb7.size) fun e=>hnt (hsat.blk j e.symm).1,hb7.block j hj]
end Go.Proofs.YtccbpngehedbaaaGreat

namespace Go.Proofs.YtccbpngehedbaaaGreat
open Go Go.RowKit Go.Sort

/-! The landed log: slices.Delete of the first segment. -/
def laidL (xs:List Value) (j:Nat) (news:List Value):List Value:=xs.take j ++ news ++ xs.drop (j+news.length)
theorem laidL_length {xs:List Value} {j:Nat} {news:List Value} (h:j+news.length≤xs.length):(laidL xs j news).length=xs.length:=by
  unfold laidL;simp;omega
theorem laidL_cons {xs:List Value} {j:Nat} {u:Value} {us:List Value} (h:j < xs.length):laidL (xs.set j u) (j+1) us=laidL xs j (u :: us):=by
  unfold laidL
  rw [List.take_set,List.drop_set_of_lt (by omega),List.take_succ_eq_append_getElem h]
  rw [List.set_append_right _ _ (by simp [List.length_take];omega)]
  have e:j - (xs.take j).length=0:=by rw [List.length_take];omega
  rw [e]
  simp [Nat.add_assoc,Nat.add_comm 1]
theorem own_setCells {base:Nat} {e:TypeId} {size g n cap:Nat}:∀ (news:List Value) (w:World) (xs:List Value) (j:Nat),w.ownsRow base e size (.slice (some ⟨g,0,none⟩) n cap) n xs→j+news.length≤xs.length →
    (w.setCells g j news).ownsRow base e size (.slice (some ⟨g,0,none⟩) n cap) n (laidL xs j news)∧w.grownBy (w.setCells g j news) (some g)
  | [],w,xs,j,h,_=>by
    refine ⟨?_,⟨rfl,rfl,rfl,Nat.le_refl _,fun _ _ _=>rfl⟩⟩
    have e:laidL xs j []=xs:=by unfold laidL;simp
    rw [e];exact h
  | u :: us,w,xs,j,h,hl=>by
    simp only [List.length_cons] at hl
    obtain ⟨h1,g1⟩:=h.stored j u
    obtain ⟨h2,g2⟩:=own_setCells us (w.setCell ⟨g,j,none⟩ u) (xs.set j u) (j+1) h1 (by simp;omega)
    rw [laidL_cons (by omega)] at h2
    exact ⟨h2,⟨g2.os.trans g1.os,g2.tape.trans g1.tape,g2.output.trans g1.output,Nat.le_trans g1.size g2.size,fun k hk hn=>(g2.block k (Nat.lt_of_lt_of_le hk g1.size) hn).trans (g1.block k hk hn)⟩⟩
theorem own_cut {w:World} {base:Nat} {e:TypeId} {size g n k cap:Nat} {xs:List Value} (h:w.ownsRow base e size (.slice (some ⟨g,0,none⟩) n cap) n xs) (hk:k≤n) :
    w.ownsRow base e size (.slice (some ⟨g,0,none⟩) k cap) k (xs.take (k * size)):=by
  have hm:k * size≤n * size:=Nat.mul_le_mul_right _ hk
  refine ⟨by rw [List.length_take,h.1];omega,?_⟩
  rcases h.2 with ⟨h',_⟩ | ⟨g',cap',cur,h',hb,hg,hnc,hcm,hcs,htake⟩
  · simp at h'
  · simp only [Value.slice.injEq,Option.some.injEq,Addr.mk.injEq,and_true,true_and] at h'
    obtain ⟨rfl,rfl⟩:=h'
    refine .inr ⟨g,cap,cur,rfl,hb,hg,Nat.le_trans hk hnc,hcm,hcs,?_⟩
    rw [← htake,List.take_take,Nat.min_eq_left hm]
theorem run_clear_one (w:World) (t e ty:TypeId) (z:Value) (zs:List Value) (ht:Tryz.prog.underlying t=some (.slice e)) (hv:∀ w,(zeroValue e).run Tryz.prog w=.ok z w) (hz:(Builtin.zeroCells z.cells 1).toList=zs) (h1:∀ u ∈ zs,u.oneCell'=true) (b o c:Nat)
    (hc:∀ j,j < zs.length→(w.cell? ⟨b,o+j,none⟩).isSome=true) (hf:∀ j,j < zs.length→w.frozen? ⟨b,o+j,none⟩=false) :
    (Builtin.clear_ #[t] ty #[.slice (some ⟨b,o,none⟩) 1 c]).run Tryz.prog w=.ok (.tuple #[]) (w.setCells b o zs):=by
  have hst:=run_storeCells_cells (P:=Tryz.prog) b o zs 0 w (by simpa using hc) (by simpa using hf) (by intro v hv';exact h1 v hv')
  simp only [Nat.add_zero] at hst
  simp [Builtin.clear_,run_underlying ht,hv,hz,hst]
set_option maxRecDepth 20000 in
set_option maxHeartbeats 4000000 in
theorem delete_is (w : World) (sb n c : Nat) (xs : List Value) (h : w.ownsRow 0 115 2 (.slice (some ⟨sb, 0, none⟩) (n + 1) c) (n + 1) xs) (hone : ∀ u ∈ xs, u.oneCell' = true) (hn : n ≤ 1000) (hnc : n + 1 ≤ c) (_hcm : c ≤ maxLen) :
    Calls Tryz.prog 63 #[.slice (some ⟨sb,0,none⟩) (n+1) c,.int .i64 0,.int .i64 1] w fun e w'=>e=.returned (.slice (some ⟨sb,0,none⟩) n c)∧w'.ownsRow 0 115 2 (.slice (some ⟨sb,0,none⟩) n c) n (xs.drop 2)∧w.grownBy w' (some sb):=by
  obtain ⟨i0,hi0,hz0,hz1,hz2⟩:=info_parts info_seg
  have hl:=h.1
  obtain ⟨news,hnews⟩:∃ news,news=xs.drop 2:=⟨_,rfl⟩
  have hlen:news.length=n * 2:=by rw [hnews];simp;omega
  have HD:=Lib.hid (own_below h (Below_drew (Below.refl w.heap.size w)))
  obtain ⟨A,hA,hsrc⟩:∃ A:Addr,(if c=1 then (some ⟨sb,0,none⟩:Option Addr) else some ⟨sb,0+1 * 2,none⟩)=some A∧Hid (∀ t u,news[t]?=some u→w.drew.cell? (A.add t)=some u):=by
    by_cases hc:c=1
    · refine ⟨⟨sb,0,none⟩,by simp [hc],fun t u hu=>?_⟩
      have h0:news.length=0:=by rw [hlen];omega
      rw [List.length_eq_zero_iff.1 h0] at hu
      simp at hu
    · refine ⟨⟨sb,2,none⟩,by simp [hc],fun t u hu=>?_⟩
      have ht:=(List.getElem?_eq_some_iff.1 hu).1
      rw [hlen] at ht
      rw [Addr.add_lit,World.ownsRow.cellAt HD.out (2+t) (by omega),← hu,hnews,List.getElem?_drop]
  have s1:Hid (news.length=n * 2):=hlen
  have s2:Hid (∀ u ∈ news,u.oneCell'=true):=fun u hu=>hone u (by rw [hnews] at hu;exact List.mem_of_mem_drop hu)
  have s3:Hid (∀ t,t < news.length→(w.drew.cell? ⟨sb,0+0 * 2+t,none⟩).isSome=true∧w.drew.frozen? ⟨sb,0+0 * 2+t,none⟩=false):=fun t ht=>by
    rw [hlen] at ht
    rw [show 0+0 * 2+t=t by omega]
    refine ⟨?_,World.ownsRow.frozenAt HD.out t⟩
    rw [World.ownsRow.cellAt HD.out t (by omega),List.getElem?_eq_getElem (by omega)];rfl
  obtain ⟨W1,hW1⟩:∃ W1,W1=w.drew.setCells sb (0+0 * 2) news:=⟨_,rfl⟩
  have h1:=own_setCells news w.drew xs (0+0 * 2) HD.out (by omega)
  rw [← hW1] at h1
  have HO1:=Lib.hid h1.1;have HG1:=Lib.hid h1.2
  have hl1:(laidL xs (0+0 * 2) news).length=xs.length:=laidL_length (by omega)
  have hzs:(Builtin.zeroCells (Value.agg #[.int .u32 0,.slice none 0 0]).cells 1).toList=[.int .u32 0,.slice none 0 0]:=by kernel_rfl
  have hcl:∀ ty,(Builtin.clear_ #[103] ty #[.slice (some ⟨sb,n * 2,none⟩) 1 (c - n)]).run Tryz.prog W1=.ok (.tuple #[]) (W1.setCells sb (n * 2) [.int .u32 0,.slice none 0 0]):=fun ty =>
    run_clear_one W1 103 115 ty (.agg #[.int .u32 0,.slice none 0 0]) _ Tryz.underlying103 (fun w=>by first | rfl | kernel_rfl) hzs (by intro u hu;simp only [List.mem_cons,List.not_mem_nil,or_false] at hu;rcases hu with rfl | rfl <;> rfl) sb (n * 2) (c - n)
      (fun j hj=>by
        have hj:j < 2:=hj
        rw [World.ownsRow.cellAt HO1.out (n * 2+j) (by omega),List.getElem?_eq_getElem (by omega)];rfl) (fun j _=>World.ownsRow.frozenAt HO1.out _)
  have h2:=own_setCells [.int .u32 0,.slice none 0 0] W1 (laidL xs (0+0 * 2) news) (n * 2) HO1.out (by rw [hl1,hl];show _+2≤_;omega)
  have h3:=own_cut h2.1 (Nat.le_succ n)
  have e3:(laidL (laidL xs (0+0 * 2) news) (n * 2) [.int .u32 0,.slice none 0 0]).take (n * 2)=xs.drop 2:=by
    have e:laidL xs (0+0 * 2) news=news ++ xs.drop (n * 2):=by unfold laidL;simp [hlen]
    rw [e]
    unfold laidL
    rw [List.append_assoc,List.take_append_of_le_length (by simp;omega),List.take_take,Nat.min_self,List.take_append_of_le_length (by omega),List.take_of_length_le (by omega),hnews]
  rw [e3] at h3
  have HFIN:=Lib.hid h3
  have HGF:=Lib.hid h2.2
  have hW:Hid (W1=w.drew.setCells sb (0+0 * 2) news):=hW1
  have hc1:(1:Int)≤(c:Int):=by omega
  have hc2:(1:Int)≤(n:Int)+1:=by omega
  clear hW1 h1 h2 h3 e3 hl hl1 hlen hnews h hone hzs
  go_enter Tryz.func63,Tryz.ntmps63
  go_wp2_with fail
  go_region_law (refine step_append_room rfl (.tmp 22) (.tmp 25) 103 rfl 115 i0 2 Tryz.underlying103 hi0 hz1 sb 0 0 c (by simp [Act.eval,Act.put]) A n (c - 1) news (by simp [Act.eval,Act.put]) s1.out hsrc.out s2.out (by omega) s3.out ?_;rw [← hW.out])
  all_goals
    go_wp2
    go_ret
    refine ⟨rfl,HFIN.out,?_⟩
    have g1:=HG1.out
    have g2:=HGF.out
    exact ⟨g2.os.trans g1.os,g2.tape.trans g1.tape,g2.output.trans g1.output,Nat.le_trans g1.size g2.size,fun k hk hn=>(g2.block k (Nat.lt_of_lt_of_le hk g1.size) hn).trans (g1.block k hk hn)⟩
end Go.Proofs.YtccbpngehedbaaaGreat

namespace Go.Proofs.YtccbpngehedbaaaGreat
open Go Go.RowKit Go.Sort

/-! The landed log: Flush, Segs, Over. -/
theorem LgO.of_do {F:FsKit} {w w':World} {S R S' R' T:Nat→Prop} {p q:Nat} {g:LgM} {a:Option Addr} {c:Nat} {L:List SgR} {r:FSm × Int} {e:Ending} (hL:LgB w T p q g a c L) (h:DoOut F w S R T p q g a c L r e w' S' R'):LgO F w S R T p q r.1 (if r.2 ≠ 0 then g.down else g) w' :=
  ⟨S',R',T,h.fs,⟨a,c,L,h.log⟩,⟨h.s,h.r,fun _ h=>.inl h,h.dis,h.off.more fun k hk=>hk.imp id fun e=>by subst e;exact hL.tq⟩⟩
theorem flushL_safe {m:FSm} {g:LgM} {s:SgM} (ho:g.over=false) (hs:g.segs.getLast?=some s):flushL m g=((safeF m s.n).2,(safeF m s.n).1,if (safeF m s.n).2 ≠ 0 then g.down else g):=by
  unfold flushL safeF
  rw [if_neg (by rw [ho];simp),hs]
  dsimp only
  split
  · rfl
  · simp
set_option maxRecDepth 20000 in
set_option maxHeartbeats 2000000 in
theorem flush_any (F : FsKit) (w : World) (S R T : Nat → Prop) (p q : Nat) (m : FSm) (g : LgM) (a : Option Addr) (c : Nat) (L : List SgR) (k : Nat) (hF : F.Fs w S R p m) (hL : LgB w T p q g a c L) (hd : Dis T S R) (hk : Lim k m) (hk2 : k ≤ 9800) (rr : Int × FSm × LgM) (hrr : flushL m g = rr) :
    Calls Tryz.prog 50 #[.pointer (some ⟨q,0,none⟩)] w fun e w'=>e=.returned (.int .i64 rr.1)∧LgO F w S R T p q rr.2.1 rr.2.2 w':=by
  have HF:=Lib.hid hF;have HL:=Lib.hid hL;have HD:=Lib.hid hd;have HK:=Lib.hid hk;have HRR:=Lib.hid hrr
  have c3:=hL.box.c3
  have c4:=hL.box.c4
  obtain ⟨n,hn⟩:∃ n,n=L.length:=⟨_,rfl⟩
  have HN:=Lib.hid hn
  rw [← hn] at c3
  obtain ⟨ov,hov⟩:∃ ov,ov=g.over:=⟨_,rfl⟩
  have HOV:=Lib.hid hov
  rw [← hov] at c4
  clear hF hL hd hk hrr hn hov
  cases ov
  · cases hs:L.getLast? with
    | none =>
      have hn0:n=0:=by rw [HN.out,List.getLast?_eq_none_iff.1 hs];rfl
      subst hn0
      have HE:Hid (rr=(0,m,g)):=by
        show _=_
        rw [← HRR.out];unfold flushL
        rw [if_neg (by rw [← HOV.out];simp),HL.out.fresh_nil hs]
      clear hs
      go_enter Tryz.func50,Tryz.ntmps50
      go_wp2_with fail
      go_ret
      have hr:=HE.out
      subst hr
      exact ⟨rfl,LgO.of_did HF.out HL.out HD.out (Did.refl _ _ _)⟩
    | some s =>
      have hn0:((n:Int) == 0)=false:=by
        have h1:L ≠ []:=fun e=>by rw [e] at hs;cases hs
        have h2:=List.length_pos_iff.2 h1
        have:=HN.out
        exact beq_eq_false_iff_ne.2 (by omega)
      have HS:=Lib.hid hs
      have HE:Hid (rr=((safeF m s.n).2,(safeF m s.n).1,if (safeF m s.n).2 ≠ 0 then g.down else g)):=by
        show _=_
        rw [← HRR.out];exact flushL_safe HOV.out.symm (HL.out.last_seg hs)
      have HSN:Hid (s.n < 4294967296):=(HL.out.rows.rows s (List.mem_of_getLast? hs)).num
      obtain ⟨x,hx⟩:∃ x,safeF m s.n=x:=⟨_,rfl⟩
      have HX:=Lib.hid hx
      clear hs hx
      go_enter Tryz.func50,Tryz.ntmps50
      go_wp2_with fail
      refine (last_any HL.out HS.out).mono ?_
      rintro e w1 ⟨rfl,hb1⟩
      have hL1:=HL.out.did HD.out (Did.of_below hb1)
      have HF1:=Lib.hid (F.below HF.out hb1)
      have HL1:=Lib.hid hL1.1;have HD1:=Lib.hid hL1.2;have HB1:=Lib.hid hb1
      clear hL1 hb1
      unfold segV
      have hf:=field_num (.int .u32 (s.n:Int)) (.slice s.a s.xs.length s.c) w1
      go_wp2_with fail
      refine (makeSafe_any F w1 S R T p q s.n m g a c L k HF1.out HL1.out HD1.out HK.out hk2 HSN.out).mono ?_
      rintro e w6 ⟨S6,R6,h6⟩
      rw [HX.out] at h6
      have he6:=h6.e
      subst he6
      have H6:=Lib.hid (h6.after (Did.of_below HB1.out))
      clear h6 hf
      go_wp2_with fail
      go_ret
      have hr:=HE.out
      rw [HX.out] at hr
      subst hr
      exact ⟨rfl,LgO.of_do HL.out H6.out⟩
  · have HE:Hid (rr=(7,m,g)):=by
      show _=_
      rw [← HRR.out];unfold flushL
      rw [if_pos HOV.out.symm]
    go_enter Tryz.func50,Tryz.ntmps50
    go_wp2_with fail
    go_ret
    have hr:=HE.out
    subst hr
    exact ⟨rfl,LgO.of_did HF.out HL.out HD.out (Did.refl _ _ _)⟩
theorem segs_any (w:World) (T:Nat→Prop) (p q:Nat) (g:LgM) (a:Option Addr) (c:Nat) (L:List SgR) (hL:LgB w T p q g a c L) :
    Calls Tryz.prog 21 #[.pointer (some ⟨q,0,none⟩)] w fun e w'=>e=.returned (.int .i64 (g.segs.length:Int))∧Below w.heap.size w w':=by
  refine (segs_is w hL.box).mono ?_
  rintro e w' ⟨rfl,rfl⟩
  rw [hL.segs,List.length_map]
  exact ⟨rfl,Below.refl _ _⟩
end Go.Proofs.YtccbpngehedbaaaGreat

namespace Go.Proofs.YtccbpngehedbaaaGreat
open Go Go.RowKit Go.Sort

/-! The landed log: Bodies. -/
set_option maxHeartbeats 1000000 in
theorem cloneB_nil (n c:Nat) (hn:n=0) (w:World) :
    Calls Tryz.prog 54 #[.slice none n c] w fun e w'=>∃ v,e=.returned v∧w'.ownsRow w.heap.size 5 1 v 0 []∧Below w.heap.size w w':=by
  subst hn
  have q22:∀ (w:World) (a:Option Addr) (n c n' c':Nat),(binOp .eql 38 (.slice a n c) (.slice none n' c')).run Tryz.prog w=.ok (.bool a.isNone) w:=fun w a n c n' c'=>Lib.run_eql_slice_nil w _ _ a n c n' c' Tryz.underlying38
  go_enter Tryz.func54,Tryz.ntmps54
  go_wp2_with fail
  go_ret
  exact ⟨.slice none 0 0,rfl,World.ownsRow_nil _ _ _ _,Below.refl _ _⟩
theorem cloneBod (x:Bod) (a:Option Addr) (n c:Nat) (w:World) (B0:Nat) (h:BodAt B0 x w) (hx:x.v=.slice a n c) (hl:x.b.length≤1000000000000) :
    Calls Tryz.prog 54 #[.slice a n c] w fun e w'=>∃ v,e=.returned v∧w'.ownsRow w.heap.size 5 1 v x.b.length (bV x.b)∧Below w.heap.size w w':=by
  unfold BodAt at h
  obtain ⟨a',c',e,_,_,hg⟩:=own_slice h
  rw [hx] at e
  injection e with e1 e2 e3
  subst e1 e2 e3
  cases a with
  | none =>
    have h0:x.b.length=0:=by
      rcases Nat.eq_zero_or_pos x.b.length with e | e
      · exact e
      · obtain ⟨g,hg,_⟩:=hg e;cases hg
    refine (cloneB_nil _ c h0 w).mono ?_
    rintro e w' ⟨v,he,ho,hb⟩
    have e0:bV x.b=[]:=by rw [List.eq_nil_of_length_eq_zero h0];rfl
    rw [h0,e0]
    exact ⟨v,he,ho,hb⟩
  | some ad =>
    rw [hx] at h
    exact cloneB_any ad _ c x.b w rfl (Rd.own h) hl
/-- The bodies of some segments. -/
def segBs (L:List SgR):List (List UInt8):=L.flatMap fun r=>r.xs.map Bod.b
theorem LgB.all_is {w:World} {T:Nat→Prop} {p q:Nat} {g:LgM} {a:Option Addr} {c:Nat} {L:List SgR} (h:LgB w T p q g a c L):g.all=segBs L:=by
  unfold LgM.all segBs
  rw [h.segs,List.flatMap_map]
  rfl
theorem segBs_take {L:List SgR} {j:Nat} (hj:j < L.length):segBs (L.take (j+1))=segBs (L.take j) ++ L[j].xs.map Bod.b:=by
  unfold segBs
  rw [List.take_succ_eq_append_getElem hj,List.flatMap_append]
  simp
def byOf (x:Bod):By:=match x.v with | .slice a _ c=>⟨a,c,x.b⟩ | _=>⟨none,0,x.b⟩
theorem byOf_at {B0:Nat} {x:Bod} {w:World} (h:BodAt B0 x w):(byOf x).v=x.v∧(byOf x).b=x.b∧ByArg w (byOf x):=by
  unfold BodAt at h
  obtain ⟨a,c,e,h1,h2,_⟩:=own_slice h
  have e2:byOf x=⟨a,c,x.b⟩:=by unfold byOf;rw [e]
  rw [e2]
  rw [e] at h
  exact ⟨e.symm,rfl,⟨Rd.own h,h1,h2⟩⟩
theorem byOf_flat {B0:Nat} {w:World}:∀ {xs:List Bod},(∀ x ∈ xs,BodAt B0 x w)→flatG By.l (xs.map byOf)=xs.map Bod.v
  | [],_=>rfl
  | x :: xs,h=>by
    have h1:=(byOf_at (h x (List.mem_cons_self ..))).1
    have ih:=byOf_flat (xs:=xs) fun y hy=>h y (List.mem_cons_of_mem _ hy)
    rw [List.map_cons,List.map_cons,← ih,← h1]
    rfl
set_option maxRecDepth 20000 in
set_option maxHeartbeats 4000000 in
theorem bodies_any (w : World) (T : Nat → Prop) (p q : Nat) (g : LgM) (a : Option Addr) (c : Nat) (L : List SgR) (hL : LgB w T p q g a c L) (hsm : g.Small) :
    Calls Tryz.prog 22 #[.pointer (some ⟨q,0,none⟩)] w fun e w'=>∃ (a:Option Addr) (c:Nat) (xs:List By),e=.returned (.slice a xs.length c)∧xs.length≤c∧c≤maxLen∧Rd w' w'.heap.size a (flatG By.l xs)∧(∀ x ∈ xs,ByArg w' x)∧xs.map By.b=g.all∧Below w.heap.size w w':=by
  obtain ⟨i0,hi0,hz0,hz1,hz2⟩:=info_parts info_bytes
  have HZ2:=Lib.hid hz2;clear hz2
  have HL:=Lib.hid hL
  have c3:=hL.box.c3
  obtain ⟨n,hn⟩:∃ n,n=L.length:=⟨_,rfl⟩
  have HN:=Lib.hid hn
  rw [← hn] at c3
  have hn32:n≤32:=by have:=hL.few;have:=hL.r1;omega
  have HALL:Hid (g.all=segBs L):=hL.all_is
  have HTOT:Hid ((segBs L).length≤100000∧∀ b ∈ segBs L,b.length≤1000000000):=by show _∧_;rw [← HALL.out];exact ⟨hsm.2,hsm.1⟩
  clear hL hn hsm
  go_enter Tryz.func22,Tryz.ntmps22
  go_wp2_with fail
  go_loopw [3,13] (fun o i wr=>∃ (j:Nat) (xs:List Bod),j≤n∧i=.int .i64 j∧wr.ownsRow w.heap.size 38 1 o xs.length (xs.map Bod.v)∧(∀ x ∈ xs,BodAt w.heap.size x wr)∧xs.map Bod.b=segBs (L.take j)∧Below w.heap.size w wr) (fun _ i _=>n - (intOf i).toNat)
  case atStart=>exact ⟨0,[],Nat.zero_le _,rfl,World.ownsRow_nil _ _ _ _,fun _ h=>absurd h (by simp),by simp [segBs],Below.refl _ _⟩
  case round =>
    obtain ⟨j,xs,hj,rfl,ho,hbod,hxs,hb⟩:=hrel
    have HO:=Lib.hid ho;have HBD:=Lib.hid hbod;have HXS:=Lib.hid hxs;have HB:=Lib.hid hb
    obtain ⟨oa,oc,rfl,_,_,_⟩:=own_slice ho
    clear ho hbod hxs hb
    by_cases hlt:j < n
    · have hjL:j < L.length:=by rw [← HN.out];exact hlt
      obtain ⟨sb,hsb,hsbl,hlc,_,e0,e1⟩:=(HL.out.below HB.out).rows.elem hjL
      subst hsb
      obtain ⟨s,hs⟩:∃ s,L[j]=s:=⟨_,rfl⟩
      have HSAT:=Lib.hid ((HL.out.rows.rows s (by rw [← hs];exact List.getElem_mem _)))
      have HTK:=Lib.hid (segBs_take hjL)
      rw [hs] at e0 e1 HTK
      have hsx:s.xs.length≤16:=by have:=HL.out.small s (by rw [← hs];exact List.getElem_mem _);have:=HL.out.k1;omega
      have e1':wr.cell? ⟨sb,j * 2+1,none⟩=some (.slice s.a s.xs.length s.c):=e1
      obtain ⟨sn,hsn⟩:∃ sn,sn=s.xs.length:=⟨_,rfl⟩
      have HSN:=Lib.hid hsn
      rw [← hsn] at e1' hsx
      have HLT:=Lib.hid hlt
      have i1:(0:Int)≤(j:Int):=by omega
      have i2:(j:Int) < (n:Int):=by omega
      have HSW:Hid (w.heap.size≤wr.heap.size):=HB.out.size
      clear hs e1 hsn
      go_wp2_with fail
      obtain ⟨w1,hw1⟩:∃ w1,w1=wr.alloc (.cells #[.int .u32 (s.n:Int),.slice s.a sn s.c] 115):=⟨_,rfl⟩
      rw [← hw1]
      have HB1:Hid (Below wr.heap.size wr w1):=by show Below _ _ _;rw [hw1];exact box1 _ _
      have HB01:=Lib.hid (HB.out.trans (HB1.out.mono HB.out.size))
      have HO1:=Lib.hid (own_below HO.out HB1.out)
      have HBD1:Hid (∀ x ∈ xs,BodAt w.heap.size x w1):=fun x hx=>(HBD.out x hx).below HB1.out
      clear hw1
      go_loopw [3,20] (fun o i wz=>∃ (t:Nat) (ys:List Bod),t≤sn∧i=.int .i64 t∧wz.ownsRow w.heap.size 38 1 o ys.length (ys.map Bod.v)∧(∀ x ∈ ys,BodAt w.heap.size x wz)∧ys.map Bod.b=segBs (L.take j) ++ (s.xs.take t).map Bod.b∧Below w.heap.size w wz) (fun _ i _=>sn - (intOf i).toNat)
      case atStart=>exact ⟨0,xs,Nat.zero_le _,rfl,HO1.out,HBD1.out,by rw [HXS.out];simp,HB01.out⟩
      case round =>
        obtain ⟨t,ys,ht,rfl,ho,hbod,hys,hb⟩:=hrel
        have HOW:=Lib.hid ho;have HBDW:=Lib.hid hbod;have HYS:=Lib.hid hys;have HBW:=Lib.hid hb
        obtain ⟨oa2,oc2,rfl,_,_,_⟩:=own_slice ho
        clear ho hbod hys hb
        by_cases hlt2:t < sn
        · have htL : t < s.xs.length := by rw [← HSN.out]; exact hlt2
          have HSATW:=Lib.hid (HSAT.out.move (T':=T) (fun k hk=>HBW.out.block k (HL.out.low k hk.1)) fun k hk=>hk.1)
          obtain ⟨sa2,sc2,hsv,_,_,hg⟩:=own_slice HSATW.out.own
          have hsv2:s.a=sa2∧s.c=sc2:=by unfold SgR.v at hsv;injection hsv with e1 _ e3;exact ⟨e1,e3⟩
          obtain ⟨g2,hga,_,hgl⟩:=hg (by omega)
          have hsa:s.a=some ⟨g2,0,none⟩:=hsv2.1.trans hga
          have hcell:wr.cell? ⟨g2,t,none⟩=some (s.xs[t].v):=by
            have hown:=HSATW.out.own
            unfold SgR.v at hown
            rw [hsa] at hown
            rw [World.ownsRow.cellAt hown t (by omega)]
            simp [htL]
          obtain ⟨x,hx⟩:∃ x,s.xs[t]=x:=⟨_,rfl⟩
          rw [hx] at hcell
          have HXAT:=Lib.hid (HSATW.out.bod x (by rw [← hx];exact List.getElem_mem _)).1
          obtain ⟨xa,xc,hxv,_,_,_⟩:=own_slice HXAT.out
          have HXV:=Lib.hid hxv
          rw [hxv] at hcell
          have HTK2:Hid ((s.xs.take (t+1)).map Bod.b=(s.xs.take t).map Bod.b ++ [x.b]):=by
            show _=_
            rw [List.take_succ_eq_append_getElem htL,hx,List.map_append];rfl
          have HYL:Hid (ys.length≤100000∧x.b.length≤1000000000):=by
            have h1:=congrArg List.length HYS.out
            have hmem:∀ b,b ∈ segBs (L.take j) ++ s.xs.map Bod.b→b ∈ segBs L:=fun b hb=>by
              rw [← HTK.out] at hb
              have:=List.take_append_drop (j+1) L
              rw [← this];unfold segBs at hb ⊢;rw [List.flatMap_append];exact List.mem_append_left _ hb
            have hlen:(segBs (L.take j) ++ s.xs.map Bod.b).length≤(segBs L).length:=by
              rw [← HTK.out]
              have:=List.take_append_drop (j+1) L
              conv=>rhs;rw [← this]
              unfold segBs;rw [List.flatMap_append,List.length_append];omega
            simp only [List.length_append,List.length_map,List.length_take] at h1 hlen
            refine ⟨by have:=HTOT.out.1;omega,HTOT.out.2 _ (hmem _ (List.mem_append_right _ (List.mem_map.2 ⟨x,by rw [← hx];exact List.getElem_mem _,rfl⟩)))⟩
          have hyl:=HYL.out.1
          have HLT2:=Lib.hid hlt2
          have i3:(0:Int)≤(t:Int):=by omega
          have i4:(t:Int) < (sn:Int):=by omega
          have HSZW:Hid (w.heap.size≤wr.heap.size):=HBW.out.size
          obtain ⟨yn,hyn⟩:∃ yn,yn=ys.length:=⟨_,rfl⟩
          have HYN:=Lib.hid hyn
          rw [← hyn] at hyl HOW ⊢
          clear hx hxv hg hsv hsv2 hga hyn
          rw [hsa]
          go_wp2_with fail
          refine (cloneBod x xa x.b.length xc wr 0 HXAT.out HXV.out (by have:=HYL.out.2;omega)).mono ?_
          rintro e w3 ⟨v3,rfl,ho3,hb3⟩
          have HO3:=Lib.hid (own_base (base':=w.heap.size) ho3 HSZW.out)
          have HOW3:=Lib.hid (own_below HOW.out hb3)
          have HBD3:Hid (∀ y ∈ ys,BodAt w.heap.size y w3):=fun y hy=>(HBDW.out y hy).below hb3
          have HB3:=Lib.hid (HBW.out.trans (hb3.mono HBW.out.size))
          have HSZ3:Hid (w.heap.size≤w3.heap.size):=HB3.out.size
          obtain ⟨va3,vc3,rfl,_,_,_⟩:=own_slice ho3
          clear ho3 hb3
          go_wp2_with (at_builtin; (refine wpList_append_rd _ rfl (.tmp 24) (.tmp 27) 23 rfl w.heap.size 38 i0 _ 1 24 Tryz.underlying23 hi0 hz0 hz1 HZ2.out rfl (by omega) _ yn _ rfl (own_below HOW3.out (box1 w3 (.cells #[.slice va3 x.b.length vc3] 38))) _ _ 1 _ [.slice va3 x.b.length vc3] rfl rfl (lit_rd w3 #[.slice va3 x.b.length vc3] _) (by simp [Value.oneCell']) (by unfold maxLen; omega) (by omega) (by have := HSZ3.out; simp; omega) ?_)
                       intro v10 w10 hown10 hg10 _
                       have HO10:=Lib.hid hown10
                       have HG10:=Lib.hid hg10
                       have HB10:=Lib.hid (Below.of_grown (HB3.out.alloc HB3.out.size (.cells #[.slice va3 x.b.length vc3] 38)) hg10 (by have:=HSZ3.out;simp;omega) (by intro g hg;exact (own_shape HOW3.out hg).1))
                       clear hown10 hg10)
          go_roundw
          case rel =>
            refine ⟨t+1,ys ++ [⟨.slice va3 x.b.length vc3,x.b,0⟩],HLT2.out,by go_num,?_,?_,?_,HB10.out⟩
            · have h:=HO10.out
              rw [HYN.out] at h
              rw [List.length_append,List.map_append]
              exact h
            · intro y hy
              have hkept:∀ z:Bod,BodAt w.heap.size z w3→BodAt w.heap.size z w10:=fun z hz=>by
                have hz1:=own_below hz (box1 w3 (.cells #[.slice va3 x.b.length vc3] 38))
                refine own_stays hz1 fun k hk=>?_
                refine HG10.out.block k (own_shape hz1 hk).2.1 fun e=>?_
                exact own_tne hz1 (own_below HOW3.out (box1 w3 (.cells #[.slice va3 x.b.length vc3] 38))) (by decide) hk e.symm rfl
              rcases List.mem_append.1 hy with hy | hy
              · exact hkept y (HBD3.out y hy)
              · have hy:y=⟨.slice va3 x.b.length vc3,x.b,0⟩:=by simpa using hy
                subst hy
                exact hkept _ HO3.out
            · rw [List.map_append,HYS.out,HTK2.out,List.append_assoc];rfl
          case measure=>have:=HLT2.out;simp [intOf];omega
        · have:t=sn:=by omega
          subst this
          go_wp2_with fail
          go_roundw
          case rel =>
            refine ⟨j+1,ys,HLT.out,by go_num,HOW.out,HBDW.out,?_,HBW.out⟩
            rw [HYS.out,HTK.out,HSN.out,List.take_length]
          case measure=>have:=HLT.out;simp [intOf];omega
    · have:j=n:=by omega
      subst this
      go_wp2_with fail
      go_ret
      refine ⟨oa,oc,xs.map byOf,by rw [List.length_map];rfl,?_,?_,?_,?_,?_,HB.out⟩
      · obtain ⟨_,_,e,h1,h2,_⟩:=own_slice HO.out
        injection e with _ _ e3
        rw [List.length_map];omega
      · obtain ⟨_,_,e,h1,h2,_⟩:=own_slice HO.out
        injection e with _ _ e3
      · rw [byOf_flat HBD.out]
        exact Rd.own HO.out
      · intro y hy
        obtain ⟨x,hx,rfl⟩:=List.mem_map.1 hy
        exact (byOf_at (HBD.out x hx)).2.2
      · rw [HALL.out,List.map_map]
        have e:xs.map (By.b ∘ byOf)=xs.map Bod.b:=List.map_congr_left fun x hx=>(byOf_at (HBD.out x hx)).2.1
        rw [e,HXS.out,HN.out,List.take_length]
end Go.Proofs.YtccbpngehedbaaaGreat

namespace Go.Proofs.YtccbpngehedbaaaGreat
open Go Go.RowKit Go.Sort

/-! The landed log: Expire. -/
theorem LgB.rest {w w2 w3:World} {T:Nat→Prop} {p q:Nat} {g:LgM} {sb c:Nat} {s:SgR} {A:List SgR} (h:LgB w T p q g (some ⟨sb,0,none⟩) c (s :: A)) {n:Nat} (hn:n=A.length) (hb2:Below w.heap.size w w2)
    (ho:w3.ownsRow 0 115 2 (.slice (some ⟨sb,0,none⟩) n c) n (flatG SgR.l A)) (hg:w2.grownBy w3 (some sb)) :
    LgB (w3.setCell ⟨q,3,none⟩ (.slice (some ⟨sb,0,none⟩) n c)) T p q { g with segs:=A.map SgR.m } (some ⟨sb,0,none⟩) c A∧Off T w (w3.setCell ⟨q,3,none⟩ (.slice (some ⟨sb,0,none⟩) n c)):=by
  subst hn
  have hrows:=h.rows
  have hsbT:T sb∧sb ≠ q:=hrows.blk sb rfl
  have box3:LB w3 q p g.keep g.room (.slice (some ⟨sb,0,none⟩) (s :: A).length c) g.over:=(h.box.below hb2 h.box.lt).grown hg fun e=>hsbT.2 (by injection e with e;exact e.symm)
  have hs3:w.heap.size≤w3.heap.size:=Nat.le_trans hb2.size hg.size
  have hk3:∀ k,k < w.heap.size→k ≠ sb→w3.heap[k]?=w.heap[k]?:=fun k hk hne=>by
    rw [hg.block k (Nat.lt_of_lt_of_le hk hb2.size) fun e=>hne (by injection e),hb2.block k hk]
  obtain ⟨scur,hscur⟩:=own_tag hrows.own (k:=sb) rfl
  refine ⟨⟨box3.set3 _,h.tq,fun k hk=>by rw [World.size_setCell];exact Nat.lt_of_lt_of_le (h.low k hk) hs3,⟨?_,?_,fun r hr=>?_,(List.pairwise_cons.1 hrows.apart).2⟩,rfl,h.k1,h.r1,by have:=h.few;simp at this;show A.length≤g.room;omega,fun r hr=>h.small r (List.mem_cons_of_mem _ hr)⟩,?_⟩
  · exact own_stays ho fun k hk=>heap_set_ne _ _ _ _ fun e=>by
      have:sb=k:=by simpa [Value.ownBlock] using hk
      exact hsbT.2 (this.trans e)
  · exact fun k hk=>hrows.blk k (by simpa [Value.ownBlock] using hk)
  · refine (hrows.rows r (List.mem_cons_of_mem _ hr)).keep (fun k cur hc ht=>?_) fun k hk=>hk
    have hkw:k < w.heap.size:=h.low k ht.1
    rw [heap_set_ne _ _ _ _ ht.2]
    refine hk3 k hkw fun e=>?_
    subst e
    rcases hc with hc | hc
    · rw [hscur] at hc;simp at hc
    · rw [hscur] at hc;simp at hc
  · refine ⟨hg.os.trans hb2.os,hg.tape.trans hb2.tape,hg.output.trans hb2.output,by rw [World.size_setCell];exact hs3,fun k hk hn=>?_⟩
    rw [heap_set_ne _ _ _ _ fun e=>hn (by rw [e];exact h.tq)]
    exact hk3 k hk fun e=>hn (by rw [e];exact hsbT.1)
theorem LgO.after_do {F:FsKit} {w w1 w':World} {S R T S1 R1 S' R':Nat→Prop} {p q:Nat} {g1:LgM} {a:Option Addr} {c:Nat} {L:List SgR} {r:FSm × Int} {e:Ending} (h0:DidL S R T S1 R1 T w w1) (ht:T q) (h:DoOut F w1 S1 R1 T p q g1 a c L r e w' S' R'):LgO F w S R T p q r.1 (if r.2 ≠ 0 then g1.down else g1) w' :=
  ⟨S',R',T,h.fs,⟨a,c,L,h.log⟩,h0.trans ⟨h.s,h.r,fun _ h=>.inl h,h.dis,h.off.more fun k hk=>hk.imp id fun e=>by subst e;exact ht⟩⟩
theorem takeL_run (m:FSm) (n:Nat):takeL m n=runA [fun m=>removeF m n,fun m=>syncF m n] m:=by
  rw [runA_two];rfl
theorem flat_drop (s:SgR) (A:List SgR):(flatG SgR.l (s :: A)).drop 2=flatG SgR.l A:=rfl
set_option maxRecDepth 20000 in
set_option maxHeartbeats 4000000 in
theorem expire_any (F : FsKit) (w : World) (S R T : Nat → Prop) (p q : Nat) (m : FSm) (g : LgM) (a : Option Addr) (c : Nat) (L : List SgR) (k : Nat) (hF : F.Fs w S R p m) (hL : LgB w T p q g a c L) (hd : Dis T S R) (hk : Lim k m) (hk2 : k ≤ 9800) (rr : Int × FSm × LgM) (hrr : expireL m g = rr) :
    Calls Tryz.prog 27 #[.pointer (some ⟨q,0,none⟩)] w fun e w'=>e=.returned (.int .i64 rr.1)∧LgO F w S R T p q rr.2.1 rr.2.2 w':=by
  have HF:=Lib.hid hF;have HL:=Lib.hid hL;have HD:=Lib.hid hd;have HK:=Lib.hid hk;have HRR:=Lib.hid hrr
  have c3:=hL.box.c3
  have c4:=hL.box.c4
  obtain ⟨ov,hov⟩:∃ ov,ov=g.over:=⟨_,rfl⟩
  have HOV:=Lib.hid hov
  rw [← hov] at c4
  clear hF hL hd hk hrr hov
  cases ov
  · cases L with
    | nil =>
      have HE:Hid (rr=(5,m,g)):=by
        show _=_
        rw [← HRR.out];unfold expireL
        rw [if_neg (by rw [← HOV.out];simp),HL.out.segs]
        rfl
      go_enter Tryz.func27,Tryz.ntmps27
      go_wp2_with fail
      go_ret
      have hr:=HE.out
      subst hr
      exact ⟨rfl,LgO.of_did HF.out HL.out HD.out (Did.refl _ _ _)⟩
    | cons s A =>
      obtain ⟨sb,hsb,hsbl,hlc,hcm,e0,e1⟩:=HL.out.rows.elem (i:=0) (by simp)
      subst hsb
      obtain ⟨n,hn⟩:∃ n,n=A.length:=⟨_,rfl⟩
      have HN:=Lib.hid hn
      have hll:(s :: A).length=n+1:=by rw [hn];rfl
      rw [hll] at c3 hlc
      have hn32:n≤32:=by have:=HL.out.few;have:=HL.out.r1;omega
      have e0':w.cell? ⟨sb,0,none⟩=some (.int .u32 (s.n:Int)):=e0
      have e1':w.cell? ⟨sb,1,none⟩=some (.slice s.a s.xs.length s.c):=e1
      obtain ⟨sn,hsn⟩:∃ sn,sn=s.xs.length:=⟨_,rfl⟩
      have HSN:=Lib.hid hsn
      rw [← hsn] at e1'
      have hn0:(((n+1:Nat):Int) == 0)=false:=beq_eq_false_iff_ne.2 (by omega)
      have hn0':(((n:Int)+1) == 0)=false:=beq_eq_false_iff_ne.2 (by omega)
      have i1:(0:Int) < ((n+1:Nat):Int):=by omega
      have i2:(0:Int) < (n:Int)+1:=by omega
      obtain ⟨se,hse⟩:∃ se,decide (sn=g.keep)=se:=⟨_,rfl⟩
      have HSE:=Lib.hid hse
      have HSEG:Hid (g.segs=s.m :: A.map SgR.m):=HL.out.segs
      have HBOX:=Lib.hid HL.out.box
      have HSB:Hid (sb < w.heap.size):=hsbl
      clear e0 e1 hn hsn hse hll
      cases se
      · have HE:Hid (rr=(5,m,g)):=by
          show _=_
          rw [← HRR.out];unfold expireL
          rw [if_neg (by rw [← HOV.out];simp),HSEG.out]
          dsimp only
          rw [if_pos]
          show ¬ (s.xs.map Bod.b).length=_
          rw [List.length_map,← HSN.out]
          simpa using HSE.out
        go_enter Tryz.func27,Tryz.ntmps27
        go_wp2_with fail
        refine (isSealed_is w HBOX.out s.n sn s.c s.a false HSE.out).mono ?_
        rintro e w1 ⟨rfl,hb1⟩
        have HB1:=Lib.hid hb1
        clear hb1
        go_wp2_with fail
        go_ret
        have hr:=HE.out
        subst hr
        exact ⟨rfl,LgO.of_did (F.below HF.out HB1.out) HL.out HD.out (Did.of_below HB1.out)⟩
      · obtain ⟨x, hx⟩ : ∃ x, runA [fun m => removeF m s.n, fun m => syncF m s.n] m = x := ⟨_, rfl⟩
        have HX:=Lib.hid hx
        have HE:Hid (rr=(x.2,x.1,if x.2 ≠ 0 then { g with segs:=A.map SgR.m,over:=true } else { g with segs:=A.map SgR.m })):=by
          show _=_
          rw [← HRR.out,← HX.out,← takeL_run];unfold expireL
          rw [if_neg (by rw [← HOV.out];simp),HSEG.out]
          dsimp only
          rw [if_neg]
          · rfl
          · show ¬ ¬ (s.xs.map Bod.b).length=_
            rw [List.length_map,← HSN.out]
            simpa using HSE.out
        have HSNUM:Hid (s.n < 4294967296):=(HL.out.rows.rows s (List.mem_cons_self ..)).num
        clear hx
        go_enter Tryz.func27,Tryz.ntmps27
        go_wp2_with fail
        refine (isSealed_is w HBOX.out s.n sn s.c s.a true HSE.out).mono ?_
        rintro e w1 ⟨rfl,hb1⟩
        have HB1:=Lib.hid hb1
        have d3:w1.cell? ⟨q,3,none⟩=some (.slice (some ⟨sb,0,none⟩) (n+1) c):=(hb1.cell (p:=⟨q,3,none⟩) HBOX.out.lt).trans c3
        have d0:w1.cell? ⟨sb,0,none⟩=some (.int .u32 (s.n:Int)):=(hb1.cell (p:=⟨sb,0,none⟩) HSB.out).trans e0'
        have d1:w1.cell? ⟨sb,1,none⟩=some (.slice s.a sn s.c):=(hb1.cell (p:=⟨sb,1,none⟩) HSB.out).trans e1'
        obtain ⟨w2,hw2⟩:∃ w2,w2=w1.alloc (.cells #[.int .u32 (s.n:Int),.slice s.a sn s.c] 115):=⟨_,rfl⟩
        have HB12:Hid (Below w1.heap.size w1 w2):=by show Below _ _ _;rw [hw2];exact box1 _ _
        have HB2:=Lib.hid (hb1.trans (HB12.out.mono hb1.size))
        have HBX2:Hid (w2.heap[w1.heap.size]?=some (.cells #[.int .u32 (s.n:Int),.slice s.a sn s.c] 115)):=by show _=_;rw [hw2];exact heap_alloc_new _ _
        have hrow2:=own_below HL.out.rows.own HB2.out
        have HROW2:Hid (w2.ownsRow 0 115 2 (.slice (some ⟨sb,0,none⟩) (n+1) c) (n+1) (flatG SgR.l (s :: A))):=by
          show World.ownsRow _ _ _ _ _ _ _;rw [HN.out];exact hrow2
        have dd3:w2.cell? ⟨q,3,none⟩=some (.slice (some ⟨sb,0,none⟩) (n+1) c):=(HB2.out.cell (p:=⟨q,3,none⟩) HBOX.out.lt).trans c3
        have HW1S:Hid (w.heap.size≤w1.heap.size):=hb1.size
        have d3a:∀ o:Obj,(w1.alloc o).cell? ⟨q,3,none⟩=some (.slice (some ⟨sb,0,none⟩) (n+1) c):=fun o=>((box1 w1 o).cell (p:=⟨q,3,none⟩) (Nat.lt_of_lt_of_le HBOX.out.lt hb1.size)).trans d3
        clear hb1 hrow2
        go_wp2_with fail
        rw [← hw2]
        clear hw2 d3a
        refine (delete_is w2 sb n c _ HROW2.out (flatG_all (fun r u hu=>SgR.one r u hu) _) (by omega) hlc hcm).mono ?_
        rintro e w3 ⟨rfl,ho3,hg3⟩
        have HO3:=Lib.hid ho3;have HG3:=Lib.hid hg3
        rw [flat_drop] at HO3
        have hrest:=LgB.rest HL.out HN.out HB2.out HO3.out HG3.out
        have HREST:=Lib.hid hrest
        obtain ⟨w4,hw4⟩:∃ w4,w4=w3.setCell ⟨q,3,none⟩ (.slice (some ⟨sb,0,none⟩) n c):=⟨_,rfl⟩
        rw [← hw4] at hrest
        have hqsb:some q ≠ some sb:=fun e=>(HL.out.rows.blk sb rfl).2 (by injection e with e;exact e.symm)
        have box3:=(HBOX.out.below HB2.out HBOX.out.lt).grown hg3 hqsb
        rw [show (s :: A).length=n+1 by rw [HN.out];rfl] at box3
        have f3:w3.frozen? ⟨q,3,none⟩=false:=box3.fz 3
        have g3:w3.cell? ⟨q,3,none⟩=some (.slice (some ⟨sb,0,none⟩) (n+1) c):=box3.c3
        have hb3:w3.heap[w1.heap.size]?=some (.cells #[.int .u32 (s.n:Int),.slice s.a sn s.c] 115):=by
          rw [hg3.block _ (Array.getElem?_eq_some_iff.1 HBX2.out).1 fun e=>by injection e with e;have:=HSB.out;have:=HW1S.out;omega]
          exact HBX2.out
        have hb4:w4.heap[w1.heap.size]?=some (.cells #[.int .u32 (s.n:Int),.slice s.a sn s.c] 115):=by
          rw [hw4,heap_set_ne _ _ _ _ fun e=>by have:=HBOX.out.lt;have:=HW1S.out;omega]
          exact hb3
        have x0:w4.cell? ⟨w1.heap.size,0,none⟩=some (.int .u32 (s.n:Int)):=by simp [World.cell?,hb4]
        have HXL:Hid (w1.heap.size < w4.heap.size):=(Array.getElem?_eq_some_iff.1 hb4).1
        obtain ⟨hl4,ho4⟩:=hrest
        have hF4:F.Fs w4 S R p m:=F.move HF.out ho4.size fun k hk=>ho4.block k (hk.elim ((F.low HF.out).1 k) ((F.low HF.out).2 k)) fun ht=>hk.elim (HD.out k ht).1 (HD.out k ht).2
        have hD4:DidL S R T S R T w w4:=⟨fun _ h=>.inl h,fun _ h=>.inl h,fun _ h=>.inl h,HD.out,ho4.more fun _ h=>.inr h⟩
        have HL4:=Lib.hid (hl4.below (Below_drew (Below.refl w4.heap.size w4)))
        have HF4:=Lib.hid (F.below hF4 (Below_drew (Below.refl w4.heap.size w4)))
        have HD4:=Lib.hid (hD4.trans (DidL.of_did hl4.low HD.out (Did.of_below (Below_drew (Below.refl w4.heap.size w4)))))
        have kq:∀ w',Below w4.drew.heap.size w4.drew w'→w'.cell? ⟨q,0,none⟩=some (.pointer (some ⟨p,0,none⟩))∧w'.cell? ⟨w1.heap.size,0,none⟩=some (.int .u32 (s.n:Int)):=fun w' h =>
          ⟨(h.cell (p:=⟨q,0,none⟩) HL4.out.box.lt).trans HL4.out.box.c0,(h.cell (p:=⟨w1.heap.size,0,none⟩) HXL.out).trans x0⟩
        have HACT:=Lib.hid (acts_two (ok_remove F p s.n HSNUM.out w4.drew fun _=>False) (ok_sync F p s.n HSNUM.out w4.drew fun _=>False))
        have HNS:Hid (¬ (S w1.heap.size∨w1.heap.size=q)):=fun h=>by
          rcases h with h | h
          · have:=(F.low HF.out).1 _ h;have:=HW1S.out;omega
          · have:=HBOX.out.lt;have:=HW1S.out;omega
        clear ho3 hg3 box3 hb3 hb4 x0 hl4 ho4 hF4 hD4
        go_wp2_with fail
        rw [← hw4]
        clear hw4 f3 g3
        go_region_held_law (fun w'=>w'.cell? ⟨q,0,none⟩=some (.pointer (some ⟨p,0,none⟩))∧w'.cell? ⟨w1.heap.size,0,none⟩=some (.int .u32 (s.n:Int))) (first | exact HC9.out | exact kq _ (Below.refl _ _) | exact kq _ ((Below.refl _ _).alloc (Nat.le_refl _) _))
          (first
            | (go_at_call 58
               refine (do_fresh F w4.drew S R T (fun _=>False) p q s.n m _ _ c A k #[meV 64 p,meV 65 p] [fun m=>removeF m s.n,fun m=>syncF m s.n] 2 2 HF4.out HL4.out HD.out HK.out (by simp;omega) rfl rfl (fun _ h=>h.elim) HACT.out _ rfl x HX.out).mono ?_
               rintro e w5 ⟨S5,R5,h5⟩
               have he5:=h5.e
               subst he5
               have HC9:Hid (w5.cell? ⟨q,0,none⟩=some (.pointer (some ⟨p,0,none⟩))∧w5.cell? ⟨w1.heap.size,0,none⟩=some (.int .u32 (s.n:Int))):=by
                 refine ⟨?_,?_⟩
                 · have hbx:=h5.log.box
                   exact hbx.c0
                 · rw [h5.off.cell (p:=⟨w1.heap.size,0,none⟩) HXL.out HNS.out]
                   exact (kq _ (Below.refl _ _)).2
               have H5:=Lib.hid h5
               clear h5))
        all_goals
          clear kq
          go_wp2_with fail
          go_ret
          have hr:=HE.out
          subst hr
          exact ⟨rfl,LgO.after_do HD4.out HL.out.tq H5.out⟩
  · have HE:Hid (rr=(7,m,g)):=by
      show _=_
      rw [← HRR.out];unfold expireL
      rw [if_pos HOV.out.symm]
    go_enter Tryz.func27,Tryz.ntmps27
    go_wp2_with fail
    go_ret
    have hr:=HE.out
    subst hr
    exact ⟨rfl,LgO.of_did HF.out HL.out HD.out (Did.refl _ _ _)⟩
end Go.Proofs.YtccbpngehedbaaaGreat

namespace Go.Proofs.YtccbpngehedbaaaGreat
open Go Go.RowKit Go.Sort

/-! The landed log: Append. -/
theorem isB_may {b:List UInt8} (h:isB b=true):mayF b.length=true:=by
  refine mayF_iff.2 ⟨?_,isB_small h⟩
  unfold isB at h
  have h0:errW (getW b)=0:=by simpa using h
  cases hg:getW b with
  | error e=>rw [hg] at h0;exact absurd h0 (getW_err hg)
  | ok L =>
    obtain ⟨h1,h2,_⟩:=getW_back hg
    have:=batchL_length h2
    rw [h1] at this;omega
theorem runA_append (A B:List (FSm→FSm × Int)):∀ m,runA (A ++ B) m=if (runA A m).2 ≠ 0 then runA A m else runA B (runA A m).1:=by
  induction A with
  | nil=>intro m;show runA B m=if (0:Int) ≠ 0 then _ else runA B m;rw [if_neg (by simp)]
  | cons a A ih =>
    intro m
    show (if (a m).2 ≠ 0 then a m else runA (A ++ B) (a m).1)=if (if (a m).2 ≠ 0 then a m else runA A (a m).1).2 ≠ 0 then (if (a m).2 ≠ 0 then a m else runA A (a m).1) else runA B (if (a m).2 ≠ 0 then a m else runA A (a m).1).1
    by_cases h:(a m).2 ≠ 0
    · rw [if_pos h,if_pos h,if_pos h]
    · rw [if_neg h,if_neg h,ih]
theorem runA_begin (m:FSm) (g:LgM) (fr:Bool) (hf:g.fresh=fr):runA (if fr=true then [fun m=>createF m g.next,fun m=>appendF m g.next (bs (headL g.next g.keep))] else []) m=beginL m g:=by
  unfold beginL
  rw [hf]
  cases fr
  · rfl
  · rw [if_pos rfl,if_pos rfl,runA_two]
theorem runA_seal (m:FSm) (g:LgM) (l:List UInt8) (fr se:Bool) (hf:g.fresh=fr) (hse:decide (g.cur.L.length+1=g.keep)=se):runA (actsF g g.cur.n l fr se) m=sealL m g l:=by
  have hb:(if fr=true then [fun m=>createF m g.cur.n,fun m=>appendF m g.cur.n (bs (headL g.cur.n g.keep))] else [])=(if fr=true then [fun m=>createF m g.next,fun m=>appendF m g.next (bs (headL g.next g.keep))] else []):=by
    cases fr
    · rfl
    · have e:g.cur.n=g.next:=by unfold LgM.cur;rw [if_pos hf]
      rw [e]
  unfold actsF
  rw [hb,runA_append,runA_append,runA_begin m g fr hf,runA_one]
  unfold sealL addL
  have hs:∀ m',runA (if se=true then [fun m=>syncF m g.cur.n] else []) m'=if g.cur.L.length+1=g.keep then syncF m' g.cur.n else (m',0):=fun m'=>by
    cases se
    · have h0:¬ g.cur.L.length+1=g.keep:=by simpa using hse
      rw [if_neg h0];rfl
    · have h0:g.cur.L.length+1=g.keep:=by simpa using hse
      rw [if_pos h0];exact runA_one _ _
  rw [hs]
  by_cases h1:(beginL m g).2 ≠ 0
  · rw [if_pos h1,if_pos h1,if_pos h1]
  · rw [if_neg h1,if_neg h1]
    by_cases h2:(appendF (beginL m g).1 g.cur.n (bs (frL l))).2 ≠ 0
    · rw [if_pos h2,if_pos h2]
    · rw [if_neg h2,if_neg h2]
      split
      · rfl
      · exact Prod.ext rfl (Classical.not_not.1 h2).symm
/-- Where the next batch goes. -/
theorem LgB.goes {w : World} {T : Nat → Prop} {p q : Nat} {g : LgM} {a : Option Addr} {c : Nat} {L : List SgR} (h : LgB w T p q g a c L) (hf : g.full = false) :
    ∃ b s,GoesTo g L b s∧s.m=g.cur∧s.n < 4294967296∧s.xs.length < g.keep∧(b=true→L.length < g.room):=by
  obtain ⟨fr,hfr⟩:∃ fr,g.fresh=fr:=⟨_,rfl⟩
  have hl:g.segs.length=L.length:=by rw [h.segs,List.length_map]
  cases fr
  · cases hs:L.getLast? with
    | none =>
      have h0:=h.fresh_nil hs
      unfold LgM.fresh at hfr;rw [h0] at hfr;cases hfr
    | some s =>
      have h0:=h.last_seg hs
      have hsL:=List.mem_of_getLast? hs
      refine ⟨false,s,⟨hfr,fun e=>(by cases e),fun _=>hs⟩,?_,(h.rows.rows s hsL).num,?_,fun e=>(by cases e)⟩
      · unfold LgM.cur;rw [hfr,if_neg (by simp),h0];rfl
      · unfold LgM.fresh at hfr;rw [h0] at hfr
        have h1:¬ (s.xs.map Bod.b).length=g.keep:=by simpa [SgR.m] using hfr
        rw [List.length_map] at h1
        have:=h.small s hsL
        omega
  · have hk:=h.k1
    unfold LgM.full at hf
    rw [hfr,Bool.true_and,Bool.or_eq_false_iff] at hf
    have hroom:¬ g.room≤g.segs.length:=by simpa using hf.1
    refine ⟨true,⟨g.next,none,0,[]⟩,⟨hfr,fun _=>rfl,fun e=>(by cases e)⟩,?_,?_,(by show 0 < g.keep;omega),fun _=>by omega⟩
    · unfold LgM.cur;rw [hfr,if_pos rfl];rfl
    · show g.next < _
      unfold LgM.next
      cases hs:L.getLast? with
      | none=>rw [h.fresh_nil hs];dsimp only;omega
      | some s =>
        have h0:=h.last_seg hs
        rw [h0] at hf ⊢
        have h1:¬ s.n=4294967295:=of_decide_eq_false hf.2
        have h2:=(h.rows.rows s (List.mem_of_getLast? hs)).num
        show s.n+1 < _
        omega
/-- The log, behind the acts: the segment that the batch goes to is its last one. -/
def ToLast (F:FsKit) (S R T:Nat→Prop) (p q:Nat) (m:FSm) (g:LgM) (b:List UInt8) (w wc:World):Prop :=
  ∃ (S1 R1 T1:Nat→Prop) (g1:LgM) (sb c1:Nat) (A:List SgR) (s:SgR),LgB wc T1 p q g1 (some ⟨sb,0,none⟩) c1 (A ++ [s])∧F.Fs wc S1 R1 p m∧DidL S R T S1 R1 T1 w wc∧s.xs.length < g.keep∧g1.keep=g.keep∧{ g1 with segs:=A.map SgR.m ++ [⟨s.n,s.xs.map Bod.b ++ [b]⟩] }=g.push b
theorem own_rdn {U:Nat→Prop} {w:World} {base n c size:Nat} {e:TypeId} {a:Option Addr} {cs:List Value} (h:w.ownsRow base e size (.slice a n c) n cs) (hU:∀ k,U k→k < base):RdN U w a cs:=fun h0=>by
  obtain ⟨b,off,ha,hlt,hc⟩:=Rd.own h h0
  subst ha
  have hs:=(own_shape (k:=b) h rfl).1
  exact ⟨b,off,rfl,hlt,fun hk=>by have:=hU b hk;omega,hc⟩
theorem push_same {g:LgM} {L A:List SgR} {s:SgR} (hs:g.segs=L.map SgR.m) (hL:L=A ++ [s]) (hf:g.fresh=false) (b:List UInt8):{ g with segs:=A.map SgR.m ++ [⟨s.n,s.xs.map Bod.b ++ [b]⟩] }=g.push b:=by
  unfold LgM.push LgM.cur
  rw [hf]
  have h1:g.segs=A.map SgR.m ++ [s.m]:=by rw [hs,hL,List.map_append];rfl
  rw [h1,List.dropLast_concat,List.getLast?_concat]
  rfl
theorem push_new {g:LgM} {L:List SgR} (hs:g.segs=L.map SgR.m) (hf:g.fresh=true) (b:List UInt8):{ g with segs:=L.map SgR.m ++ [⟨g.next,([]:List Bod).map Bod.b ++ [b]⟩] }=g.push b:=by
  unfold LgM.push LgM.cur
  rw [if_pos hf,if_pos hf,← hs]
  rfl
theorem actsF_length (g:LgM) (n:Nat) (l:List UInt8) (b se:Bool):(actsF g n l b se).length≤4:=by cases b <;> cases se <;> simp [actsF]
theorem acts_low {w w0 w6:World} {S R T:Nat→Prop} {p q:Nat} {g:LgM} {a:Option Addr} {c:Nat} {L:List SgR} (hL:LgB w T p q g a c L) (hd:Dis T S R) (hlow:∀ k,S k→k < w.heap.size) (hs:w.heap.size≤w0.heap.size) (hq:q < w6.heap.size) {j:Nat} (hj:UA w0 q w6 j):¬ S j∧j < w6.heap.size:=by
  rcases hj with e | ⟨h1,cur,t,h2,_⟩
  · subst e;exact ⟨(hd j hL.tq).1,hq⟩
  · exact ⟨fun h=>by have:=hlow j h;omega,(Array.getElem?_eq_some_iff.1 h2).1⟩
set_option maxRecDepth 20000 in
set_option maxHeartbeats 4000000 in
theorem appendLog_any (F : FsKit) (w : World) (S R T : Nat → Prop) (p q : Nat) (m : FSm) (g : LgM) (a : Option Addr) (c : Nat) (L : List SgR) (k : Nat) (hF : F.Fs w S R p m) (hL : LgB w T p q g a c L) (hd : Dis T S R) (hk : Lim k m) (hk2 : k ≤ 9800)
    (ba:Option Addr) (nb bc:Nat) (b:List UInt8) (hnb:nb=b.length) (hr:RdN (fun k=>S k∨T k) w ba (bV b)) (hbl:b.length≤1000000000) (hlc:nb≤bc) (hbc:bc≤maxLen) (rr:Int × FSm × LgM) (hrr:appendL m g b=rr) :
    Calls Tryz.prog 24 #[.pointer (some ⟨q,0,none⟩),.slice ba nb bc] w fun e w'=>e=.returned (.int .i64 rr.1)∧LgO F w S R T p q rr.2.1 rr.2.2 w':=by
  have HF:=Lib.hid hF;have HL:=Lib.hid hL;have HD:=Lib.hid hd;have HK:=Lib.hid hk;have HRR:=Lib.hid hrr;have HNB:=Lib.hid hnb;have HR:=Lib.hid hr;have HBL:=Lib.hid hbl;have HLC:=Lib.hid hlc;have HBC:=Lib.hid hbc
  have c4:=hL.box.c4
  obtain ⟨ov,hov⟩:∃ ov,ov=g.over:=⟨_,rfl⟩
  have HOV:=Lib.hid hov
  rw [← hov] at c4
  clear hF hL hd hk hrr hov hnb hr hbl hlc hbc
  cases ov
  case true =>
    have HE:Hid (rr=(7,m,g)):=by
      show _=_
      rw [← HRR.out];unfold appendL
      rw [if_pos HOV.out.symm]
    go_enter Tryz.func24,Tryz.ntmps24
    go_wp2_with fail
    go_ret
    have hr:=HE.out
    subst hr
    exact ⟨rfl,LgO.of_did HF.out HL.out HD.out (Did.refl _ _ _)⟩
  obtain ⟨ib,hib⟩:∃ ib,isB b=ib:=⟨_,rfl⟩
  have HIB:=Lib.hid hib
  clear hib
  cases ib
  · have HE:Hid (rr=(1,m,g)):=by
      show _=_
      rw [← HRR.out];unfold appendL
      rw [if_neg (by rw [← HOV.out];simp),if_pos HIB.out]
    go_enter Tryz.func24,Tryz.ntmps24
    go_wp2_with fail
    refine (isBatch8_is ba nb bc b false w HNB.out HR.out.rd (by have:=HBL.out;omega) HLC.out HBC.out HIB.out).mono ?_
    rintro e w1 ⟨rfl,hb1⟩
    have HB1:=Lib.hid hb1
    clear hb1
    go_wp2_with fail
    go_ret
    have hr:=HE.out
    subst hr
    exact ⟨rfl,LgO.of_did (F.below HF.out HB1.out) HL.out HD.out (Did.of_below HB1.out)⟩
  obtain ⟨fu,hfu⟩:∃ fu,g.full=fu:=⟨_,rfl⟩
  have HFU:=Lib.hid hfu
  clear hfu
  cases fu
  case true =>
    have HE:Hid (rr=(6,m,g)):=by
      show _=_
      rw [← HRR.out];unfold appendL
      rw [if_neg (by rw [← HOV.out];simp),if_neg (by rw [HIB.out];simp),if_pos HFU.out]
    go_enter Tryz.func24,Tryz.ntmps24
    go_wp2_with fail
    refine (isBatch8_is ba nb bc b true w HNB.out HR.out.rd (by have:=HBL.out;omega) HLC.out HBC.out HIB.out).mono ?_
    rintro e w1 ⟨rfl,hb1⟩
    have HB1:=Lib.hid hb1
    have HL1:=Lib.hid (HL.out.below hb1)
    clear hb1
    go_wp2_with fail
    refine (isFull_any w1 T p q g a c L HL1.out true HFU.out).mono ?_
    rintro e w2 ⟨rfl,hb2⟩
    have HB2:=Lib.hid (bel2 HB1.out hb2)
    clear hb2
    go_wp2_with fail
    go_ret
    have hr:=HE.out
    subst hr
    exact ⟨rfl,LgO.of_did (F.below HF.out HB2.out) HL.out HD.out (Did.of_below HB2.out)⟩
  obtain ⟨fr,s,hgo,hsm,hsn,hsl,hroom⟩:=HL.out.goes HFU.out
  obtain ⟨se,hse⟩:∃ se,decide (s.xs.length+1=g.keep)=se:=⟨_,rfl⟩
  have hcl:g.cur.L.length=s.xs.length:=by rw [← hsm];show (s.xs.map Bod.b).length=_;rw [List.length_map]
  have hcn:s.n=g.cur.n:=by rw [← hsm];rfl
  obtain ⟨x,hx⟩:∃ x,runA (actsF g s.n b fr se) m=x:=⟨_,rfl⟩
  have HE:Hid (rr=(x.2,x.1,if x.2 ≠ 0 then g.down else g.push b)):=by
    show _=_
    rw [← HRR.out,← hx,hcn,runA_seal m g b fr se hgo.1 (by rw [hcl];exact hse)];unfold appendL
    rw [if_neg (by rw [← HOV.out];simp),if_neg (by rw [HIB.out];simp),if_neg (by rw [HFU.out];simp)]
  have HX:=Lib.hid hx;have HGO:=Lib.hid hgo;have HSE:=Lib.hid hse;have HSL:=Lib.hid hsl;have HROOM:=Lib.hid hroom
  have HS16:Hid (s.xs.length≤16):=by have:=HL.out.k1;show _≤_;omega
  clear hx hgo hse hsl hroom hcl hcn hsm
  go_enter Tryz.func24,Tryz.ntmps24
  go_wp2_with fail
  refine (isBatch8_is ba nb bc b true w HNB.out HR.out.rd (by have:=HBL.out;omega) HLC.out HBC.out HIB.out).mono ?_
  rintro e w1 ⟨rfl,hb1⟩
  have HB1:=Lib.hid hb1
  have HL1:=Lib.hid (HL.out.below hb1)
  clear hb1
  go_wp2_with fail
  refine (isFull_any w1 T p q g a c L HL1.out false HFU.out).mono ?_
  rintro e w2 ⟨rfl,hb2⟩
  have HB2:=Lib.hid (bel2 HB1.out hb2)
  have HL2:=Lib.hid (HL.out.below HB2.out)
  clear hb2
  go_wp2_with fail
  refine (goesTo_any w2 T p q g a c L HL2.out fr s HGO.out hsn).mono ?_
  rintro e w3 ⟨rfl,hb3⟩
  have HB3:=Lib.hid (bel2 HB2.out hb3)
  clear hb3
  unfold segV
  obtain ⟨w4,hw4⟩:∃ w4,w4=w3.alloc (.cells #[.int .u32 (s.n:Int),.slice s.a s.xs.length s.c] 115):=⟨_,rfl⟩
  have HB4:Hid (Below w.heap.size w w4):=by show Below _ _ _;rw [hw4];exact HB3.out.alloc HB3.out.size _
  have HBX4:Hid (w4.heap[w3.heap.size]?=some (.cells #[.int .u32 (s.n:Int),.slice s.a s.xs.length s.c] 115)):=by show _=_;rw [hw4];exact heap_alloc_new _ _
  have HB4d:=Lib.hid (Below_drew HB4.out)
  have HL4:=Lib.hid (HL.out.below HB4d.out)
  have HRD4:=Lib.hid ((HR.out.rd.below HB4d.out).more HB4d.out.size)
  have HW3:Hid (w.heap.size≤w3.heap.size∧w3.heap.size < w4.heap.size):=⟨HB3.out.size,(Array.getElem?_eq_some_iff.1 HBX4.out).1⟩
  have kq:∀ w',Below w4.drew.heap.size w4.drew w'→w'.cell? ⟨w3.heap.size,0,none⟩=some (.int .u32 (s.n:Int))∧w'.cell? ⟨w3.heap.size,1,none⟩=some (.slice s.a s.xs.length s.c):=fun w' h=>by
    have hb:=HBX4.out
    exact ⟨(h.cell (p:=⟨w3.heap.size,0,none⟩) HW3.out.2).trans (by show w4.cell? _=_;simp [World.cell?,hb]),(h.cell (p:=⟨w3.heap.size,1,none⟩) HW3.out.2).trans (by show w4.cell? _=_;simp [World.cell?,hb])⟩
  have HNS:Hid (¬ (S w3.heap.size∨w3.heap.size=q)):=fun h=>by
    rcases h with h | h
    · have:=(F.low HF.out).1 _ h;have:=HW3.out.1;omega
    · have:=HL.out.box.lt;have:=HW3.out.1;omega
  go_wp2_with fail
  rw [← hw4]
  clear hw4
  go_region_held_law (fun w'=>w'.cell? ⟨w3.heap.size,0,none⟩=some (.int .u32 (s.n:Int))∧w'.cell? ⟨w3.heap.size,1,none⟩=some (.slice s.a s.xs.length s.c)) (first | exact HC7.out | exact kq _ (Below.refl _ _) | exact kq _ HB6.out)
    (first
      | (go_at_call 59
         refine (appending_any F w4.drew T p q g a c L HL4.out s hsn fr ba nb bc b HNB.out HRD4.out (isB_may HIB.out) se HSE.out HS16.out).mono ?_
         rintro e w6 ⟨fa,fc,nf,fvs,rfl,hnf,hb6,hacts⟩
         have HB6:=Lib.hid hb6;have HNF:=Lib.hid hnf;have HACTS:=Lib.hid hacts
         have HB06:=Lib.hid (bel2 HB4d.out hb6)
         have hL6:=HL.out.did HD.out (Did.of_below HB06.out)
         have HL6:=Lib.hid hL6.1;have HD6:=Lib.hid hL6.2
         have HF6:=Lib.hid (F.below HF.out HB06.out)
         have HRDN:Hid (RdN S w6 fa fvs):=by
           have ho:=hacts.own
           rw [← hnf] at ho
           exact own_rdn ho fun j hj=>by have:=(F.low HF.out).1 j hj;exact Nat.lt_of_lt_of_le this HB4d.out.size
         have HU6:Hid (∀ j,UA w4.drew q w6 j→¬ S j∧j < w6.heap.size):=fun j hj=>acts_low HL.out HD.out (F.low HF.out).1 HB4d.out.size HL6.out.box.lt hj
         have HACT:Hid (∀ i (h:i < fvs.length) (h2:i < (actsF g s.n b fr se).length),ActOk F p s.n w6 (UA w4.drew q w6) fvs[i] (actsF g s.n b fr se)[i]):=fun i h h2=>hacts.ok i _ _ (List.getElem?_eq_getElem h) (List.getElem?_eq_getElem h2)
         have HLEN:Hid (fvs.length=(actsF g s.n b fr se).length):=hacts.len
         clear hb6 hnf hacts hL6)
      | (go_at_call 58
         refine (do_any F w6 S R T (UA w4.drew q w6) p q s.n m g a c L k fa fc fvs (actsF g s.n b fr se) nf HF6.out HL6.out HD6.out HK.out (by have:=actsF_length g s.n b fr se;omega) HRDN.out HNF.out HLEN.out HU6.out HACT.out).mono ?_
         rintro e w7 ⟨S7,R7,h7⟩
         rw [HX.out] at h7
         have he7:=h7.e
         subst he7
         have HC7:Hid (w7.cell? ⟨w3.heap.size,0,none⟩=some (.int .u32 (s.n:Int))∧w7.cell? ⟨w3.heap.size,1,none⟩=some (.slice s.a s.xs.length s.c)):=by
           have hlt:w3.heap.size < w6.heap.size:=Nat.lt_of_lt_of_le HW3.out.2 HB6.out.size
           refine ⟨?_,?_⟩
           · rw [h7.off.cell (p:=⟨w3.heap.size,0,none⟩) hlt HNS.out];exact (kq _ HB6.out).1
           · rw [h7.off.cell (p:=⟨w3.heap.size,1,none⟩) hlt HNS.out];exact (kq _ HB6.out).2
         have H7:=Lib.hid (h7.after (Did.of_below HB06.out))
         clear h7))
  all_goals
    clear kq
    obtain ⟨x2,hx2⟩:∃ x2,x2=x.2:=⟨_,rfl⟩
    have HX2:=Lib.hid hx2
    rw [← hx2]
    clear hx2
    by_cases hz:x2=0
    case neg =>
      have hzb:(x2 != 0)=true:=by simpa using hz
      go_wp2_with fail
      go_ret
      have hr:=HE.out
      subst hr
      have hxn:x.2 ≠ 0:=fun e=>hz (HX2.out.trans e)
      have h8:=LgO.of_do HL.out H7.out
      rw [if_pos hxn] at h8
      refine ⟨by rw [HX2.out];rfl,?_⟩
      show LgO F w S R T p q x.1 (if x.2 ≠ 0 then g.down else g.push b) w7
      rw [if_pos hxn]
      exact h8
    subst hz
    have hx0:x.2=0:=HX2.out.symm
    have hl7:=H7.out.log
    rw [if_neg (by rw [hx0];simp)] at hl7
    have HL7:=Lib.hid hl7
    have HD7:Hid (DidL S R T S7 R7 T w w7):=⟨H7.out.s,H7.out.r,fun _ h=>.inl h,H7.out.dis,H7.out.off.more fun k hk=>hk.imp id fun e=>by subst e;exact HL.out.tq⟩
    have HF7:=Lib.hid H7.out.fs
    have HE0:Hid (rr=(0,x.1,g.push b)):=by show _=_;rw [HE.out,hx0,if_neg (by simp)]
    have c70:=HC7.out.1
    have c71:=HC7.out.2
    clear hl7 hx0
    go_upto_if 38 with fail
    go_cut [7] (fun s7 wc=>ToLast F S R T p q x.1 g b w wc)
    case first =>
      cases fr
      · go_wp2_with fail
        go_meet
        case rel =>
          have hgf:=HGO.out
          obtain ⟨A,hA⟩:=List.getLast?_eq_some_iff.1 (hgf.2.2 rfl)
          have hl:=HL7.out
          rw [hA] at hl
          obtain ⟨sb,hsb,_⟩:=hl.rows.elem (i:=A.length) (by simp)
          subst hsb
          exact ⟨S7,R7,T,g,sb,c,A,s,hl,HF7.out,HD7.out,HSL.out,rfl,push_same HL.out.segs hA hgf.1 b⟩
      · have HSEQ:=Lib.hid (HGO.out.2.1 rfl)
        have HFR:=Lib.hid HGO.out.1
        have HRM:=Lib.hid (HROOM.out rfl)
        obtain ⟨kL,hkL⟩:∃ kL,kL=L.length:=⟨_,rfl⟩
        have HKL:=Lib.hid hkL
        have hk32:kL≤32:=by have:=HL7.out.few;have:=HL7.out.r1;omega
        have d3:=HL7.out.box.c3
        rw [← hkL] at d3
        have d3a:∀ o:Obj,(w7.alloc o).cell? ⟨q,3,none⟩=some (.slice a kL c):=fun o=>((box1 w7 o).cell (p:=⟨q,3,none⟩) HL7.out.box.lt).trans d3
        have HO7:Hid (w7.drew.ownsRow 0 115 2 (.slice a kL c) kL (flatG SgR.l L)):=by
          show World.ownsRow _ _ _ _ _ _ _
          rw [hkL];exact own_below HL7.out.rows.own (Below_drew (Below.refl _ _))
        have HCM:Hid (kL≤c∧c≤maxLen):=by show _∧_;rw [hkL];exact HL7.out.rows.cm
        obtain ⟨i0,hi0,hz0,hz1,hz2⟩:=info_parts info_seg
        have HZ2:=Lib.hid hz2
        clear hz2 hkL
        go_wp2_with fail
        go_region_law
          ((refine step_append_lies _ (by rfl) (.tmp 43) (.tmp 45) 103 (by rfl) 0 115 i0 _ 2 32 Tryz.underlying103 hi0 hz0 hz1 HZ2.out rfl (by omega) (.slice a kL c) kL _ (by rfl) (HO7.out.alloc (.cells #[.int .u32 (s.n:Int),.slice s.a s.xs.length s.c] 115)) ⟨w7.heap.size,0,none⟩ 1 1 [.int .u32 (s.n:Int),.slice s.a s.xs.length s.c] (by rfl) rfl (lit_cells w7.drew #[.int .u32 (s.n:Int),.slice s.a s.xs.length s.c] _) (by simp [Value.oneCell']) (by omega) (by unfold maxLen;omega) (by omega) (by omega) (w7.heap.size+1) (by simp) ?_
            intro g8 c8 w8 hown8 hg8 hnew hlt8
            have hne8:some q ≠ (Value.slice a kL c).ownBlock:=fun e=>HL7.out.box.ne HO7.out (by decide) e.symm rfl
            have X8:LB w8 q p g.keep g.room (.slice a L.length c) g.over:=LB.grown (LB.below HL7.out.box ((Below_drew (Below.refl w7.heap.size w7)).alloc (Nat.le_refl _) _) HL7.out.box.lt) hg8 hne8
            have c8':=X8.c3
            have f8':=X8.fz 3))
        all_goals
          have HX8:=Lib.hid hown8;have HG8:=Lib.hid hg8;have HNEW:=Lib.hid hnew;have HLT8:=Lib.hid hlt8
          clear hown8 hg8 hnew hlt8 X8 c8' f8' hne8 d3 d3a c70 c71
          go_wp2_with fail
          go_meet
          case rel =>
            have hseq:=HSEQ.out
            have hfin:=LgB.next (w7:=w7.drew.alloc (.cells #[.int .u32 (s.n:Int),.slice s.a s.xs.length s.c] 115)) (w8:=w8) HL7.out (B:=w7.heap.size) (k:=kL) (g8:=g8) (c8:=c8) s HKL.out HL7.out.low (Nat.le_refl _) ((Below_drew (Below.refl _ _)).alloc (Nat.le_refl _) _)
              HX8.out HG8.out (HNEW.out.imp id fun e=>by omega) HLT8.out (by rw [hseq];exact World.ownsRow_nil _ _ _ _) (by rw [hseq];exact fun _ h=>absurd h (by simp)) hsn HRM.out (by have:=HSL.out;omega)
            obtain ⟨h1,h2⟩:=take_facts HL7.out HD7.out.dis (Did.refl _ _ _) HF7.out (Below.refl _ _) hfin.2
            refine ⟨S7,R7,_,_,g8,c8,L,s,hfin.1,h1,HD7.out.trans h2,HSL.out,rfl,?_⟩
            have hp:=push_new HL.out.segs HFR.out b
            rw [← hp,hseq]
    case rest =>
      clear HL7 HD7 HF7 H7 HC7 c70 c71
      obtain ⟨S1,R1,T1,g1,sb,c1,A,s9,hl9,hF9,hD9,hsl9,hk9,hp9⟩:=hcut
      have HL9:=Lib.hid hl9;have HF9:=Lib.hid hF9;have HD9:=Lib.hid hD9;have HSL9:=Lib.hid hsl9;have HK9:=Lib.hid hk9;have HP9:=Lib.hid hp9
      obtain ⟨b0,hb0,hsbl,hlc9,hcm9,_,e1⟩:=hl9.rows.elem (i:=A.length) (by simp)
      obtain rfl:sb=b0:=by injection hb0 with e;injection e
      obtain ⟨n,hn⟩:∃ n,n=A.length:=⟨_,rfl⟩
      have HN:=Lib.hid hn
      have hll:(A ++ [s9]).length=n+1:=by rw [hn];simp
      have hn32:n≤32:=by have:=hl9.few;have:=hl9.r1;omega
      have c3:=hl9.box.c3
      rw [hll] at c3 hlc9
      have e1':wc.cell? ⟨sb,n * 2+1,none⟩=some (.slice s9.a s9.xs.length s9.c):=by
        rw [hn]
        have e2:(A ++ [s9])[A.length]'(by simp)=s9:=by simp
        rw [e2] at e1
        exact e1
      have i1:(0:Int)≤(n:Int):=by omega
      have i2:(n:Int) < ((n+1:Nat):Int):=by omega
      have i3:(n:Int) < (n:Int)+1:=by omega
      have HE1:=Lib.hid e1'
      clear hl9 hF9 hD9 hsl9 hk9 hp9 hb0 hn hll e1 e1'
      go_wp2_with fail
      go_quiet (fail)
      obtain ⟨w10,hw10⟩:∃ w10,w10=wc.drewN nq:=⟨_,rfl⟩
      have HB10:Hid (Below wc.heap.size wc w10):=by show Below _ _ _;rw [hw10];exact Below_drewN (Below.refl _ _) _
      rw [← hw10]
      clear hw10 c3 i1 i2 i3
      have HB10d:=Lib.hid (Below_drew HB10.out)
      have HRD:Hid (Rd w10.drew w10.drew.heap.size ba (bV b)):=by
        have h0:RdN (fun k=>S1 k∨T1 k) wc ba (bV b):=HR.out.off HD9.out.off fun k hk=>by
          rcases hk with hk | hk
          · exact (HD9.out.s k hk).imp .inl id
          · exact (HD9.out.t k hk).imp .inr id
        exact (h0.rd.below HB10d.out).more HB10d.out.size
      have kc:w10.drew.cell? ⟨sb,n * 2+1,none⟩=some (.slice s9.a s9.xs.length s9.c):=(HB10d.out.cell (p:=⟨sb,n * 2+1,none⟩) hsbl).trans HE1.out
      obtain ⟨i0,hi0,hz0,hz1,hz2⟩:=info_parts info_bytes
      have HZ2:=Lib.hid hz2
      clear hz2
      obtain ⟨ad,had⟩:∃ ad,ba=some ad:=by
        obtain ⟨bb,off,e,_⟩:=HRD.out (by rw [bV_length];exact (mayF_iff.1 (isB_may HIB.out)).1)
        exact ⟨_,e⟩
      subst had
      have hs9:s9.xs.length≤16:=by have:=HSL9.out;have:=HL9.out.k1;have:=HK9.out;omega
      obtain ⟨sn,hsn9⟩:∃ sn,sn=s9.xs.length:=⟨_,rfl⟩
      have HSN:=Lib.hid hsn9
      rw [← hsn9] at hs9 kc
      have hrow:=(HL9.out.rows.rows s9 (by simp)).own
      unfold SgR.v at hrow
      rw [← hsn9] at hrow
      have HROW:=Lib.hid hrow
      clear hsn9 hrow
      go_wp2_with fail
      obtain ⟨scur,hscur⟩:=own_tag HL9.out.rows.own (k:=sb) rfl
      have HSC:=Lib.hid hscur
      have HKC:=Lib.hid kc
      clear hscur
      go_region_law
        (first
          | (refine step_append_lies _ (by rfl) (.tmp 64) (.tmp 67) 23 (by rfl) 0 38 i0 _ 1 24 Tryz.underlying23 hi0 hz0 hz1 HZ2.out rfl (by omega) (.slice s9.a sn s9.c) sn _ (by rfl) (own_below (own_below (own_below HROW.out HB10d.out) HB11.out) (box1 w11 (.cells #[.slice va b.length vc] 38))) ⟨w11.heap.size, 0, none⟩ 1 1 [.slice va b.length vc] (by rfl) rfl (lit_cells w11 #[.slice va b.length vc] _) (by simp [Value.oneCell']) (by omega) (by unfold maxLen; omega) (by omega) (by omega) (w11.heap.size + 1) (by simp) ?_
             intro g8 c8 w8 hown8 hg8 hnew hlt8
             have e8:w8.heap[sb]?=wc.heap[sb]?:=by
               have hl1:=Nat.lt_of_lt_of_le hsbl HB10d.out.size
               have hl2:=Nat.lt_of_lt_of_le hl1 HB11.out.size
               rw [hg8.block sb (Nat.lt_of_lt_of_le hl2 (box1 w11 _).size) fun e=>own_tne HROW.out HL9.out.rows.own (by decide) e.symm (k2:=sb) rfl rfl,(box1 w11 _).block sb hl2,HB11.out.block sb hl1,HB10d.out.block sb hsbl]
             have e9:=e8.trans HSC.out
             have c8':w8.cell? ⟨sb,n * 2+1,none⟩=some (.slice s9.a sn s9.c):=by
               have h:=HE1.out
               rw [← HSN.out] at h
               rw [← h];simp [World.cell?,e8]
             have f8':w8.frozen? ⟨sb,n * 2+1,none⟩=false:=by simp [World.frozen?,e9])
          | (go_simp
             go_at_call 54
             refine (cloneB_any ad nb bc b w10.drew HNB.out HRD.out (by have:=HBL.out;omega)).mono ?_
             rintro e w11 ⟨v11,rfl,ho11,hb11⟩
             obtain ⟨va,vc,rfl,_,_,_⟩:=own_slice ho11
             have HB11:=Lib.hid hb11
             have HO11:=Lib.hid ho11
             have kc1:w11.cell? ⟨sb,n * 2+1,none⟩=some (.slice s9.a sn s9.c):=(hb11.cell (p:=⟨sb,n * 2+1,none⟩) (Nat.lt_of_lt_of_le hsbl HB10d.out.size)).trans HKC.out
             have kc2:∀ o:Obj,(w11.alloc o).cell? ⟨sb,n * 2+1,none⟩=some (.slice s9.a sn s9.c):=fun o=>((box1 w11 o).cell (p:=⟨sb,n * 2+1,none⟩) (Nat.lt_of_lt_of_le hsbl (Nat.le_trans HB10d.out.size hb11.size))).trans kc1
             clear ho11 hb11))
      all_goals
        have HX8:=Lib.hid hown8;have HG8:=Lib.hid hg8;have HNEW:=Lib.hid hnew;have HLT8:=Lib.hid hlt8
        clear hown8 hg8 hnew hlt8 c8' f8' e8 e9 kc kc1 kc2
        go_wp2_with fail
        go_ret
        have hb7:Below wc.heap.size wc (w11.alloc (.cells #[.slice va b.length vc] 38)):=bel2 (bel2 HB10d.out HB11.out) (box1 w11 _)
        have hfin:=LgB.push (w:=wc) (w7:=w11.alloc (.cells #[.slice va b.length vc] 38)) (w8:=w8) HL9.out rfl (B:=wc.heap.size) (n:=sn) (g8:=g8) (c8:=c8) HSN.out HL9.out.low (Nat.le_refl _) hb7 ⟨.slice va b.length vc,b,0⟩
          HX8.out HG8.out (HNEW.out.imp id fun e=>by have:=HB11.out.size;have:=HB10d.out.size;omega) HLT8.out (own_below (own_base HO11.out HB10d.out.size) (box1 w11 _)) (by rw [HK9.out];exact HSL9.out)
        rw [← HN.out] at hfin
        obtain ⟨h1,h2⟩:=take_facts HL9.out HD9.out.dis (Did.refl _ _ _) HF9.out (Below.refl _ _) hfin.2
        have hr:=HE0.out
        subst hr
        have h3:=hfin.1
        dsimp only at h3
        rw [HP9.out] at h3
        exact ⟨rfl,S1,R1,_,h1,⟨_,_,_,h3⟩,HD9.out.trans h2⟩
end Go.Proofs.YtccbpngehedbaaaGreat

namespace Go.Proofs.YtccbpngehedbaaaGreat
open Go Go.RowKit Go.Sort

/-! The landed log, joined. -/
theorem Fit.lim {m:FSm} (h:Fit m):∃ k,k≤9000∧Lim k m:=h.1
def logKit (F:FsKit):LogKit F where
  At:=LgAt
  low:=fun h=>h.low
  move:=fun h hs hb=>h.move hs hb
  open_:=fun w S R p m keep room hF hfit _ _ _ _=>open_any F w S R p m keep room hF hfit _ rfl
  append:=fun w S R T p q m g a c b hF ⟨a1,c1,L,hL⟩ hd hfit hr hbl hlc hbc=>by
    obtain ⟨k,hk,hl⟩:=hfit.lim
    refine (appendLog_any F w S R T p q m g a1 c1 L k hF hL hd hl (by omega) a _ c b rfl hr hbl hlc hbc _ rfl).mono ?_
    rintro e w' ⟨he,S',R',T',hF',hL',hd'⟩
    exact ⟨S',R',T',he,hF',hL',hd'⟩
  flush:=fun w S R T p q m g hF ⟨a1,c1,L,hL⟩ hd hfit=>by
    obtain ⟨k,hk,hl⟩:=hfit.lim
    refine (flush_any F w S R T p q m g a1 c1 L k hF hL hd hl (by omega) _ rfl).mono ?_
    rintro e w' ⟨he,S',R',T',hF',hL',hd'⟩
    exact ⟨S',R',T',he,hF',hL',hd'⟩
  expire:=fun w S R T p q m g hF ⟨a1,c1,L,hL⟩ hd hfit=>by
    obtain ⟨k,hk,hl⟩:=hfit.lim
    refine (expire_any F w S R T p q m g a1 c1 L k hF hL hd hl (by omega) _ rfl).mono ?_
    rintro e w' ⟨he,S',R',T',hF',hL',hd'⟩
    exact ⟨S',R',T',he,hF',hL',hd'⟩
  bodies:=fun w T p q g ⟨a1,c1,L,hL⟩ hs=>bodies_any w T p q g a1 c1 L hL hs
  segs:=fun w T p q g ⟨a1,c1,L,hL⟩=>segs_any w T p q g a1 c1 L hL
  over:=fun w T p q g ⟨a1,c1,L,hL⟩=>(over_is w hL.box).mono fun e w' ⟨he,hw⟩=>⟨he,by subst hw;exact Below.refl _ _⟩
end Go.Proofs.YtccbpngehedbaaaGreat

