import Derived.Test.YtccbpngehedbaaaGreatJl
import Derived.Laws.IdiomStrings
import Derived.Laws.BitsAllLaws
namespace Go.Proofs.YtccbpngehedbaaaGreat
open Go Go.RowKit

theorem u32_elem {w:World} {B:Nat} {a:Option Addr} {N:List Nat} (h:Rd w B a (u32V N)) {i:Nat} (hi:i < N.length):∃ b off,a=some ⟨b,off,none⟩∧b < B∧w.cell? ⟨b,off+i,none⟩=some (.int .u32 (N[i]:Int)):=by
  obtain ⟨b,off,ha,hb,hc⟩:=h (by rw [u32V_length];omega)
  exact ⟨b,off,ha,hb,hc i _ (by simp [u32V,hi])⟩
theorem take_eq_succ {N M:List Nat} {k:Nat} (h:N.take k=M.take k) (h1:k < N.length) (h2:k < M.length) (e:N[k]=M[k]):N.take (k+1)=M.take (k+1):=by
  rw [List.take_succ_eq_append_getElem h1,List.take_succ_eq_append_getElem h2,h,e]
set_option maxRecDepth 20000 in
set_option maxHeartbeats 2000000 in
theorem sames_any (a b : Option Addr) (c d : Nat) (N M : List Nat) (w : World) (ha : Rd w w.heap.size a (u32V N)) (hb : Rd w w.heap.size b (u32V M)) (hl : N.length ≤ 1000000000) (hm : M.length ≤ 1000000000) :
    Calls Tryz.prog 38 #[.slice a N.length c,.slice b M.length d] w fun e w'=>e=.returned (.bool (decide (N=M)))∧Below w.heap.size w w':=by
  have HA:=Lib.hid ha;have HB:=Lib.hid hb;clear ha hb
  by_cases hlen:N.length=M.length
  case neg =>
    have HE:Hid (decide (N=M)=false):=decide_eq_false fun e=>hlen (by rw [e])
    have hq:((N.length:Int) != (M.length:Int))=true:=by simp;omega
    go_enter Tryz.func38,Tryz.ntmps38
    go_wp2_with fail
    go_ret
    exact ⟨ret_bool HE.out.symm,Below.refl _ _⟩
  have hq:((N.length:Int) != (M.length:Int))=false:=by simp [hlen]
  have HL:=Lib.hid hlen
  clear hlen
  go_enter Tryz.func38,Tryz.ntmps38
  go_wp2_with fail
  go_loopw [5] (fun i wr=>∃ k:Nat,k≤N.length∧i=.int .i64 k∧N.take k=M.take k∧RowKit.Below w.heap.size w wr) (fun i _=>N.length - (intOf i).toNat)
  case atStart=>exact ⟨0,Nat.zero_le _,rfl,rfl,Below.refl _ _⟩
  case round =>
    obtain ⟨k,hk,rfl,he,hbw⟩:=hrel
    have HE:=Lib.hid he;have HW:=Lib.hid hbw;clear he hbw
    by_cases hlt:k < N.length
    · have hlt2:k < M.length:=by rw [← HL.out];exact hlt
      obtain ⟨b1,o1,ha1,_,e1⟩:=u32_elem (HA.out.below HW.out) hlt
      obtain ⟨b2,o2,ha2,_,e2⟩:=u32_elem (HB.out.below HW.out) hlt2
      subst ha1 ha2
      have i1:(0:Int)≤(k:Int):=by omega
      have i2:(k:Int) < (N.length:Int):=by omega
      have i3:(k:Int) < (M.length:Int):=by omega
      by_cases hx:N[k]=M[k]
      · have HT:=Lib.hid (take_eq_succ HE.out hlt hlt2 hx)
        rw [hx] at e1
        have hy:((M[k]:Int) != (M[k]:Int))=false:=by simp
        clear hx
        generalize M[k]=y at *
        go_wp2_with fail
        go_region_held3 (fun w'=>w'.cell? ⟨b1,o1+k,none⟩=some (.int .u32 (y:Int))∧w'.cell? ⟨b2,o2+k,none⟩=some (.int .u32 (y:Int))) (go_keep) (fail)
        all_goals
          go_wp2_with fail
          go_roundw
          case rel=>exact ⟨k+1,by omega,by go_num,HT.out,Below_drew HW.out⟩
          case measure=>simp [intOf];omega
      · have HN:Hid (decide (N=M)=false):=decide_eq_false fun e=>hx (by subst e;rfl)
        have hy:((N[k]:Int) != (M[k]:Int))=true:=by simp;omega
        clear hx
        generalize M[k]=y at *
        generalize N[k]=x at *
        go_wp2_with fail
        go_region_held3 (fun w'=>w'.cell? ⟨b1,o1+k,none⟩=some (.int .u32 (x:Int))∧w'.cell? ⟨b2,o2+k,none⟩=some (.int .u32 (y:Int))) (go_keep) (fail)
        all_goals
          go_wp2_with fail
          go_ret
          exact ⟨ret_bool HN.out.symm,Below_drew HW.out⟩
    · have:k=N.length:=by omega
      subst this
      have HN:Hid (decide (N=M)=true):=decide_eq_true (by have h:=HE.out;rwa [List.take_length,HL.out,List.take_length] at h)
      go_wp2_with fail
      go_ret
      exact ⟨ret_bool HN.out.symm,HW.out⟩
end Go.Proofs.YtccbpngehedbaaaGreat

namespace Go.Proofs.YtccbpngehedbaaaGreat
open Go Go.RowKit Go.Sort

theorem common_step {a b:List UInt8} {k:Nat} (h1:k < a.length) (h2:k < b.length) (e:a[k]=b[k]):commonF (a.drop k) (b.drop k)=commonF (a.drop (k+1)) (b.drop (k+1))+1:=by
  rw [List.drop_eq_getElem_cons h1,List.drop_eq_getElem_cons h2,commonF,if_pos e]
theorem common_diff {a b:List UInt8} {k:Nat} (h1:k < a.length) (h2:k < b.length) (e:¬ a[k]=b[k]):commonF (a.drop k) (b.drop k)=0:=by
  rw [List.drop_eq_getElem_cons h1,List.drop_eq_getElem_cons h2,commonF,if_neg e]
theorem common_end {a b:List UInt8} {k:Nat} (h:a.length≤k∨b.length≤k):commonF (a.drop k) (b.drop k)=0:=by
  rcases h with h | h
  · rw [List.drop_of_length_le h];rfl
  · rw [List.drop_of_length_le h];cases a.drop k <;> rfl
theorem common_le:∀ (a b:List UInt8),commonF a b≤a.length∧commonF a b≤b.length
  | [],_=>by simp [commonF]
  | _ :: _,[]=>by simp [commonF]
  | x :: xs,y :: ys=>by
    obtain ⟨h1,h2⟩:=common_le xs ys
    unfold commonF
    split
    · simp;omega
    · simp
end Go.Proofs.YtccbpngehedbaaaGreat

namespace Go.Proofs.YtccbpngehedbaaaGreat
open Go Go.RowKit

theorem xorL_length:∀ (xs ys:List UInt8),(xorL xs ys).length=xs.length
  | [],_=>by simp [xorL]
  | _ :: _,[]=>by simp [xorL]
  | x :: xs,y :: ys=>by simp [xorL,xorL_length xs ys]
theorem xorL_nil (xs:List UInt8):xorL xs []=xs:=by cases xs <;> rfl
theorem xorL_get:∀ (xs ys:List UInt8) (k:Nat) (h:k < xs.length),(xorL xs (ys.take k))[k]'(by rw [xorL_length];exact h)=xs[k]
  | x :: xs,ys,0,_=>by simp [xorL]
  | x :: xs,[],k+1,h=>by simp [xorL]
  | x :: xs,y :: ys,k+1,h=>by
    simp only [List.take_succ_cons,xorL,List.getElem_cons_succ]
    exact xorL_get xs ys k (by simpa using h)
theorem xorL_next:∀ (xs ys:List UInt8) (k:Nat) (h:k < xs.length) (h2:k < ys.length),xorL xs (ys.take (k+1))=(xorL xs (ys.take k)).set k (xs[k] ^^^ ys[k])
  | x :: xs,y :: ys,0,_,_=>by simp [xorL,xorL_nil]
  | x :: xs,y :: ys,k+1,h,h2=>by
    simp only [List.take_succ_cons,xorL,List.getElem_cons_succ,List.set_cons_succ]
    rw [xorL_next xs ys k (by simpa using h) (by simpa using h2)]
theorem xorL_more:∀ (xs ys:List UInt8) (k:Nat),xs.length≤k→xorL xs (ys.take k)=xorL xs ys
  | [],_,_,_=>by simp [xorL]
  | _ :: _,[],_,_=>by simp
  | x :: xs,y :: ys,0,h=>by simp at h
  | x :: xs,y :: ys,k+1,h=>by
    simp only [List.take_succ_cons,xorL]
    rw [xorL_more xs ys k (by simpa using h)]
/-- Bytes as they stand behind so many of them were made one with others. -/
def garbTo (l:List UInt8) (F:Nat) (g:List UInt8) (k:Nat):List UInt8:=l.take F ++ xorL (l.drop F) (g.take k)
theorem garbTo_length {l:List UInt8} {F:Nat} (h:F≤l.length) (g:List UInt8) (k:Nat):(garbTo l F g k).length=l.length:=by
  unfold garbTo;rw [List.length_append,xorL_length,List.length_take,List.length_drop];omega
theorem garbTo_get {l:List UInt8} {F:Nat} (g:List UInt8) {k:Nat} (h:F+k < l.length):(garbTo l F g k)[F+k]?=some l[F+k]:=by
  unfold garbTo
  have hk:k < (l.drop F).length:=by rw [List.length_drop];omega
  rw [List.getElem?_append_right (by rw [List.length_take];omega),List.length_take,show F+k - min F l.length=k by omega,List.getElem?_eq_getElem (by rw [xorL_length];exact hk),xorL_get _ _ _ hk]
  simp
theorem garbTo_next {l:List UInt8} {F:Nat} {g:List UInt8} {k:Nat} (h:F+k < l.length) (h2:k < g.length):garbTo l F g (k+1)=(garbTo l F g k).set (F+k) (l[F+k] ^^^ g[k]):=by
  unfold garbTo
  have hk:k < (l.drop F).length:=by rw [List.length_drop];omega
  rw [xorL_next _ _ _ hk h2,List.set_append_right _ _ (by rw [List.length_take];omega),List.length_take,show F+k - min F l.length=k by omega]
  simp
theorem garbTo_end {l:List UInt8} {F:Nat} {g:List UInt8} {k:Nat} (h:l.length≤F+k∨g.length≤k):garbTo l F g k=l.take F ++ xorL (l.drop F) g:=by
  unfold garbTo
  rcases h with h | h
  · rw [xorL_more _ _ _ (by rw [List.length_drop];omega)]
  · rw [List.take_of_length_le h]
theorem partF_is {s:List UInt8} {base:Nat} {count:Int} {g:List UInt8} {q F:Nat} (hq:base+min (max count 0).toNat (s.length - base)=q) (hF:max ((s.take q).length - 16) base=F):partF s base count g=(s.take q).take F ++ xorL ((s.take q).drop F) g:=by
  subst hq hF;rfl
theorem range_set {w:World} {b:Nat} {l:List UInt8} (h:w.rangeAt b 0 (bV l)) (j:Nat) (hj:j < l.length) (z:UInt8):(w.setCell ⟨b,j,none⟩ (.int .u8 (z.toNat:Int))).rangeAt b 0 (bV (l.set j z)):=fun i v hv=>by
  have hi:i < l.length:=by
    have:=(List.getElem?_eq_some_iff.1 hv).1;rw [bV_length,List.length_set] at this;exact this
  rw [Nat.zero_add]
  by_cases he:i=j
  · subst he
    have h0:=h i _ (bV_get l i hi)
    rw [Nat.zero_add] at h0
    rw [World.cell?_setCell_same _ _ _ h0]
    rw [bV_get _ i (by rw [List.length_set];exact hi),List.getElem_set_self] at hv
    exact hv
  · rw [World.cell?_setCell_other _ _ _ _ (fun e=>he (by injection e with _ e;exact e.symm))]
    have h0:=h i _ (bV_get l i hi)
    rw [Nat.zero_add] at h0
    rw [bV_get _ i (by rw [List.length_set];exact hi),List.getElem_set_ne (by omega)] at hv
    rw [h0];exact hv
theorem Rd_range {w:World} {b:Nat} {cs:List Value} (h:w.rangeAt b 0 cs) (hb:b < w.heap.size):Rd w w.heap.size (some ⟨b,0,none⟩) cs:=fun _=>⟨b,0,rfl,hb,fun j u hu=>h j u hu⟩
theorem alloc_bytes (w:World) (S:ByteArray) (cap:Nat) (fr:Nat × Nat) (hf:S.size≤fr.1):(w.alloc (.cells (bytesRow S cap) 5 fr)).rangeAt w.heap.size 0 (bV S.data.toList)∧(w.alloc (.cells (bytesRow S cap) 5 fr)).there w.heap.size 0 S.size:=by
  have hc:∀ j,j < S.size→∃ u,(w.alloc (.cells (bytesRow S cap) 5 fr)).cell? ⟨w.heap.size,0+j,none⟩=some u∧(bV S.data.toList)[j]?=some u:=fun j hj=>by
    refine ⟨.int .u8 (S.data[j].toNat:Int),?_,?_⟩
    · rw [World.cell?_alloc_mark,Nat.zero_add];exact bytesRow_at S cap j hj
    · rw [bV_get _ j (by simpa using hj)];simp
  refine ⟨fun j v hv=>?_,fun j hj=>?_⟩
  · have hj:j < S.size:=by have:=(List.getElem?_eq_some_iff.1 hv).1;rw [bV_length] at this;simpa using this
    obtain ⟨u,h1,h2⟩:=hc j hj
    rw [h2] at hv;rw [h1];exact hv
  · obtain ⟨u,h1,_⟩:=hc j hj
    refine ⟨by rw [h1];rfl,?_⟩
    obtain ⟨lo,hi⟩:=fr
    rw [World.frozen?_alloc_mark]
    simp only at hf
    have:decide (lo≤0+j)=false:=by simp;omega
    rw [this];rfl
end Go.Proofs.YtccbpngehedbaaaGreat

namespace Go.Proofs.YtccbpngehedbaaaGreat
open Go Go.RowKit

def Ft.v (t:Ft):Value:=.agg #[.bool t.keep,.int .i64 t.bytes,.slice t.ga t.g.length t.gc]
def Ft.l (t:Ft):List Value:=[.bool t.keep,.int .i64 t.bytes,.slice t.ga t.g.length t.gc]
end Go.Proofs.YtccbpngehedbaaaGreat

namespace Go.Proofs.YtccbpngehedbaaaGreat
open Go Go.RowKit Go.Sort

/-! How great files may be. -/
def SzF (M:Nat) (x:Fl):Prop:=x.now.size≤M∧x.safe.size≤M
theorem mem_stepF {x:Fl} {s:List Fl × Bool} {y z:Fl} (h:z ∈ (stepF x s y).1):z=x∨z=y∨z ∈ s.1:=by
  obtain ⟨l,b⟩:=s
  unfold stepF at h
  simp only at h ⊢
  by_cases h1:x.n < y.n∧b=false
  · rw [if_pos h1] at h
    split at h
    · simp at h;rcases h with h | h <;> simp [h]
    · simp at h;rcases h with h | h | h <;> simp [h]
  · rw [if_neg h1] at h
    split at h
    · exact .inr (.inr h)
    · simp at h;rcases h with h | h <;> simp [h]
theorem mem_foldF {x z:Fl}:∀ (L:List Fl) (s:List Fl × Bool),z ∈ (L.foldl (stepF x) s).1→z=x∨z ∈ L∨z ∈ s.1
  | [],_,h=>.inr (.inr h)
  | y :: r,s,h=>by
    rw [List.foldl_cons] at h
    rcases mem_foldF r _ h with h | h | h
    · exact .inl h
    · exact .inr (.inl (by simp [h]))
    · rcases mem_stepF h with h | h | h
      · exact .inl h
      · exact .inr (.inl (by simp [h]))
      · exact .inr (.inr h)
theorem mem_putF' {L:List Fl} {x z:Fl} (h:z ∈ putF L x):z=x∨z ∈ L:=by
  have h:=(List.mem_filter.1 h).1
  unfold insF walkF at h
  split at h
  · rcases mem_foldF L _ h with h | h | h
    · exact .inl h
    · exact .inr h
    · simp at h
  · rcases List.mem_append.1 h with h | h
    · rcases mem_foldF L _ h with h | h | h
      · exact .inl h
      · exact .inr h
      · simp at h
    · exact .inl (by simpa using h)
theorem put_sz {M:Nat} {L:List Fl} {x:Fl} (h:∀ y ∈ L,SzF M y) (hx:SzF M x):∀ y ∈ putF L x,SzF M y:=fun y hy=>by
  rcases mem_putF' hy with rfl | hy
  · exact hx
  · exact h y hy
theorem get_sz {M:Nat} {L:List Fl} (h:∀ y ∈ L,SzF M y) (n:Nat):SzF M (getF L n):=by
  rcases getF_or L n with hm | ⟨e,_⟩
  · exact h _ hm
  · rw [e];exact ⟨Nat.zero_le _,Nat.zero_le _⟩
theorem partF_length (s:List UInt8) (b:Nat) (c:Int) (g:List UInt8):(partF s b c g).length≤s.length:=by
  unfold partF
  simp only []
  rw [List.length_append,xorL_length,List.length_take,List.length_drop,List.length_take];omega
theorem left_sz {M : Nat} {x : Fl} (h : SzF M x) (t : Ft) : SzF M (leftF x t) := by
  obtain ⟨h1,h2⟩:=h
  have hp:∀ b,(bs (partF x.now.data.toList b t.bytes t.g)).size≤M:=fun b=>by
    rw [bs_size]
    have:=partF_length x.now.data.toList b t.bytes t.g
    rw [data_length] at this;omega
  have key:(leftF x t).now.size≤M∧(leftF x t).safe=(leftF x t).now:=by
    refine ⟨?_,rfl⟩
    have hi:∀ r:Bool × ByteArray,r.2.size≤M→(if r.1=true then r.2 else ByteArray.empty).size≤M:=fun r h=>by
      split
      · exact h
      · exact Nat.zero_le _
    unfold leftF
    refine hi _ ?_
    split
    · exact hp 0
    · split
      · exact h2
      · split
        · exact h2
        · exact hp _
  exact ⟨key.1,by rw [key.2];exact key.1⟩
theorem crashTo_le (L:List Fl) (T:List Ft) (N:List Nat):∀ k,(crashTo L T N k).length≤L.length+k
  | 0=>Nat.le_refl _
  | k+1=>Nat.le_trans (putF_le _ _) (by have:=crashTo_le L T N k;omega)
theorem crashTo_sz {M:Nat} {L:List Fl} (T:List Ft) (N:List Nat) (h:∀ y ∈ L,SzF M y):∀ k,∀ y ∈ crashTo L T N k,SzF M y
  | 0=>h
  | k+1=>put_sz (crashTo_sz T N h k) (left_sz (get_sz (crashTo_sz T N h k) _) _)
end Go.Proofs.YtccbpngehedbaaaGreat

namespace Go.Proofs.YtccbpngehedbaaaGreat
open Go Go.RowKit Go.Sort

/-- Crash's loop: what lies where. -/
structure Q3 (w wr:World) (a:Option Addr) (L:List Fl) (fu:Int) (dn:Bool) (T:List Ft) (N:List Nat) (an:Option Addr) (k:Nat) (ai:Option Addr) (ci:Nat):Prop where
  hk:k≤N.length
  c0:wr.cell? ⟨w.heap.size,0,none⟩=some (.slice ai (crashTo L T N k).length ci)
  c1:wr.cell? ⟨w.heap.size,1,none⟩=some (.int .i64 fu)
  c2:wr.cell? ⟨w.heap.size,2,none⟩=some (.bool dn)
  ft:wr.there w.heap.size 0 3
  rs:wr.there (w.heap.size+1) 0 3
  rd:Rd wr wr.heap.size ai (flF (crashTo L T N k))
  fr:(ai=a∧crashTo L T N k=L)∨∀ b o s,ai=some ⟨b,o,s⟩→w.heap.size+2≤b
  lc:(crashTo L T N k).length≤ci
  cm:ci≤maxLen
  nm:Rd wr wr.heap.size an (u32V N)
  fn:∀ b o s,an=some ⟨b,o,s⟩→w.heap.size+2≤b
  bw:RowKit.Below w.heap.size w wr
  sz:w.heap.size+2≤wr.heap.size
theorem Ft_len (t:Ft):t.l.length=3:=rfl
theorem crashTo_next (L:List Fl) (T:List Ft) (N:List Nat) {k:Nat} (hk:k < N.length) (t:Ft) (ht:T.getD k zeroT=t):crashTo L T N (k+1)=putF (crashTo L T N k) (leftF (getF (crashTo L T N k) N[k]) t):=by
  rw [crashTo,ht];simp [List.getD,hk]
end Go.Proofs.YtccbpngehedbaaaGreat

namespace Go.Proofs.YtccbpngehedbaaaGreat
open Go Go.RowKit Go.Sort

/-! What the plain file system keeps; what a crash leaves. -/
def OkX (x:Fl):Prop:=(x.there=false→x.now=ByteArray.empty)∧(x.kept=false→x.safe=ByteArray.empty)
theorem get_okx {L:List Fl} (h:∀ y ∈ L,OkF y) (n:Nat):OkX (getF L n):=by
  rcases getF_or L n with hm | ⟨e,_⟩
  · exact (h _ hm).2
  · rw [e];exact ⟨fun _=>rfl,fun _=>rfl⟩
theorem put_okf {L:List Fl} (hs:SdF L) (h:∀ y ∈ L,OkF y) {x:Fl} (hx:OkX x):∀ y ∈ putF L x,OkF y:=fun y hy=>by
  obtain ⟨h1,h2 | ⟨h2,_⟩⟩:=(mem_putF hs).1 hy
  · subst h2;exact ⟨h1,hx⟩
  · exact h y h2
theorem act_ok {m:FSm} (h:m.Ok) {x:Fl} (hx:OkX x) (s:Bool):(actF m x s).1.Ok:=by
  obtain ⟨h1,h2,h3,h4⟩:=h
  unfold actF
  split
  · refine ⟨?_,?_,h3,h4⟩
    · show SdF (if s=true then m.files else putF m.files x)
      split
      · exact h1
      · exact putF_SdF h1 x
    · show ∀ y ∈ (if s=true then m.files else putF m.files x),OkF y
      split
      · exact h2
      · exact put_okf h1 h2 hx
  · refine ⟨putF_SdF h1 x,put_okf h1 h2 hx,?_,?_⟩
    · show -1≤(if 0 < m.fuse then m.fuse - 1 else m.fuse);split <;> omega
    · show (if 0 < m.fuse then m.fuse - 1 else m.fuse)≤_;split <;> omega
theorem new_ok:newF.Ok:=⟨List.Pairwise.nil,⟨fun y (hy:y ∈ [])=>(by cases hy),by decide,by decide⟩⟩
theorem create_ok {m:FSm} (h:m.Ok) (n:Nat):(createF m n).1.Ok:=by
  unfold createF
  split
  · exact h
  · split
    · exact h
    · split
      · exact h
      · exact act_ok h ⟨fun _=>rfl,fun _=>rfl⟩ _
theorem append_ok {m:FSm} (h:m.Ok) (n:Nat) (b:ByteArray):(appendF m n b).1.Ok:=by
  unfold appendF
  split
  · exact h
  · split
    · exact h
    · rename_i ht
      exact act_ok h (x:=appF (getF m.files n) b) ⟨fun e=>absurd e ht,(get_okx h.2.1 n).2⟩ _
theorem sync_ok {m:FSm} (h:m.Ok) (n:Nat):(syncF m n).1.Ok:=by
  unfold syncF
  split
  · exact h
  · split
    · exact h
    · refine act_ok h (x:=syncedF (getF m.files n)) ⟨(get_okx h.2.1 n).1,fun e=>?_⟩ _
      have e':(getF m.files n).there=false:=e
      show (if (getF m.files n).there=true then (getF m.files n).now else ByteArray.empty)=_
      rw [if_neg (by rw [e'];decide)]
theorem remove_ok {m:FSm} (h:m.Ok) (n:Nat):(removeF m n).1.Ok:=by
  unfold removeF
  split
  · exact h
  · split
    · exact h
    · exact act_ok h (x:=goneF (getF m.files n)) ⟨fun _=>rfl,(get_okx h.2.1 n).2⟩ _
theorem left_okx (x:Fl) (t:Ft):OkX (leftF x t):=by
  have hi:∀ r:Bool × ByteArray,OkX ⟨x.n,r.1,r.1,if r.1=true then r.2 else ByteArray.empty,if r.1=true then r.2 else ByteArray.empty⟩:=fun r=>by
    refine ⟨fun e=>?_,fun e=>?_⟩
    all_goals
      have e':r.1=false:=e
      show (if r.1=true then r.2 else ByteArray.empty)=_
      rw [if_neg (by rw [e'];decide)]
  exact hi _
theorem loose_no (n:Nat):looseF (noF n)=false:=rfl
theorem mem_nums {lo:Bool} {L:List Fl} {n:Nat}:n ∈ numsF lo L ↔ ∃ y ∈ L,y.n=n∧pickF lo y=true:=by
  unfold numsF
  simp only [List.mem_map,List.mem_filter]
  exact ⟨fun ⟨y,⟨h1,h2⟩,h3⟩=>⟨y,h1,h3,h2⟩,fun ⟨y,h1,h3,h2⟩=>⟨y,⟨h1,h2⟩,h3⟩⟩
theorem pick_no (lo:Bool) (n:Nat):pickF lo (noF n)=false:=by cases lo <;> rfl
theorem mem_nums_get {lo:Bool} {L:List Fl} (h:SdF L) {n:Nat}:n ∈ numsF lo L ↔ pickF lo (getF L n)=true:=by
  rw [mem_nums]
  constructor
  · rintro ⟨y,hy,rfl,hp⟩;rw [getF_mem h hy];exact hp
  · intro hp
    rcases getF_or L n with hm | ⟨e,_⟩
    · exact ⟨_,hm,getF_n L n,hp⟩
    · rw [e,pick_no] at hp;cases hp
theorem nums_sorted {lo:Bool} {L:List Fl} (h:SdF L):(numsF lo L).Pairwise (· < ·):=by
  unfold numsF
  rw [List.pairwise_map]
  exact List.Pairwise.filter _ h
end Go.Proofs.YtccbpngehedbaaaGreat

namespace Go.Proofs.YtccbpngehedbaaaGreat
open Go Go.RowKit Go.Sort

/-! Where it falls; what is left of a file that was only appended to. -/
theorem synced_okx {x:Fl} (h:OkX x):OkX (syncedF x):=by
  refine ⟨h.1,fun e=>?_⟩
  have e':x.there=false:=e
  show (if x.there=true then x.now else ByteArray.empty)=_
  rw [if_neg (by rw [e'];decide)]
/-! One file alone. -/
theorem getF_single {x:Fl} {n:Nat} (h:x.n=n):getF [x] n=x:=by
  have:=getF_mem (L:=[x]) (List.pairwise_singleton _ _) (List.mem_singleton.2 rfl)
  rw [h] at this;exact this
theorem putF_single {x y:Fl} (h:x.n=y.n) (hy:hasF y=true):putF [x] y=[y]:=by
  unfold putF
  rw [insF_sorted (List.pairwise_singleton _ _)]
  simp [h,hy]
theorem putF_none {y:Fl} (hy:hasF y=true):putF [] y=[y]:=by
  unfold putF
  rw [insF_sorted List.Pairwise.nil]
  simp [hy]
/-- Behind Create, Append and Sync: one file, safe as it is. -/
theorem three (b:ByteArray):createF newF 3=(⟨[⟨3,true,false,ByteArray.empty,ByteArray.empty⟩],-1,false⟩,0) ∧
    appendF ⟨[⟨3,true,false,ByteArray.empty,ByteArray.empty⟩],-1,false⟩ 3 b=(⟨[⟨3,true,false,b,ByteArray.empty⟩],-1,false⟩,0) ∧
    syncF ⟨[⟨3,true,false,b,ByteArray.empty⟩],-1,false⟩ 3=(⟨[⟨3,true,true,b,b⟩],-1,false⟩,0):=by
  refine ⟨?_,?_,?_⟩
  · have e:getF newF.files 3=noF 3:=rfl
    unfold createF
    rw [if_neg (by decide),e,if_neg (by decide),if_neg (by decide)]
    unfold actF
    rw [if_neg (by decide)]
    show ((⟨putF [] _,_,_⟩:FSm),_)=_
    rw [putF_none rfl];rfl
  · have e:getF [⟨3,true,false,ByteArray.empty,ByteArray.empty⟩] 3=⟨3,true,false,ByteArray.empty,ByteArray.empty⟩:=getF_single rfl
    unfold appendF
    rw [if_neg (by decide)]
    simp only
    rw [e,if_neg (by decide)]
    unfold actF
    rw [if_neg (by decide)]
    simp only
    rw [putF_single (x:=⟨3,true,false,ByteArray.empty,ByteArray.empty⟩) (y:=appF ⟨3,true,false,ByteArray.empty,ByteArray.empty⟩ b) rfl rfl]
    have hb:ByteArray.empty ++ b=b:=by simp
    simp [appF,hb]
  · have e:getF [⟨3,true,false,b,ByteArray.empty⟩] 3=⟨3,true,false,b,ByteArray.empty⟩:=getF_single rfl
    unfold syncF
    rw [if_neg (by simp)]
    simp only
    rw [e,if_neg (by simp)]
    unfold actF
    rw [if_neg (by simp)]
    simp only
    rw [putF_single (x:=⟨3,true,false,b,ByteArray.empty⟩) (y:=syncedF ⟨3,true,false,b,ByteArray.empty⟩) rfl rfl]
    simp [syncedF]
end Go.Proofs.YtccbpngehedbaaaGreat

