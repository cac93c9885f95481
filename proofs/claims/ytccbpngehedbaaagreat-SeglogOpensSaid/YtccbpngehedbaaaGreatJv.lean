import Derived.Test.YtccbpngehedbaaaGreatJi
import Derived.Test.YtccbpngehedbaaaGreatJh
import Derived.Test.YtccbpngehedbaaaGreatJn
import Derived.Test.YtccbpngehedbaaaGreatJa
namespace Go.Proofs.YtccbpngehedbaaaGreat
open Go Go.RowKit Go.Sort

/-! What is read of a segment that is cut off behind its last frame that counts: no program. -/
/-- The bytes of bodies that are found are their frames, one behind the other. -/
theorem cat_of (l : List UInt8) : ∀ (L R : List (List UInt8)) (m p : Nat), allF l m (p : Int) = L ++ R → (l.drop p).take (catF L).length = catF L ∧ endF (p : Int) L = ((p + (catF L).length : Nat) : Int) ∧ (L ≠ [] → p + (catF L).length ≤ l.length) ∧ ∀ b ∈ L, mayF b.length = true
  | [],R,m,p,_=>⟨by simp [catF],by simp [endF,catF],fun h=>absurd rfl h,fun _ h=>absurd h (by simp)⟩
  | b :: L,R,0,p,h=>by rw [allF] at h;exact absurd h (by simp)
  | b :: L,R,m+1,p,h=>by
    rw [allF] at h
    cases hg:gotF l (p:Int) with
    | error e=>rw [hg] at h;exact absurd h (by simp)
    | ok c =>
      rw [hg] at h
      dsimp only at h
      rw [List.cons_append] at h
      injection h with h1 h2
      subst h1
      have hf:=gotF_fits hg
      have hlt:p < l.length:=by omega
      rw [gotF_at hlt] at hg
      obtain ⟨g1,g2,g3⟩:=firstF_back hg
      rw [List.length_drop] at g3
      rw [show (p:Int)+((6+c.length:Nat):Int)=((p+(6+c.length):Nat):Int) by omega] at h2
      obtain ⟨i1,i2,i3,i4⟩:=cat_of l L R m (p+(6+c.length)) h2
      have hc:catF (c :: L)=frL c ++ catF L:=by simp [catF]
      refine ⟨?_,?_,fun _=>?_,fun x hx=>?_⟩
      · rw [hc,List.length_append,frL_length,List.take_add,g1,List.drop_drop,i1]
      · rw [endF,show (p:Int)+((6+c.length:Nat):Int)=((p+(6+c.length):Nat):Int) by omega,i2,hc,List.length_append,frL_length];omega
      · rw [hc,List.length_append,frL_length]
        by_cases h0:L=[]
        · subst h0;simp [catF];omega
        · have:=i3 h0;omega
      · rcases List.mem_cons.1 hx with hx | hx
        · subst hx;exact g2
        · exact i4 x hx
theorem seg_pre (l:List UInt8) (k:Nat):∃ R,allF l k 14=segB l k ++ R:=⟨(allF l k 14).dropWhile isB,by unfold segB bodiesF;rw [List.takeWhile_append_dropWhile]⟩
/-- Where the frames that count end. -/
def goodOf (l:List UInt8) (k:Nat):Nat:=14+(catF (segB l k)).length
theorem good_end (l:List UInt8) (k:Nat):endF 14 (segB l k)=(goodOf l k:Int):=by
  obtain ⟨R,h⟩:=seg_pre l k
  exact (cat_of l (segB l k) R k 14 h).2.1
theorem good_le {l:List UInt8} {k:Nat} (h14:14≤l.length):goodOf l k≤l.length:=by
  obtain ⟨R,h⟩:=seg_pre l k
  have:=(cat_of l (segB l k) R k 14 h).2.2.1
  unfold goodOf
  by_cases h0:segB l k=[]
  · rw [h0];simp [catF];exact h14
  · exact this h0
theorem seg_few (l:List UInt8) (k:Nat):(segB l k).length≤k:=by
  obtain ⟨R,h⟩:=seg_pre l k
  have:∀ (m:Nat) (p:Int),(allF l m p).length≤m:=by
    intro m
    induction m with
    | zero=>intro p;simp [allF]
    | succ m ih =>
      intro p
      rw [allF]
      cases gotF l p with
      | error e=>simp
      | ok x=>simp only [List.length_cons];have:=ih (p+((6+x.length:Nat):Int));omega
  have h2:=this k 14
  rw [h,List.length_append] at h2;omega
end Go.Proofs.YtccbpngehedbaaaGreat

namespace Go.Proofs.YtccbpngehedbaaaGreat
open Go Go.RowKit Go.Sort

/-! A log that is opened, over plain files: no program. -/
structure SgM where
  n:Nat
  L:List (List UInt8)
def byF (m:FSm) (n:Nat):List UInt8:=(readF m n).1.data.toList
def headIs (b:List UInt8) (n k:Nat):Bool:=match headOf b with | .ok (n',k')=>decide (n'=n) && decide (k'=k) | .error _=>false
theorem headIs_iff {b:List UInt8} {n k:Nat}:headIs b n k=true ↔ headOf b=.ok (n,k):=by
  unfold headIs
  cases h:headOf b with
  | error e=>simp
  | ok x=>obtain ⟨a,c⟩:=x;simp
def wholeF (m:FSm) (k n:Nat):Bool:=headIs (byF m n) n k && (decide ((segB (byF m n) k).length=k) && decide (goodOf (byF m n) k=(byF m n).length))
def sgOf (m:FSm) (k n:Nat):SgM:=⟨n,segB (byF m n) k⟩
def chainB:List Nat→Bool
  | a :: b :: r=>decide (b=a+1) && chainB (b :: r)
  | _=>true
def mendF (m:FSm) (k n:Nat):Int × FSm × List SgM :=
  match headOf (byF m n) with
  | .error _=>if (removeF m n).2 ≠ 0 then ((removeF m n).2,(removeF m n).1,[]) else ((syncF (removeF m n).1 n).2,(syncF (removeF m n).1 n).1,[])
  | .ok _ =>
    if headIs (byF m n) n k=false then (3,m,[])
    else if goodOf (byF m n) k < (byF m n).length then
      if (truncF m n (goodOf (byF m n) k:Nat)).2 ≠ 0 then ((truncF m n (goodOf (byF m n) k:Nat)).2,(truncF m n (goodOf (byF m n) k:Nat)).1,[])
      else ((syncF (truncF m n (goodOf (byF m n) k:Nat)).1 n).2,(syncF (truncF m n (goodOf (byF m n) k:Nat)).1 n).1,[sgOf m k n])
    else if (segB (byF m n) k).length=k∧n ∈ numsF true m.files then ((syncF m n).2,(syncF m n).1,[sgOf m k n])
    else (0,m,[sgOf m k n])
def openF (m:FSm) (keep room:Int):Int × FSm × List SgM :=
  if ¬ (1≤keep∧keep≤16∧1≤room∧room≤32) then (1,m,[])
  else if m.down=true then (7,m,[])
  else if room.toNat < (numsF false m.files).length then (3,m,[])
  else if chainB (numsF false m.files)=false then (3,m,[])
  else if (numsF false m.files).dropLast.all (wholeF m keep.toNat)=false then (3,m,[])
  else match (numsF false m.files).getLast? with
    | none=>(0,m,[])
    | some n=>((mendF m keep.toNat n).1,(mendF m keep.toNat n).2.1,(numsF false m.files).dropLast.map (sgOf m keep.toNat) ++ (mendF m keep.toNat n).2.2)
/-- Files that are all safe, behind a crash. -/
structure Calm (m:FSm):Prop where
  ok:m.Ok
  fuse:m.fuse=-1
  down:m.down=false
  safe:∀ n,looseF (getF m.files n)=false
theorem act_calm {m:FSm} (hf:m.fuse=-1) (x:Fl) (s:Bool):actF m x s=(⟨putF m.files x,-1,m.down⟩,0):=by
  unfold actF
  rw [if_neg (by omega),if_neg (by omega),hf]
theorem get_act {m:FSm} (h:m.Ok) (x:Fl) (k:Nat):getF (putF m.files x) k=if k=x.n then (if hasF x=true then x else noF k) else getF m.files k :=
  getF_put h.1 (fun y hy=>(h.2.1 y hy).1) x k
end Go.Proofs.YtccbpngehedbaaaGreat

namespace Go.Proofs.YtccbpngehedbaaaGreat
open Go Go.RowKit Go.Sort

/-! A log that is opened again, as soon as it was opened: no program. -/
theorem sorted_ext : ∀ {A B : List Nat}, A.Pairwise (· < ·) → B.Pairwise (· < ·) → (∀ n, n ∈ A ↔ n ∈ B) → A = B
  | [],[],_,_,_=>rfl
  | [],b :: B,_,_,h=>absurd ((h b).2 (List.mem_cons_self ..)) (by simp)
  | a :: A,[],_,_,h=>absurd ((h a).1 (List.mem_cons_self ..)) (by simp)
  | a :: A,b :: B,ha,hb,h=>by
    obtain ⟨a1,a2⟩:=List.pairwise_cons.1 ha
    obtain ⟨b1,b2⟩:=List.pairwise_cons.1 hb
    have e:a=b:=by
      rcases List.mem_cons.1 ((h a).1 (List.mem_cons_self ..)) with e | m1
      · exact e
      · rcases List.mem_cons.1 ((h b).2 (List.mem_cons_self ..)) with e | m2
        · exact e.symm
        · have:=b1 a m1;have:=a1 b m2;omega
    subst e
    rw [sorted_ext a2 b2 fun n=>⟨fun hn=>by
      rcases List.mem_cons.1 ((h n).1 (List.mem_cons_of_mem _ hn)) with e | m
      · subst e;exact absurd (a1 n hn) (by omega)
      · exact m,fun hn=>by
      rcases List.mem_cons.1 ((h n).2 (List.mem_cons_of_mem _ hn)) with e | m
      · subst e;exact absurd (b1 n hn) (by omega)
      · exact m⟩]
theorem mem_there {L:List Fl} (h:SdF L) {n:Nat}:n ∈ numsF false L ↔ (getF L n).there=true:=by
  rw [mem_nums_get h];rfl
end Go.Proofs.YtccbpngehedbaaaGreat

namespace Go.Proofs.YtccbpngehedbaaaGreat
open Go Go.RowKit Go.Sort

/-! A log over plain files, and what a log of the program has to pay: over this alone go the statements. -/
structure LgM where
  keep:Nat
  room:Nat
  segs:List SgM
  over:Bool
def LgM.fresh (g:LgM):Bool:=match g.segs.getLast? with | none=>true | some s=>decide (s.L.length=g.keep)
def LgM.next (g:LgM):Nat:=match g.segs.getLast? with | none=>0 | some s=>s.n+1
def LgM.full (g:LgM):Bool:=g.fresh && (decide (g.room≤g.segs.length) || (match g.segs.getLast? with | none=>false | some s=>decide (s.n=4294967295)))
def LgM.cur (g:LgM):SgM:=if g.fresh=true then ⟨g.next,[]⟩ else (g.segs.getLast?).getD ⟨0,[]⟩
def LgM.push (g:LgM) (b:List UInt8):LgM:={ g with segs:=(if g.fresh=true then g.segs else g.segs.dropLast) ++ [⟨g.cur.n,g.cur.L ++ [b]⟩] }
def LgM.down (g:LgM):LgM:={ g with over:=true }
def LgM.all (g:LgM):List (List UInt8):=g.segs.flatMap SgM.L
/-- The acts ahead of a body's: those that begin a segment. -/
def beginL (m:FSm) (g:LgM):FSm × Int :=
  if g.fresh=true then
    if (createF m g.next).2 ≠ 0 then createF m g.next else appendF (createF m g.next).1 g.next (bs (headL g.next g.keep))
  else (m,0)
def addL (m:FSm) (g:LgM) (b:List UInt8):FSm × Int:=if (beginL m g).2 ≠ 0 then beginL m g else appendF (beginL m g).1 g.cur.n (bs (frL b))
def sealL (m:FSm) (g:LgM) (b:List UInt8):FSm × Int :=
  if (addL m g b).2 ≠ 0 then addL m g b
  else if g.cur.L.length+1=g.keep then syncF (addL m g b).1 g.cur.n
  else addL m g b
def appendL (m:FSm) (g:LgM) (b:List UInt8):Int × FSm × LgM :=
  if g.over=true then (7,m,g)
  else if isB b=false then (1,m,g)
  else if g.full=true then (6,m,g)
  else ((sealL m g b).2,(sealL m g b).1,if (sealL m g b).2 ≠ 0 then g.down else g.push b)
def flushL (m:FSm) (g:LgM):Int × FSm × LgM :=
  if g.over=true then (7,m,g)
  else match g.segs.getLast? with
    | none=>(0,m,g)
    | some s=>if s.n ∈ numsF true m.files then ((syncF m s.n).2,(syncF m s.n).1,if (syncF m s.n).2 ≠ 0 then g.down else g) else (0,m,g)
def takeL (m:FSm) (n:Nat):FSm × Int:=if (removeF m n).2 ≠ 0 then removeF m n else syncF (removeF m n).1 n
def expireL (m:FSm) (g:LgM):Int × FSm × LgM :=
  if g.over=true then (7,m,g)
  else match g.segs with
    | []=>(5,m,g)
    | s :: r=>if s.L.length ≠ g.keep then (5,m,g) else ((takeL m s.n).2,(takeL m s.n).1,if (takeL m s.n).2 ≠ 0 then { g with segs:=r,over:=true } else { g with segs:=r })
theorem lim_append4 {k:Nat} {m:FSm} (h:Lim k m) (n:Nat) {b:List UInt8} (hb:b.length≤4000):Lim (k+1) (appendF m n (bs b)).1:=lim_append h n (bs b) (by rw [bs_size];exact hb)
theorem lim_begin {k:Nat} {m:FSm} (h:Lim k m) (g:LgM):Lim (k+2) (beginL m g).1:=by
  unfold beginL
  split
  · split
    · exact (lim_create h _).more (Nat.le_succ _)
    · exact lim_append4 (lim_create h _) _ (by rw [headL_length];omega)
  · exact h.more (by omega)
theorem isB_small {b:List UInt8} (h:isB b=true):b.length≤2406:=by
  unfold isB at h
  have h0:errW (getW b)=0:=by simpa using h
  cases hg:getW b with
  | error e=>rw [hg] at h0;exact absurd h0 (getW_err hg)
  | ok L =>
    obtain ⟨h1,h2,_⟩:=getW_back hg
    have:=batchL_length h2
    have h3:=(mayL_iff.1 h2).2.1
    rw [h1] at this;omega
theorem lim_add {k:Nat} {m:FSm} (h:Lim k m) (g:LgM) {b:List UInt8} (hb:b.length≤2406):Lim (k+3) (addL m g b).1:=by
  unfold addL
  split
  · exact (lim_begin h g).more (Nat.le_succ _)
  · exact lim_append4 (lim_begin h g) _ (by rw [frL_length];omega)
theorem lim_appendL {k:Nat} {m:FSm} (h:Lim k m) (g:LgM) (b:List UInt8):Lim (k+4) (appendL m g b).2.1:=by
  unfold appendL
  split
  · exact h.more (by omega)
  split
  · exact h.more (by omega)
  split
  · exact h.more (by omega)
  rename_i hb _
  have hb:=isB_small (b:=b) (by simpa using hb)
  show Lim (k+4) (sealL m g b).1
  unfold sealL
  split
  · exact (lim_add h g hb).more (Nat.le_succ _)
  · split
    · exact lim_sync (lim_add h g hb) _
    · exact (lim_add h g hb).more (Nat.le_succ _)
theorem lim_expireL {k:Nat} {m:FSm} (h:Lim k m) (g:LgM):Lim (k+4) (expireL m g).2.1:=by
  unfold expireL
  split
  · exact h.more (by omega)
  split
  · exact h.more (by omega)
  split
  · exact h.more (by omega)
  · show Lim (k+4) (takeL m _).1
    unfold takeL
    split
    · exact (lim_remove h _).more (by omega)
    · exact (lim_sync (lim_remove h _) _).more (by omega)
theorem lim_openF {k : Nat} {m : FSm} (h : Lim k m) (keep room : Int) : Lim (k + 2) (openF m keep room).2.1 := by
  have hm : ∀ n, Lim (k + 2) (mendF m keep.toNat n).2.1 := fun n => by
    unfold mendF
    split
    · split
      · exact (lim_remove h _).more (Nat.le_succ _)
      · exact lim_sync (lim_remove h _) _
    · split
      · exact h.more (by omega)
      · split
        · split
          · exact (lim_trunc h _ _).more (Nat.le_succ _)
          · exact lim_sync (lim_trunc h _ _) _
        · split
          · exact (lim_sync h _).more (Nat.le_succ _)
          · exact h.more (by omega)
  unfold openF
  repeat' split
  all_goals first
    | exact h.more (by omega)
    | exact hm _
/-- Bodies that are not great. -/
def LgM.Small (g:LgM):Prop:=(∀ b ∈ g.all,b.length≤1000000000)∧g.all.length≤100000
/-- Blocks that have nothing together. -/
def Dis (T S R:Nat→Prop):Prop:=∀ k,T k→¬ S k∧¬ R k
/-- Behind a call on a log: what is written lies in the blocks that were the log's, or the files', and in new ones. -/
structure DidL (S R T S' R' T':Nat→Prop) (w w':World):Prop where
  s:∀ k,S' k→S k∨w.heap.size≤k
  r:∀ k,R' k→R k∨S k∨w.heap.size≤k
  t:∀ k,T' k→T k∨w.heap.size≤k
  dis:Dis T' S' R'
  off:Off (fun k=>S k∨T k) w w'
/-- Files that are few and small. -/
def NumOk (m:FSm):Prop:=∀ x ∈ m.files,x.n < 4294967296
def Fit (m:FSm):Prop:=(∃ k,k≤9000∧Lim k m)∧NumOk m
theorem Fit.bnd {m:FSm} (h:Fit m):Bnd m:=by obtain ⟨⟨k,hk,h⟩,_⟩:=h;exact h.bnd (by omega)
structure LogKit (F:FsKit) where
  At:World→(Nat→Prop)→Nat→Nat→LgM→Prop
  low:∀ {w:World} {T:Nat→Prop} {p q:Nat} {g:LgM},At w T p q g→∀ k,T k→k < w.heap.size
  move:∀ {w w':World} {T:Nat→Prop} {p q:Nat} {g:LgM},At w T p q g→w.heap.size≤w'.heap.size→(∀ k,T k→w'.heap[k]?=w.heap[k]?)→At w' T p q g
  open_:∀ (w:World) (S R:Nat→Prop) (p:Nat) (m:FSm) (keep room:Int),F.Fs w S R p m→Fit m→-9223372036854775808≤keep→keep≤9223372036854775807→-9223372036854775808≤room→room≤9223372036854775807 →
    Calls Tryz.prog 16 #[.pointer (some ⟨p,0,none⟩),.int .i64 keep,.int .i64 room] w fun e w'=>∃ S' R' v,e=.returned (.tuple #[.pointer v,.int .i64 (openF m keep room).1])∧F.Fs w' S' R' p (openF m keep room).2.1∧Did S R S' R' w w' ∧
      ((openF m keep room).1=0→∃ q T,v=some ⟨q,0,none⟩∧At w' T p q ⟨keep.toNat,room.toNat,(openF m keep room).2.2,false⟩∧(∀ k,T k→w.heap.size≤k)∧Dis T S' R')
  append:∀ (w:World) (S R T:Nat→Prop) (p q:Nat) (m:FSm) (g:LgM) (a:Option Addr) (c:Nat) (b:List UInt8),F.Fs w S R p m→At w T p q g→Dis T S R→Fit m→RdN (fun k=>S k∨T k) w a (bV b)→b.length≤1000000000→b.length≤c→c≤maxLen →
    Calls Tryz.prog 24 #[.pointer (some ⟨q,0,none⟩),.slice a b.length c] w fun e w'=>∃ S' R' T',e=.returned (.int .i64 (appendL m g b).1)∧F.Fs w' S' R' p (appendL m g b).2.1∧At w' T' p q (appendL m g b).2.2∧DidL S R T S' R' T' w w'
  flush:∀ (w:World) (S R T:Nat→Prop) (p q:Nat) (m:FSm) (g:LgM),F.Fs w S R p m→At w T p q g→Dis T S R→Fit m →
    Calls Tryz.prog 50 #[.pointer (some ⟨q,0,none⟩)] w fun e w'=>∃ S' R' T',e=.returned (.int .i64 (flushL m g).1)∧F.Fs w' S' R' p (flushL m g).2.1∧At w' T' p q (flushL m g).2.2∧DidL S R T S' R' T' w w'
  expire:∀ (w:World) (S R T:Nat→Prop) (p q:Nat) (m:FSm) (g:LgM),F.Fs w S R p m→At w T p q g→Dis T S R→Fit m →
    Calls Tryz.prog 27 #[.pointer (some ⟨q,0,none⟩)] w fun e w'=>∃ S' R' T',e=.returned (.int .i64 (expireL m g).1)∧F.Fs w' S' R' p (expireL m g).2.1∧At w' T' p q (expireL m g).2.2∧DidL S R T S' R' T' w w'
  bodies:∀ (w:World) (T:Nat→Prop) (p q:Nat) (g:LgM),At w T p q g→g.Small →
    Calls Tryz.prog 22 #[.pointer (some ⟨q,0,none⟩)] w fun e w'=>∃ (a:Option Addr) (c:Nat) (xs:List By),e=.returned (.slice a xs.length c)∧xs.length≤c∧c≤maxLen∧Rd w' w'.heap.size a (flatG By.l xs)∧(∀ x ∈ xs,ByArg w' x)∧xs.map By.b=g.all∧Below w.heap.size w w'
  segs:∀ (w:World) (T:Nat→Prop) (p q:Nat) (g:LgM),At w T p q g →
    Calls Tryz.prog 21 #[.pointer (some ⟨q,0,none⟩)] w fun e w'=>e=.returned (.int .i64 (g.segs.length:Int))∧Below w.heap.size w w'
  over:∀ (w:World) (T:Nat→Prop) (p q:Nat) (g:LgM),At w T p q g→Calls Tryz.prog 43 #[.pointer (some ⟨q,0,none⟩)] w fun e w'=>e=.returned (.bool g.over)∧Below w.heap.size w w'
end Go.Proofs.YtccbpngehedbaaaGreat

namespace Go.Proofs.YtccbpngehedbaaaGreat
open Go Go.RowKit Go.Sort

/-! Numbers of files and segments, over plain files: no program. -/
theorem nums_lt {m:FSm} (h:NumOk m) {lo:Bool} {n:Nat} (hn:n ∈ numsF lo m.files):n < 4294967296:=by
  obtain ⟨y,hy,rfl,_⟩:=mem_nums.1 hn
  exact h y hy
theorem num_act {m:FSm} {x:Fl} (h:NumOk m) (hx:x.n < 4294967296) (s:Bool):NumOk (actF m x s).1:=by
  have hp:∀ z ∈ putF m.files x,z.n < 4294967296:=fun z hz=>by
    rcases mem_putF' hz with e | e
    · rw [e];exact hx
    · exact h z e
  unfold actF
  split
  · intro z hz
    cases s
    · exact hp z hz
    · exact h z hz
  · exact hp
theorem num_create {m:FSm} (h:NumOk m) {n:Nat} (hn:n < 4294967296):NumOk (createF m n).1:=by
  unfold createF
  repeat' split
  all_goals first
    | exact h
    | exact num_act h hn _
theorem num_append {m:FSm} (h:NumOk m) {n:Nat} (hn:n < 4294967296) (b:ByteArray):NumOk (appendF m n b).1:=by
  have hx:=getF_n m.files n
  unfold appendF
  repeat' split
  all_goals first
    | exact h
    | exact num_act h (by show (getF m.files n).n < _;omega) _
theorem num_trunc {m:FSm} (h:NumOk m) {n:Nat} (hn:n < 4294967296) (z:Int):NumOk (truncF m n z).1:=by
  have hx:=getF_n m.files n
  unfold truncF
  repeat' split
  all_goals first
    | exact h
    | exact num_act h (by show (getF m.files n).n < _;omega) _
theorem num_sync {m:FSm} (h:NumOk m) {n:Nat} (hn:n < 4294967296):NumOk (syncF m n).1:=by
  have hx:=getF_n m.files n
  unfold syncF
  repeat' split
  all_goals first
    | exact h
    | exact num_act h (by show (getF m.files n).n < _;omega) _
theorem num_remove {m:FSm} (h:NumOk m) {n:Nat} (hn:n < 4294967296):NumOk (removeF m n).1:=by
  have hx:=getF_n m.files n
  unfold removeF
  repeat' split
  all_goals first
    | exact h
    | exact num_act h (by show (getF m.files n).n < _;omega) _
/-- The numbers of a log's segments. -/
def GNum (g:LgM):Prop:=∀ s ∈ g.segs,s.n < 4294967296
theorem cur_lt {g:LgM} (h:GNum g) (hf:g.full=false):g.cur.n < 4294967296∧(g.fresh=true→g.next < 4294967296):=by
  unfold LgM.full at hf
  cases hl:g.segs.getLast? with
  | none =>
    have hfr:g.fresh=true:=by unfold LgM.fresh;rw [hl]
    have hn:g.next=0:=by unfold LgM.next;rw [hl]
    refine ⟨?_,fun _=>by rw [hn];omega⟩
    unfold LgM.cur;rw [if_pos hfr];show g.next < _;rw [hn];omega
  | some s =>
    have hs:=h s (List.mem_of_getLast? hl)
    have hn:g.next=s.n+1:=by unfold LgM.next;rw [hl]
    cases hfr:g.fresh
    · refine ⟨?_,fun e=>(by cases e)⟩
      unfold LgM.cur;rw [if_neg (by rw [hfr];simp),hl];exact hs
    · rw [hfr,hl,Bool.true_and,Bool.or_eq_false_iff] at hf
      have h1:¬ s.n=4294967295:=of_decide_eq_false hf.2
      have:g.next < 4294967296:=by omega
      refine ⟨?_,fun _=>this⟩
      unfold LgM.cur;rw [if_pos hfr];exact this
theorem num_appendL {m : FSm} {g : LgM} (h : NumOk m) (hg : GNum g) (b : List UInt8) : NumOk (appendL m g b).2.1 ∧ GNum (appendL m g b).2.2 := by
  unfold appendL
  split
  · exact ⟨h,hg⟩
  split
  · exact ⟨h,hg⟩
  split
  · exact ⟨h,hg⟩
  rename_i hf
  obtain ⟨h1,h2⟩:=cur_lt hg (by simpa using hf)
  have hb:NumOk (beginL m g).1:=by
    unfold beginL
    split
    · rename_i hfr
      split
      · exact num_create h (h2 hfr)
      · exact num_append (num_create h (h2 hfr)) (h2 hfr) _
    · exact h
  have ha:NumOk (addL m g b).1:=by
    unfold addL
    split
    · exact hb
    · exact num_append hb h1 _
  refine ⟨?_,?_⟩
  · show NumOk (sealL m g b).1
    unfold sealL
    split
    · exact ha
    · split
      · exact num_sync ha h1
      · exact ha
  · show GNum (if _ then _ else _)
    split
    · exact hg
    · intro s hs
      rcases List.mem_append.1 hs with hs | hs
      · split at hs
        · exact hg s hs
        · exact hg s (List.dropLast_subset _ hs)
      · have hs:s=⟨g.cur.n,g.cur.L ++ [b]⟩:=by simpa using hs
        rw [hs];exact h1
theorem num_expireL {m:FSm} {g:LgM} (h:NumOk m) (hg:GNum g):NumOk (expireL m g).2.1∧GNum (expireL m g).2.2:=by
  unfold expireL
  split
  · exact ⟨h,hg⟩
  split
  · exact ⟨h,hg⟩
  rename_i s r hs
  have hn:=hg s (by rw [hs];exact List.mem_cons_self ..)
  have hr:∀ x ∈ r,x.n < 4294967296:=fun x hx=>hg x (by rw [hs];exact List.mem_cons_of_mem _ hx)
  split
  · exact ⟨h,hg⟩
  · refine ⟨?_,?_⟩
    · show NumOk (takeL m s.n).1
      unfold takeL
      split
      · exact num_remove h hn
      · exact num_sync (num_remove h hn) hn
    · show GNum (if _ then _ else _)
      split <;> exact hr
theorem num_openF {m : FSm} (h : NumOk m) (keep room : Int) : NumOk (openF m keep room).2.1 ∧ ∀ s ∈ (openF m keep room).2.2, s.n < 4294967296 := by
  have hno:NumOk m∧∀ s ∈ ([]:List SgM),s.n < 4294967296:=⟨h,fun _ h=>absurd h (by simp)⟩
  have hm : ∀ n, n < 4294967296 → NumOk (mendF m keep.toNat n).2.1 ∧ ∀ s ∈ (mendF m keep.toNat n).2.2, s.n < 4294967296 := fun n hn => by
    have h1:∀ s ∈ [sgOf m keep.toNat n],s.n < 4294967296:=fun s hs=>by
      have hs:s=sgOf m keep.toNat n:=by simpa using hs
      rw [hs];exact hn
    unfold mendF
    split
    · split
      · exact ⟨num_remove h hn,fun _ h=>absurd h (by simp)⟩
      · exact ⟨num_sync (num_remove h hn) hn,fun _ h=>absurd h (by simp)⟩
    · split
      · exact hno
      · split
        · split
          · exact ⟨num_trunc h hn _,fun _ h=>absurd h (by simp)⟩
          · exact ⟨num_sync (num_trunc h hn _) hn,h1⟩
        · split
          · exact ⟨num_sync h hn,h1⟩
          · exact ⟨h,h1⟩
  unfold openF
  split
  · exact hno
  split
  · exact hno
  split
  · exact hno
  split
  · exact hno
  split
  · exact hno
  split
  · exact hno
  · rename_i n hn
    have hN:n < 4294967296:=nums_lt h (List.mem_of_getLast? hn)
    obtain ⟨h1,h2⟩:=hm n hN
    refine ⟨h1,fun s hs=>?_⟩
    rcases List.mem_append.1 hs with hs | hs
    · obtain ⟨x,hx,rfl⟩:=List.mem_map.1 hs
      exact nums_lt h (List.dropLast_subset _ hx)
    · exact h2 s hs
end Go.Proofs.YtccbpngehedbaaaGreat

