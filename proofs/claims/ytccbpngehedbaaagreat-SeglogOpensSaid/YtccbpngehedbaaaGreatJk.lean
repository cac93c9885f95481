import Derived.Test.YtccbpngehedbaaaGreatRows
import Derived.Test.YtccbpngehedbaaaGreatJa
namespace Go.Proofs.YtccbpngehedbaaaGreat
open Go Go.RowKit

set_option maxRecDepth 20000
/-! The document's file system. -/
structure Fl where
  n:Nat
  there:Bool
  kept:Bool
  now:ByteArray
  safe:ByteArray
def Fl.c (x:Fl):Array Value:=#[.int .u32 (x.n:Int),.bool x.there,.bool x.kept,.string x.now,.string x.safe]
def Fl.v (x:Fl):Value:=.agg #[.int .u32 (x.n:Int),.bool x.there,.bool x.kept,.string x.now,.string x.safe]
def Fl.l (x:Fl):List Value:=[.int .u32 (x.n:Int),.bool x.there,.bool x.kept,.string x.now,.string x.safe]
def flF (L:List Fl):List Value:=flatG Fl.l L
theorem flF_len (x:Fl):x.l.length=5:=rfl
theorem flF_append (L M:List Fl):flF (L ++ M)=flF L ++ flF M:=flatG_append L M
theorem flF_one (L:List Fl):∀ u ∈ flF L,u.oneCell'=true:=flatG_all (fun x u hu=>by
  simp [Fl.l] at hu
  rcases hu with rfl | rfl | rfl | rfl | rfl <;> rfl) L
/-- The five cells of a file. -/
def FlAt (w:World) (b o:Nat) (x:Fl):Prop :=
  w.cell? ⟨b,o,none⟩=some (.int .u32 (x.n:Int))∧w.cell? ⟨b,o+1,none⟩=some (.bool x.there)∧w.cell? ⟨b,o+2,none⟩=some (.bool x.kept)∧w.cell? ⟨b,o+3,none⟩=some (.string x.now)∧w.cell? ⟨b,o+4,none⟩=some (.string x.safe)
theorem flF_elem {w:World} {B:Nat} {a:Option Addr} {L:List Fl} (h:Rd w B a (flF L)) {i:Nat} (hi:i < L.length):∃ b off,a=some ⟨b,off,none⟩∧b < B∧FlAt w b (off+i * 5) L[i]:=by
  obtain ⟨b,off,ha,hb,hc⟩:=Rd.elemG flF_len (by omega) h hi
  exact ⟨b,off,ha,hb,hc 0 _ rfl,hc 1 _ rfl,hc 2 _ rfl,hc 3 _ rfl,hc 4 _ rfl⟩
def noF (n:Nat):Fl:=⟨n,false,false,ByteArray.empty,ByteArray.empty⟩
def getF (L:List Fl) (n:Nat):Fl:=(L.find? fun x=>decide (x.n=n)).getD (noF n)
theorem getF_here {L:List Fl} {n i:Nat} (hi:i < L.length) (h:∀ x ∈ L.take i,x.n ≠ n) (hn:L[i].n=n):getF L n=L[i]:=by
  have e:L.find? (fun x=>decide (x.n=n))=some L[i]:=by
    conv=>lhs;rw [← List.take_append_drop i L]
    rw [List.find?_append,List.find?_eq_none.2 (fun x hx=>by simp [h x hx]),List.drop_eq_getElem_cons hi,List.find?_cons_of_pos (by simp [hn])]
    rfl
  unfold getF;rw [e];rfl
theorem getF_none {L:List Fl} {n:Nat} (h:∀ x ∈ L,x.n ≠ n):getF L n=noF n:=by
  unfold getF;rw [List.find?_eq_none.2 (fun x hx=>by simp [h x hx])];rfl
theorem size_fl:(Tryz.prog.info? 86).map (·.size)=some 5:=by kernel_rfl
theorem load_fl (W:World) (x:Fl) (n:Nat) (hn:n=W.heap.size):(loadVar 86 ⟨n,0,none⟩).run Tryz.prog (W.alloc (.cells x.c 86))=.ok x.v (W.alloc (.cells x.c 86)):=by
  have h:=run_loadVar_mid (P:=Tryz.prog) _ n 0 86 _ _ (rangeAt_last W x.c 86 n hn) Tryz.underlying86 rfl size_fl
  exact h
/-- The value of a file system. -/
def fsv (a:Option Addr) (n c:Nat) (fu:Int) (dn:Bool):Value:=.agg #[.slice a n c,.int .i64 fu,.bool dn]
set_option maxHeartbeats 2000000 in
theorem refGetF_any (a : Option Addr) (c : Nat) (L : List Fl) (fu : Int) (dn : Bool) (n : Nat) (w : World) (hr : Rd w w.heap.size a (flF L)) (hl : L.length ≤ 1000000000000) :
    Calls Tryz.prog 33 #[fsv a L.length c fu dn,.int .u32 (n:Int)] w fun e w'=>e=.returned (getF L n).v∧Below w.heap.size w w':=by
  have HR:=Lib.hid hr;clear hr
  unfold fsv
  go_enter Tryz.func33,Tryz.ntmps33
  go_wp2_with fail
  obtain ⟨W1,hW1⟩:∃ W1,W1=((w.alloc (.cells #[.slice a L.length c,.int .i64 fu,.bool dn] 30)).alloc (.cells #[.int .u32 0,.bool false,.bool false,.string ⟨#[]⟩,.string ⟨#[]⟩] 86)):=⟨_,rfl⟩
  have HB1:Hid (Below w.heap.size w W1):=by show Below _ _ _;rw [hW1];exact (box1 w _).alloc (by simp) _
  have HR1:=Lib.hid (HR.out.below HB1.out)
  rw [hW1] at HR1
  have HB2:=HB1
  rw [hW1] at HB2
  clear HB1 hW1 W1
  go_loop [5] (fun i=>∃ k:Nat,k≤L.length∧i=.int .i64 k∧∀ x ∈ L.take k,x.n ≠ n) (fun i=>L.length - (intOf i).toNat)
  case atStart=>exact ⟨0,Nat.zero_le _,rfl,by simp⟩
  case round =>
    obtain ⟨k,hk,rfl,hne⟩:=hrel
    have HN:=Lib.hid hne;clear hne
    by_cases hlt:k < L.length
    · obtain ⟨b,off,ha,hbl,e0,e1,e2,e3,e4⟩:=flF_elem HR1.out hlt
      subst ha
      have hbn:¬ b=w.heap.size:=by omega
      have i1:(0:Int)≤(k:Int):=by omega
      have i2:(k:Int) < (L.length:Int):=by omega
      by_cases hx:L[k].n=n
      · have HG:=Lib.hid (getF_here hlt HN.out hx)
        have hq:((L[k].n:Int) == (n:Int))=true:=by simp [hx]
        clear hx
        generalize L[k]=x at *
        go_wp2_with fail
        refine bodyPost_ret (v:=x.v) (results_cell rfl rfl (load_fl _ x _ (by simp))) rfl ⟨by rw [HG.out],(box1 w _).alloc (by simp) _⟩
      · have HT:Hid (∀ y ∈ L.take (k+1),y.n ≠ n):=by
          intro y hy
          rw [List.take_succ_eq_append_getElem hlt] at hy
          rcases List.mem_append.1 hy with h | h
          · exact HN.out y h
          · rw [List.mem_singleton.1 h];exact hx
        have hq:((L[k].n:Int) == (n:Int))=false:=beq_eq_false_iff_ne.2 (by omega)
        clear hx
        generalize L[k]=x at *
        go_wp2_with fail
        go_round
        case rel=>exact ⟨k+1,by omega,by go_num,HT.out⟩
        case measure=>simp [intOf];omega
    · have:k=L.length:=by omega
      subst this
      have HG:Hid (getF L n=noF n):=getF_none (by have:=HN.out;rwa [List.take_length] at this)
      go_wp2_with fail
      refine bodyPost_ret (v:=(noF n).v) (results_cell rfl rfl (load_fl _ (noF n) _ (by simp))) rfl ⟨by rw [HG.out],(box1 w _).alloc (by simp) _⟩
end Go.Proofs.YtccbpngehedbaaaGreat

namespace Go.Proofs.YtccbpngehedbaaaGreat
open Go Go.RowKit

set_option maxRecDepth 20000
def looseF (x:Fl):Bool:=(x.there != x.kept) || (x.there && decide (x.now ≠ x.safe))
set_option maxHeartbeats 1000000 in
theorem loose_any (x:Fl) (w:World):Calls Tryz.prog 34 #[x.v] w fun e w'=>e=.returned (.bool (looseF x))∧Below w.heap.size w w':=by
  obtain ⟨n,t,k,nw,sf⟩:=x
  unfold Fl.v
  simp only
  by_cases hs:nw=sf
  · obtain ⟨t1,t2⟩:=str_eq (x:=nw) (y:=sf) (b:=true) (by simp [hs])
    simp only [Bool.not_true] at t2
    have HE:Hid (looseF ⟨n,t,k,nw,sf⟩=(t != k)):=by show _=_;simp [looseF,hs]
    clear hs
    cases t <;> cases k
    all_goals
      go_enter Tryz.func34,Tryz.ntmps34
      go_wp2
      go_ret
      exact ⟨ret_bool (by rw [HE.out];rfl),box1 _ _⟩
  · obtain ⟨t1,t2⟩:=str_eq (x:=nw) (y:=sf) (b:=false) (by simp [hs])
    simp only [Bool.not_false] at t2
    have HE:Hid (looseF ⟨n,t,k,nw,sf⟩=((t != k) || t)):=by show _=_;simp [looseF,hs]
    clear hs
    cases t <;> cases k
    all_goals
      go_enter Tryz.func34,Tryz.ntmps34
      go_wp2
      go_ret
      exact ⟨ret_bool (by rw [HE.out];rfl),box1 _ _⟩
theorem loose_is {x:Fl} {b:Bool} (h:looseF x=b) (w:World):Calls Tryz.prog 34 #[x.v] w fun e w'=>e=.returned (.bool b)∧Below w.heap.size w w':=by
  subst h;exact loose_any x w
def u32V (N:List Nat):List Value:=N.map fun (n:Nat)=>.int .u32 (n:Int)
theorem u32V_length (N:List Nat):(u32V N).length=N.length:=by simp [u32V]
theorem u32V_one (N:List Nat):∀ u ∈ u32V N,u.oneCell'=true:=by
  intro u hu;obtain ⟨c,_,rfl⟩:=List.mem_map.1 hu;rfl
theorem u32V_append (N M:List Nat):u32V (N ++ M)=u32V N ++ u32V M:=by simp [u32V]
def NumsOut (w:World) (N:List Nat) (e:Ending) (w':World):Prop :=
  ∃ a c,e=.returned (.slice a N.length c)∧N.length≤c∧c≤maxLen∧Rd w' w'.heap.size a (u32V N)∧(∀ b o s,a=some ⟨b,o,s⟩→w.heap.size≤b)∧Below w.heap.size w w'
def pickF (lo:Bool) (x:Fl):Bool:=if lo=true then looseF x else x.there
def numsF (lo:Bool) (L:List Fl):List Nat:=(L.filter (pickF lo)).map Fl.n
theorem numsF_yes {lo:Bool} {L:List Fl} {k:Nat} (h:k < L.length) (hp:pickF lo L[k]=true):numsF lo (L.take (k+1))=numsF lo (L.take k) ++ [L[k].n]:=by
  unfold numsF;rw [List.take_succ_eq_append_getElem h,List.filter_append,List.map_append];simp [hp]
theorem numsF_no {lo:Bool} {L:List Fl} {k:Nat} (h:k < L.length) (hp:pickF lo L[k]=false):numsF lo (L.take (k+1))=numsF lo (L.take k):=by
  unfold numsF;rw [List.take_succ_eq_append_getElem h,List.filter_append];simp [hp]
theorem numsF_le (lo:Bool) (L:List Fl):(numsF lo L).length≤L.length:=by
  unfold numsF;rw [List.length_map];exact List.length_filter_le _ _
theorem info_u32:(Tryz.prog.info? 22).map (fun i=>(i.zero,i.size,i.bytes))=some (some (.int .u32 0),1,4):=by kernel_rfl
set_option maxRecDepth 20000 in
set_option maxHeartbeats 4000000 in
theorem numbers_any (a : Option Addr) (c : Nat) (L : List Fl) (fu : Int) (dn : Bool) (lo : Bool) (w : World) (hr : Rd w w.heap.size a (flF L)) (hl : L.length ≤ 1000000000) :
    Calls Tryz.prog 67 #[fsv a L.length c fu dn,.bool lo] w (NumsOut w (numsF lo L)):=by
  have HR:=Lib.hid hr;clear hr
  obtain ⟨i0,hi0,hz0,hz1,hz2⟩:=info_parts info_u32
  have HZ2:=Lib.hid hz2;clear hz2
  unfold fsv
  go_enter Tryz.func67,Tryz.ntmps67
  go_wp2_with fail
  have hbx:=box1 w (.cells #[.slice a L.length c,.int .i64 fu,.bool dn] 30)
  have HC0:Hid ((w.alloc (.cells #[.slice a L.length c,.int .i64 fu,.bool dn] 30)).cell? ⟨w.heap.size,0,none⟩=some (.slice a L.length c)):=by show _=_;go_simp
  have HBX:=Lib.hid hbx;clear hbx
  go_loopw [5,6] (fun v i wr=>∃ k:Nat,k≤L.length∧i=.int .i64 k∧wr.ownsRow (w.heap.size+1) 22 1 v (numsF lo (L.take k)).length (u32V (numsF lo (L.take k)))∧RowKit.Below (w.heap.size+1) (w.alloc (.cells #[.slice a L.length c,.int .i64 fu,.bool dn] 30)) wr) (fun _ i _=>L.length - (intOf i).toNat)
  case atStart =>
    refine ⟨0,Nat.zero_le _,rfl,?_,(Below.refl _ _).alloc (by simp) _⟩
    have h:=World.ownsRow_made (base:=w.heap.size+1) (e:=22) (size:=1) (w.alloc (.cells #[.slice a L.length c,.int .i64 fu,.bool dn] 30)) #[] 0 (by simp) (by decide) rfl
    rw [World.size_alloc] at h
    exact h
  case round =>
    obtain ⟨k,hk,rfl,hown,hbw⟩:=hrel
    have HO:=Lib.hid hown;have HW:=Lib.hid hbw;clear hown hbw
    have hc0:wr.cell? ⟨w.heap.size,0,none⟩=some (.slice a L.length c):=by rw [HW.out.cell (p:=⟨w.heap.size,0,none⟩) (by simp)];exact HC0.out
    have HWW:Hid (Below w.heap.size w wr):=HBX.out.trans (HW.out.mono (by omega))
    have HSZ:Hid (w.heap.size+1≤wr.heap.size):=by show _≤_;have:=HW.out.size;simp at this;omega
    by_cases hlt:k < L.length
    · obtain ⟨b,off,ha,hbl,e0,e1,e2,e3,e4⟩:=flF_elem (HR.out.below HWW.out) hlt
      subst ha
      have i1:(0:Int)≤(k:Int):=by omega
      have i2:(k:Int) < (L.length:Int):=by omega
      have HLE:=Lib.hid (numsF_le lo (L.take k))
      have hkt:(L.take k).length≤L.length:=by rw [List.length_take];omega
      have HKT:=Lib.hid hkt;clear hkt
      cases hp:pickF lo L[k]
      · have HN:=Lib.hid (numsF_no hlt hp)
        cases lo
        · have hth:L[k].there=false:=hp
          clear hp
          generalize L[k]=x at *
          rw [hth] at e1
          clear hth
          go_wp2_with fail
          go_roundw
          case rel=>exact ⟨k+1,by omega,by go_num,by rw [HN.out];exact HO.out,HW.out⟩
          case measure=>simp [intOf];omega
        · have HL:Hid (looseF L[k]=false):=hp
          clear hp
          generalize L[k]=x at *
          go_wp2_with fail
          refine (loose_is HL.out _).mono ?_;rintro e w4 ⟨rfl,hb4⟩
          have hc4:w4.cell? ⟨w.heap.size,0,none⟩=some (.slice (some ⟨b,off,none⟩) L.length c):=by rw [hb4.cell (p:=⟨w.heap.size,0,none⟩) (by show w.heap.size < _;have:=HSZ.out;omega)];exact hc0
          have HO4:=Lib.hid (own_below HO.out hb4);have HW4:Hid (RowKit.Below (w.heap.size+1) (w.alloc (.cells #[.slice (some ⟨b,off,none⟩) L.length c,.int .i64 fu,.bool dn] 30)) w4):=HW.out.trans (hb4.mono HSZ.out)
          clear hb4
          go_wp2_with fail
          go_roundw
          case rel=>exact ⟨k+1,by omega,by go_num,by rw [HN.out];exact HO4.out,HW4.out⟩
          case measure=>simp [intOf];omega
      · have HN:=Lib.hid (numsF_yes hlt hp)
        cases lo
        · have hth : L[k].there = true := hp
          clear hp
          generalize L[k]=x at *
          rw [hth] at e1
          clear hth
          go_wp2_with (refine wpList_append_rd _ rfl (.tmp 36) (.tmp 43) 70 rfl (w.heap.size + 1) 22 i0 _ 1 4 Tryz.underlying70 hi0 hz0 hz1 HZ2.out rfl (by omega) u5 (numsF _ (L.take k)).length _ rfl (HO.out.alloc _) _ _ 1 1 (u32V [x.n]) rfl rfl (lit_rd wr #[.int .u32 (x.n : Int)] _) (u32V_one _) (by have := HLE.out; have := HKT.out; unfold maxLen; omega) (by have := HLE.out; have := HKT.out; omega) (by have := HW.out.size; simp at this ⊢; omega) ?_
                       intro v8 w8 hown8 hg8 _
                       have hb8:=Below.of_grown (HW.out.alloc (by have:=HW.out.size;simp at this;omega) (.cells #[.int .u32 (x.n:Int)] 22)) hg8 (by have:=HW.out.size;simp at this ⊢;omega) (fun g h=>(own_shape HO.out h).1)
                       have HO8:=Lib.hid hown8;have HB8:=Lib.hid hb8;clear hown8 hg8 hb8)
          go_roundw
          case rel=>exact ⟨k+1,by omega,by go_num,by rw [HN.out,List.length_append,u32V_append];exact HO8.out,HB8.out⟩
          case measure=>simp [intOf];omega
        · have HL:Hid (looseF L[k]=true):=hp
          clear hp
          generalize L[k]=x at *
          go_wp2_with fail
          refine (loose_is HL.out _).mono ?_;rintro e w4 ⟨rfl,hb4⟩
          have hc4:w4.cell? ⟨w.heap.size,0,none⟩=some (.slice (some ⟨b,off,none⟩) L.length c):=by rw [hb4.cell (p:=⟨w.heap.size,0,none⟩) (by show w.heap.size < _;have:=HSZ.out;omega)];exact hc0
          have f0:w4.cell? ⟨b,off+k * 5,none⟩=some (.int .u32 (x.n:Int)):=by rw [hb4.cell (p:=⟨b,off+k * 5,none⟩) (by show b < _;have:=HSZ.out;omega)];exact e0
          have HO4:=Lib.hid (own_below HO.out hb4);have HW4:Hid (RowKit.Below (w.heap.size+1) (w.alloc (.cells #[.slice (some ⟨b,off,none⟩) L.length c,.int .i64 fu,.bool dn] 30)) w4):=HW.out.trans (hb4.mono HSZ.out)
          clear hb4
          go_wp2_with (refine wpList_append_rd _ rfl (.tmp 36) (.tmp 43) 70 rfl (w.heap.size + 1) 22 i0 _ 1 4 Tryz.underlying70 hi0 hz0 hz1 HZ2.out rfl (by omega) u5 (numsF _ (L.take k)).length _ rfl (HO4.out.alloc _) _ _ 1 1 (u32V [x.n]) rfl rfl (lit_rd w4 #[.int .u32 (x.n : Int)] _) (u32V_one _) (by have := HLE.out; have := HKT.out; unfold maxLen; omega) (by have := HLE.out; have := HKT.out; omega) (by have := HW4.out.size; simp at this ⊢; omega) ?_
                       intro v8 w8 hown8 hg8 _
                       have hb8:=Below.of_grown (HW4.out.alloc (by have:=HW4.out.size;simp at this;omega) (.cells #[.int .u32 (x.n:Int)] 22)) hg8 (by have:=HW4.out.size;simp at this ⊢;omega) (fun g h=>(own_shape HO4.out h).1)
                       have HO8:=Lib.hid hown8;have HB8:=Lib.hid hb8;clear hown8 hg8 hb8)
          go_roundw
          case rel=>exact ⟨k+1,by omega,by go_num,by rw [HN.out,List.length_append,u32V_append];exact HO8.out,HB8.out⟩
          case measure=>simp [intOf];omega
    · have:k=L.length:=by omega
      subst this
      rw [List.take_length] at HO
      go_wp2_with fail
      obtain ⟨a5,c5,rfl,h1,h2,_⟩:=own_slice HO.out
      go_ret
      exact ⟨a5,c5,rfl,h1,h2,Rd.own HO.out,fun b o s e=>(by have:=(own_shape (k:=b) HO.out (by rw [e];rfl)).1;omega),HWW.out⟩
end Go.Proofs.YtccbpngehedbaaaGreat

namespace Go.Proofs.YtccbpngehedbaaaGreat
open Go Go.RowKit

set_option maxRecDepth 20000
/-! The document's file system, as plain functions: files in a row that rises by their numbers. -/
def hasF (y:Fl):Bool:=y.there || y.kept
def stepF (x:Fl) (s:List Fl × Bool) (y:Fl):List Fl × Bool :=
  let s1:=if x.n < y.n∧s.2=false then (s.1 ++ [x],true) else s
  if y.n=x.n then s1 else (s1.1 ++ [y],s1.2)
def walkF (x:Fl) (L:List Fl):List Fl × Bool:=L.foldl (stepF x) ([],false)
theorem walkF_succ {x:Fl} {L:List Fl} {k:Nat} (h:k < L.length):walkF x (L.take (k+1))=stepF x (walkF x (L.take k)) L[k]:=by
  unfold walkF;rw [List.take_succ_eq_append_getElem h,List.foldl_append];rfl
theorem stepF_le (x:Fl) (s:List Fl × Bool) (y:Fl) (n:Nat) (h:s.1.length≤n+(if s.2=true then 1 else 0)):(stepF x s y).1.length≤n+1+(if (stepF x s y).2=true then 1 else 0):=by
  obtain ⟨l,b⟩:=s
  unfold stepF
  simp only at *
  by_cases h1:x.n < y.n∧b=false
  · obtain ⟨h1,rfl⟩:=h1
    simp only [h1,and_self,if_true]
    split
    · omega
    · simp at h ⊢;omega
  · rw [if_neg h1]
    split
    · simp only;split at h <;> simp_all <;> omega
    · simp only [List.length_append,List.length_cons,List.length_nil];omega
theorem walkF_le (x:Fl) (L:List Fl):∀ k,k≤L.length→(walkF x (L.take k)).1.length≤k+(if (walkF x (L.take k)).2=true then 1 else 0)
  | 0,_=>by simp [walkF]
  | k+1,h=>by
    rw [walkF_succ (by omega)]
    exact stepF_le x _ _ k (walkF_le x L k (by omega))
def insF (L:List Fl) (x:Fl):List Fl:=if (walkF x L).2=true then (walkF x L).1 else (walkF x L).1 ++ [x]
def putF (L:List Fl) (x:Fl):List Fl:=(insF L x).filter hasF
theorem insF_le (L:List Fl) (x:Fl):(insF L x).length≤L.length+1:=by
  have h:=walkF_le x L L.length (Nat.le_refl _)
  rw [List.take_length] at h
  unfold insF
  split
  · rename_i hb;rw [hb] at h;simpa using h
  · rename_i hb;rw [if_neg hb] at h;simp;omega
theorem putF_le (L:List Fl) (x:Fl):(putF L x).length≤L.length+1:=Nat.le_trans (List.length_filter_le _ _) (insF_le L x)
/-- Rising by their numbers. -/
def SdF (L:List Fl):Prop:=L.Pairwise fun x y=>x.n < y.n
theorem fold_laid (x:Fl):∀ (L:List Fl) (acc:List Fl),(∀ y ∈ L,y.n ≠ x.n)→L.foldl (stepF x) (acc,true)=(acc ++ L,true)
  | [],acc,_=>by simp
  | y :: r,acc,h=>by
    have hy:=h y (by simp)
    rw [List.foldl_cons]
    have e:stepF x (acc,true) y=(acc ++ [y],true):=by simp [stepF,hy]
    rw [e,fold_laid x r _ (fun z hz=>h z (by simp [hz])),List.append_assoc];rfl
theorem fold_sorted (x : Fl) : ∀ (L : List Fl) (acc : List Fl), SdF L →
    L.foldl (stepF x) (acc,false)=(acc ++ (L.filter fun y=>decide (y.n < x.n)) ++ (if (L.all fun y=>decide (y.n≤x.n))=true then [] else x :: (L.filter fun y=>decide (x.n < y.n))),!(L.all fun y=>decide (y.n≤x.n)))
  | [],acc,_=>by simp
  | y :: r,acc,h=>by
    obtain ⟨h1,h2⟩:=List.pairwise_cons.1 h
    rw [List.foldl_cons]
    by_cases hlt:x.n < y.n
    · have hgt:∀ z ∈ r,x.n < z.n:=fun z hz=>by have:=h1 z hz;omega
      have e:stepF x (acc,false) y=(acc ++ [x] ++ [y],true):=by
        have:¬ y.n=x.n:=by omega
        simp [stepF,hlt,this]
      rw [e,fold_laid x r _ (fun z hz=>by have:=hgt z hz;omega)]
      have f1:(r.filter fun y=>decide (y.n < x.n))=[]:=List.filter_eq_nil_iff.2 (fun z hz=>by have:=hgt z hz;simp;omega)
      have f2:(r.filter fun y=>decide (x.n < y.n))=r:=List.filter_eq_self.2 (fun z hz=>by have:=hgt z hz;simp;omega)
      have a1:decide (y.n≤x.n)=false:=by simp;omega
      have a2:decide (y.n < x.n)=false:=by simp;omega
      simp [f1,f2,a1,a2,hlt]
    · by_cases heq:y.n=x.n
      · have hgt:∀ z ∈ r,x.n < z.n:=fun z hz=>by have:=h1 z hz;omega
        have e:stepF x (acc,false) y=(acc,false):=by simp [stepF,heq]
        rw [e,fold_sorted x r acc h2]
        simp [heq]
      · have hl:y.n < x.n:=by omega
        have e:stepF x (acc,false) y=(acc ++ [y],false):=by simp [stepF,heq,hlt]
        rw [e,fold_sorted x r _ h2]
        have a1:decide (y.n≤x.n)=true:=by simp;omega
        simp [hl,a1,hlt]
theorem insF_sorted {L:List Fl} (h:SdF L) (x:Fl):insF L x=(L.filter fun y=>decide (y.n < x.n)) ++ x :: (L.filter fun y=>decide (x.n < y.n)):=by
  unfold insF walkF
  rw [fold_sorted x L [] h]
  by_cases ha:(L.all fun y=>decide (y.n≤x.n))=true
  · have f:(L.filter fun y=>decide (x.n < y.n))=[]:=List.filter_eq_nil_iff.2 (fun z hz=>by have:=List.all_eq_true.1 ha z hz;simp at this ⊢;omega)
    simp [ha,f]
  · simp only [Bool.not_eq_true] at ha
    simp [ha]
theorem mem_insF {L:List Fl} (h:SdF L) {x y:Fl}:y ∈ insF L x ↔ y=x∨(y ∈ L∧y.n ≠ x.n):=by
  rw [insF_sorted h]
  simp only [List.mem_append,List.mem_cons,List.mem_filter,decide_eq_true_eq]
  constructor
  · rintro (⟨a,b⟩ | rfl | ⟨a,b⟩)
    · exact .inr ⟨a,by omega⟩
    · exact .inl rfl
    · exact .inr ⟨a,by omega⟩
  · rintro (rfl | ⟨a,b⟩)
    · exact .inr (.inl rfl)
    · rcases Nat.lt_or_ge y.n x.n with h | h
      · exact .inl ⟨a,h⟩
      · exact .inr (.inr ⟨a,by omega⟩)
theorem insF_SdF {L:List Fl} (h:SdF L) (x:Fl):SdF (insF L x):=by
  rw [insF_sorted h]
  unfold SdF at *
  rw [List.pairwise_append]
  refine ⟨h.filter _,List.pairwise_cons.2 ⟨fun y hy=>by simpa using (List.mem_filter.1 hy).2,h.filter _⟩,fun a ha b hb=>?_⟩
  have h1:a.n < x.n:=by simpa using (List.mem_filter.1 ha).2
  rcases List.mem_cons.1 hb with rfl | hb
  · exact h1
  · have h2:x.n < b.n:=by simpa using (List.mem_filter.1 hb).2
    omega
theorem mem_putF {L:List Fl} (h:SdF L) {x y:Fl}:y ∈ putF L x ↔ hasF y=true∧(y=x∨(y ∈ L∧y.n ≠ x.n)):=by
  unfold putF;rw [List.mem_filter,mem_insF h];exact ⟨fun ⟨a,b⟩=>⟨b,a⟩,fun ⟨a,b⟩=>⟨b,a⟩⟩
theorem putF_SdF {L:List Fl} (h:SdF L) (x:Fl):SdF (putF L x):=List.Pairwise.filter _ (insF_SdF h x)
theorem getF_n (L:List Fl) (n:Nat):(getF L n).n=n:=by
  unfold getF
  cases h:L.find? fun x=>decide (x.n=n) with
  | none=>rfl
  | some x=>simpa using List.find?_some h
theorem SdF_one {L:List Fl} (h:SdF L) {x y:Fl} (hx:x ∈ L) (hy:y ∈ L) (e:x.n=y.n):x=y:=by
  induction L with
  | nil=>cases hx
  | cons z r ih =>
    obtain ⟨h1,h2⟩:=List.pairwise_cons.1 h
    rcases List.mem_cons.1 hx with e1 | hx' <;> rcases List.mem_cons.1 hy with e2 | hy'
    · rw [e1,e2]
    · have:=h1 y hy';rw [← e1] at this;omega
    · have:=h1 x hx';rw [← e2] at this;omega
    · exact ih h2 hx' hy'
theorem getF_mem {L:List Fl} (h:SdF L) {x:Fl} (hx:x ∈ L):getF L x.n=x:=by
  unfold getF
  cases hf:L.find? fun y=>decide (y.n=x.n) with
  | none=>have:=List.find?_eq_none.1 hf x hx;simp at this
  | some y=>exact SdF_one h (List.mem_of_find?_eq_some hf) hx (by simpa using List.find?_some hf)
theorem getF_or (L:List Fl) (n:Nat):(getF L n ∈ L)∨(getF L n=noF n∧∀ x ∈ L,x.n ≠ n):=by
  by_cases h:∃ x ∈ L,x.n=n
  · left
    unfold getF
    cases hf:L.find? fun y=>decide (y.n=n) with
    | none=>obtain ⟨x,hx,he⟩:=h;have:=List.find?_eq_none.1 hf x hx;simp [he] at this
    | some y=>exact List.mem_of_find?_eq_some hf
  · right
    have h':∀ x ∈ L,x.n ≠ n:=fun x hx e=>h ⟨x,hx,e⟩
    exact ⟨getF_none h',h'⟩
/-- What is told of a number behind a file was put. -/
theorem getF_put {L:List Fl} (h:SdF L) (hh:∀ y ∈ L,hasF y=true) (x:Fl) (n:Nat):getF (putF L x) n=if n=x.n then (if hasF x=true then x else noF n) else getF L n:=by
  have hs:=putF_SdF h x
  by_cases hn:n=x.n
  · rw [if_pos hn]
    subst hn
    by_cases hx:hasF x=true
    · rw [if_pos hx]
      exact getF_mem hs ((mem_putF h).2 ⟨hx,.inl rfl⟩)
    · rw [if_neg hx]
      refine getF_none fun y hy e=>?_
      obtain ⟨h1,h2 | ⟨_,h2⟩⟩:=(mem_putF h).1 hy
      · subst h2;exact hx h1
      · exact h2 e
  · rw [if_neg hn]
    rcases getF_or L n with hm | ⟨e,hno⟩
    · have hgn:=getF_n L n
      have:=getF_mem hs ((mem_putF h).2 ⟨hh _ hm,.inr ⟨hm,by omega⟩⟩)
      rw [hgn] at this
      exact this
    · rw [e]
      refine getF_none fun y hy he=>?_
      obtain ⟨_,h2 | ⟨h2,_⟩⟩:=(mem_putF h).1 hy
      · subst h2;exact hn he.symm
      · exact hno y h2 he
/-- What each file keeps: it is there or kept; of what isn't there there are no bytes. -/
def OkF (y:Fl):Prop:=hasF y=true∧(y.there=false→y.now=ByteArray.empty)∧(y.kept=false→y.safe=ByteArray.empty)
structure FSm where
  files:List Fl
  fuse:Int
  down:Bool
def FSm.Ok (m:FSm):Prop:=SdF m.files∧(∀ y ∈ m.files,OkF y)∧-1≤m.fuse∧m.fuse≤9223372036854775807
def newF:FSm:=⟨[],-1,false⟩
def actF (m:FSm) (x:Fl) (sync:Bool):FSm × Int :=
  if m.fuse=0 then (⟨if sync=true then m.files else putF m.files x,m.fuse,true⟩,7)
  else (⟨putF m.files x,if 0 < m.fuse then m.fuse - 1 else m.fuse,m.down⟩,0)
def createF (m:FSm) (n:Nat):FSm × Int :=
  if m.down=true then (m,7)
  else if (getF m.files n).there=true∨looseF (getF m.files n)=true then (m,9)
  else if 63 < (numsF false m.files).length then (m,6)
  else actF m ⟨n,true,false,ByteArray.empty,ByteArray.empty⟩ false
def appF (x:Fl) (b:ByteArray):Fl:={ x with now:=x.now ++ b }
def appendF (m:FSm) (n:Nat) (b:ByteArray):FSm × Int :=
  if m.down=true then (m,7)
  else if (getF m.files n).there=false then (m,5)
  else actF m (appF (getF m.files n) b) false
def cutF (x:Fl) (k:Nat):Fl:={ x with now:=x.now.extract 0 k }
def truncF (m:FSm) (n:Nat) (size:Int):FSm × Int :=
  if m.down=true then (m,7)
  else if (getF m.files n).there=false then (m,5)
  else if size < 0∨((getF m.files n).now.size:Int) < size then (m,4)
  else actF m (cutF (getF m.files n) size.toNat) false
def syncedF (x:Fl):Fl:={ x with kept:=x.there,safe:=if x.there=true then x.now else ByteArray.empty }
def syncF (m:FSm) (n:Nat):FSm × Int :=
  if m.down=true then (m,7)
  else if (getF m.files n).there=false∧looseF (getF m.files n)=false then (m,5)
  else actF m (syncedF (getF m.files n)) true
def goneF (x:Fl):Fl:={ x with there:=false,now:=ByteArray.empty }
def removeF (m:FSm) (n:Nat):FSm × Int :=
  if m.down=true then (m,7)
  else if (getF m.files n).there=false then (m,5)
  else actF m (goneF (getF m.files n)) false
def readF (m:FSm) (n:Nat):ByteArray × Int:=if (getF m.files n).there=true then ((getF m.files n).now,0) else (ByteArray.empty,5)
/-- Bytes, made one with some. -/
def xorL:List UInt8→List UInt8→List UInt8
  | x :: xs,y :: ys=>(x ^^^ y) :: xorL xs ys
  | xs,_=>xs
def partF (s:List UInt8) (base:Nat) (count:Int) (g:List UInt8):List UInt8 :=
  let l:=s.take (base+min (max count 0).toNat (s.length - base))
  l.take (max (l.length - 16) base) ++ xorL (l.drop (max (l.length - 16) base)) g
def commonF:List UInt8→List UInt8→Nat
  | x :: xs,y :: ys=>if x=y then commonF xs ys+1 else 0
  | _,_=>0
/-- A fate: with where its bytes lie. -/
structure Ft where
  keep:Bool
  bytes:Int
  ga:Option Addr
  gc:Nat
  g:List UInt8
def zeroT:Ft:=⟨false,0,none,0,[]⟩
def leftF (x:Fl) (t:Ft):Fl :=
  let r:Bool × ByteArray :=
    if x.kept=false then (t.keep,bs (partF x.now.data.toList 0 t.bytes t.g))
    else if x.there=false then (!t.keep,x.safe)
    else if commonF x.now.data.toList x.safe.data.toList < x.safe.size∧t.keep=false then (true,x.safe)
    else (true,bs (partF x.now.data.toList (commonF x.now.data.toList x.safe.data.toList) t.bytes t.g))
  let now:=if r.1=true then r.2 else ByteArray.empty
  ⟨x.n,r.1,r.1,now,now⟩
def crashTo (L:List Fl) (T:List Ft) (N:List Nat):Nat→List Fl
  | 0=>L
  | k+1=>putF (crashTo L T N k) (leftF (getF (crashTo L T N k) (N.getD k 0)) (T.getD k zeroT))
def crashF (m:FSm) (T:List Ft):FSm:=⟨crashTo m.files T (numsF true m.files) (numsF true m.files).length,-1,false⟩
end Go.Proofs.YtccbpngehedbaaaGreat

