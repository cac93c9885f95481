import Derived.Test.YtccbpngehedbaaaGreatJn
import Derived.Maps.RangeWalk
import Derived.Maps.Ext
import Derived.Laws.StructEq
import Derived.BigQuiet
import Derived.Test.YtccbpngehedbaaaGreatJa
namespace Go.Proofs.YtccbpngehedbaaaGreat
open Go Go.RowKit Go.Maps

/-! The landed file system: a map of files, read as the document's row. -/
def flC (x:Fl):Array Value:=#[.bool x.there,.string x.now,.bool x.kept,.string x.safe]
def flV (x:Fl):Value:=.agg #[.bool x.there,.string x.now,.bool x.kept,.string x.safe]
def fileR (v:Value):Option (DataW Value × List MemPlace) :=
  match v with
  | .agg cs=>(match cs.toList with
    | [.bool _,.string _,.bool _,.string _]=>some (.held v,[])
    | _=>none)
  | _=>none
theorem fileR_mk (x:Fl):fileR (flV x)=some (.held (flV x),[]):=rfl
theorem fileR_inv {v:Value} {y:DataW Value × List MemPlace} (h:fileR v=some y):∃ x:Fl,v=flV x∧y=(.held (flV x),[]):=by
  unfold fileR at h
  cases v with
  | agg cs =>
    simp only at h
    split at h
    · rename_i a b c d hcs
      obtain ⟨l⟩:=cs
      simp only at hcs
      subst hcs
      exact ⟨⟨0,a,c,b,d⟩,rfl,by cases h;rfl⟩
    · cases h
  | _=>cases h
def keyF (n:Nat):Lit:=.int .u32 (n:Int)
theorem keyF_inj {n k:Nat}:keyF n=keyF k ↔ n=k:=by simp only [keyF,Lit.int.injEq,true_and];omega
theorem keyF_is (n:Nat):WideAt.IsKeyLit (keyF n):=trivial
theorem keyF_same (n k:Nat):(keyF n).sameKey (keyF k)=decide (n=k):=by simp only [keyF,Lit.sameKey,true_and];congr 1;simp only [eq_iff_iff];omega
theorem keyF_of {n:Nat} (h:n < 4294967296):keyOf Tryz.prog 22 (.int .u32 (n:Int))=some (keyF n) :=
  keyOf_int_mk Tryz.underlying22 (by simp only [Lit.wf,show IntKind.u32.min=0 from rfl,show IntKind.u32.max=4294967295 from rfl,Bool.and_eq_true,decide_eq_true_eq];omega)
theorem lawF:Keyed Tryz.prog 22:=int_keyed Tryz.underlying22
def entF (x:Fl):Lit × DataW Value:=(keyF x.n,.held (flV x))
def dF (L:List Fl):DataW Value:=.map (L.map entF)
theorem has_dF (L:List Fl) (k:Lit):Maps.has (dF L) k=true ↔ ∃ x ∈ L,k=keyF x.n:=by
  unfold dF
  rw [has_eq,List.any_eq_true]
  constructor
  · rintro ⟨p,hp,hs⟩
    obtain ⟨x,hx,rfl⟩:=List.mem_map.1 hp
    exact ⟨x,hx,(WideAt.sameKey_eq hs).symm⟩
  · rintro ⟨x,hx,rfl⟩
    exact ⟨entF x,List.mem_map.2 ⟨x,hx,rfl⟩,WideAt.sameKey_self (keyF_is _)⟩
theorem at_dF {L : List Fl} (hs : SdF L) {x : Fl} (hx : x ∈ L) (z : DataW Value) : (dF L).atKey (keyF x.n) z = .held (flV x) := by
  have:(L.map entF).find? (fun p=>p.1.sameKey (keyF x.n))=some (entF x):=by
    rw [List.find?_map]
    have:L.find? ((fun p=>p.1.sameKey (keyF x.n)) ∘ entF)=some x:=by
      obtain ⟨s,t,rfl⟩:=List.append_of_mem hx
      rw [List.find?_append,List.find?_eq_none.2,List.find?_cons_of_pos]
      · rfl
      · simp [entF,keyF_same]
      · intro y hy
        have h:=(List.pairwise_append.1 hs).2.2 y hy x (by simp)
        simp only [Function.comp,entF,keyF_same,decide_eq_true_eq];omega
    rw [this];rfl
  unfold dF DataW.atKey
  simp only [this];rfl
theorem get_dF {L:List Fl} (hs:SdF L) (n:Nat):(dF L).atKey (keyF n) (.held (flV (noF n)))=.held (flV (getF L n)):=by
  rcases getF_or L n with h | ⟨h,hn⟩
  · have:=at_dF hs h (.held (flV (noF n)))
    rwa [getF_n] at this
  · rw [h]
    refine atKey_of_not_has ?_ _
    cases hh:Maps.has (dF L) (keyF n)
    · rfl
    · obtain ⟨x,hx,e⟩:=(has_dF L _).1 hh
      exact absurd (keyF_inj.1 e).symm (hn x hx)
theorem isMap_dF (L:List Fl):IsMap (dF L):=⟨_,rfl⟩
theorem size_dF (L:List Fl):Maps.size (dF L)=L.length:=by unfold dF;rw [size_eq,List.length_map]
theorem canon_dF {L:List Fl} (hs:SdF L):Canon (dF L):=by
  refine ⟨_,rfl,?_,?_⟩
  · rw [List.pairwise_map]
    exact hs.imp fun {a b} h=>by simp [entF,keyF,Lit.before];exact h
  · intro p hp
    obtain ⟨x,_,rfl⟩:=List.mem_map.1 hp
    exact keyF_is _
theorem dF_ext {D:DataW Value} (c:Canon D) {L:List Fl} (hs:SdF L) (hh:∀ k,Maps.has D k=true ↔ ∃ y ∈ L,k=keyF y.n) (ha:∀ y ∈ L,∀ z,D.atKey (keyF y.n) z=.held (flV y)):D=dF L:=by
  refine Maps.ext c (canon_dF hs) (fun k=>?_) fun k z hk=>?_
  · have h1:=hh k;have h2:=has_dF L k
    rw [Bool.eq_iff_iff,h1,h2]
  · obtain ⟨y,hy,rfl⟩:=(hh k).1 hk
    rw [ha y hy z,at_dF hs hy z]
theorem dF_put {L : List Fl} (hs : SdF L) {x : Fl} (hL : ∀ y ∈ L, hasF y = true) (hx : hasF x = true) (c : Canon ((dF L).put (keyF x.n) (.held (flV x)))) : (dF L).put (keyF x.n) (.held (flV x)) = dF (putF L x) := by
  refine dF_ext c (putF_SdF hs x) (fun k=>?_) fun y hy z=>?_
  · by_cases e:k=keyF x.n
    · subst e
      rw [has_put_same (isMap_dF L) (keyF_is _)]
      simp only [true_iff]
      exact ⟨x,(mem_putF hs).2 ⟨hx,.inl rfl⟩,rfl⟩
    · rw [has_put_other e,has_dF]
      constructor
      · rintro ⟨y,hy,rfl⟩
        exact ⟨y,(mem_putF hs).2 ⟨hL y hy,.inr ⟨hy,fun h=>e (keyF_inj.2 h)⟩⟩,rfl⟩
      · rintro ⟨y,hy,rfl⟩
        rcases ((mem_putF hs).1 hy).2 with rfl | ⟨h,_⟩
        · exact absurd rfl e
        · exact ⟨y,h,rfl⟩
  · rcases ((mem_putF hs).1 hy).2 with rfl | ⟨h,hn⟩
    · exact atKey_put_same (isMap_dF L) (keyF_is _) _ _
    · rw [atKey_put_other (fun e=>hn (keyF_inj.1 e)),at_dF hs h]
theorem dF_del {L : List Fl} (hs : SdF L) {x : Fl} (hL : ∀ y ∈ L, hasF y = true) (hx : hasF x = false) (c : Canon ((dF L).del (keyF x.n))) : (dF L).del (keyF x.n) = dF (putF L x) := by
  have key:∀ y,y ∈ putF L x ↔ y ∈ L∧y.n ≠ x.n:=fun y=>by
    rw [mem_putF hs]
    constructor
    · rintro ⟨h,rfl | h2⟩
      · rw [hx] at h;cases h
      · exact h2
    · rintro ⟨h1,h2⟩;exact ⟨hL y h1,.inr ⟨h1,h2⟩⟩
  refine dF_ext c (putF_SdF hs x) (fun k=>?_) fun y hy z=>?_
  · by_cases e:k=keyF x.n
    · subst e
      rw [has_del_same]
      simp only [Bool.false_eq_true,false_iff]
      rintro ⟨y,hy,e⟩
      exact ((key y).1 hy).2 (keyF_inj.1 e).symm
    · rw [has_del_other e,has_dF]
      constructor
      · rintro ⟨y,hy,rfl⟩
        exact ⟨y,(key y).2 ⟨hy,fun h=>e (keyF_inj.2 h)⟩,rfl⟩
      · rintro ⟨y,hy,rfl⟩
        exact ⟨y,((key y).1 hy).1,rfl⟩
  · obtain ⟨h,hn⟩:=(key y).1 hy
    rw [atKey_del_other (fun e=>hn (keyF_inj.1 e)),at_dF hs h]
/-- Two rows that rise, with the same files, are one. -/
theorem SdF_eq {L M:List Fl} (hl:SdF L) (hm:SdF M) (h:∀ y,y ∈ L ↔ y ∈ M):L=M:=by
  have nl:L.Nodup:=hl.imp fun {a b} h e=>by rw [e] at h;omega
  have nm:M.Nodup:=hm.imp fun {a b} h e=>by rw [e] at h;omega
  have hp:L.Perm M:=(List.perm_ext_iff_of_nodup nl nm).2 h
  exact List.Perm.eq_of_pairwise (le:=fun (a b:Fl)=>a.n < b.n) (fun a b _ _ h1 h2=>by omega) hl hm hp
theorem putF_same {L:List Fl} (hs:SdF L) (hL:∀ y ∈ L,hasF y=true) (n:Nat):putF L (getF L n)=L:=by
  refine SdF_eq (putF_SdF hs _) hs fun y=>?_
  rw [mem_putF hs,getF_n]
  constructor
  · rintro ⟨h,rfl | h2⟩
    · rcases getF_or L n with h3 | ⟨h3,_⟩
      · exact h3
      · rw [h3] at h;cases h
    · exact h2.1
  · intro h
    refine ⟨hL y h,?_⟩
    by_cases e:y.n=n
    · subst e;exact .inl (getF_mem hs h).symm
    · exact .inr ⟨h,e⟩
/-- The map's own block tells how many entries there are. -/
theorem owns_size {w:World} {b n:Nat} {D:DataW Value} (h:w.ownsMap Tryz.prog 22 fileR b n D):w.ownsMap Tryz.prog 22 fileR b (Maps.size D) D:=by
  obtain ⟨es,clock,hb,F,_,rfl⟩:=h
  exact ⟨es,clock,hb,F,by simp [Maps.size,length_sorted],rfl⟩
/-- A file system of the program's: block p, and its map's block. -/
def FsL (w:World) (S R:Nat→Prop) (p:Nat) (m:FSm):Prop :=
  ∃ b fu,b ≠ p∧(∀ k,S k ↔ k=p∨k=b)∧(∀ k,¬ R k)∧w.heap[p]?=some (.cells #[.map (some b),.int .i64 fu,.bool m.down] 76) ∧
    w.ownsMap Tryz.prog 22 fileR b m.files.length (dF m.files)∧-9223372036854775808≤fu∧fu≤9223372036854775807∧m.fuse=max fu (-1)∧m.Ok
theorem FsL.low {w:World} {S R:Nat→Prop} {p:Nat} {m:FSm} (h:FsL w S R p m):(∀ k,S k→k < w.heap.size)∧(∀ k,R k→k < w.heap.size):=by
  obtain ⟨b,fu,hne,hS,hR,hp,ho,_⟩:=h
  refine ⟨fun k hk=>?_,fun k hk=>absurd hk (hR k)⟩
  rcases (hS k).1 hk with rfl | rfl
  · exact (Array.getElem?_eq_some_iff.1 hp).1
  · exact ho.lt
theorem owns_move {w w':World} {b n:Nat} {D:DataW Value} (h:w.ownsMap Tryz.prog 22 fileR b n D) (hb:w'.heap[b]?=w.heap[b]?):w'.ownsMap Tryz.prog 22 fileR b n D:=by
  obtain ⟨es,clock,h1,r⟩:=h
  exact ⟨es,clock,hb.trans h1,r⟩
theorem FsL.move {w w':World} {S R:Nat→Prop} {p:Nat} {m:FSm} (h:FsL w S R p m) (hb:∀ k,S k∨R k→w'.heap[k]?=w.heap[k]?):FsL w' S R p m:=by
  obtain ⟨b,fu,hne,hS,hR,hp,ho,r⟩:=h
  exact ⟨b,fu,hne,hS,hR,(hb p (.inl ((hS p).2 (.inl rfl)))).trans hp,owns_move ho (hb b (.inl ((hS b).2 (.inr rfl)))),r⟩
theorem FsL.ok {w:World} {S R:Nat→Prop} {p:Nat} {m:FSm} (h:FsL w S R p m):m.Ok:=by
  obtain ⟨b,fu,hne,hS,hR,hp,ho,_,_,_,r⟩:=h;exact r
theorem FsL.below {w w':World} {S R:Nat→Prop} {p:Nat} {m:FSm} (h:FsL w S R p m) (hb:Below w.heap.size w w'):FsL w' S R p m :=
  h.move fun k hk=>hb.block k (hk.elim (h.low.1 k) (h.low.2 k))
end Go.Proofs.YtccbpngehedbaaaGreat

namespace Go.Proofs.YtccbpngehedbaaaGreat
open Go Go.RowKit Go.Maps

/-! The landed file system: comparisons, and what only looks. -/
theorem eqv_state (d:Nat) (t k:Bool) (n s:ByteArray) (w:World):(Op.equalIn (d+2) 80 (.agg #[.bool t,.string n]) (.agg #[.bool k,.string s])).run Tryz.prog w=.ok ((t == k) && (n.toList == s.toList)) w:=by
  have hS:Tryz.prog.underlying 80=some (.struct (Tryz.prog.fieldsOf 80)):=by kernel_rfl
  have hp:Tryz.prog.stoodInHeld 80=false:=by kernel_rfl
  have u4:=Tryz.underlying4
  have u9:=Tryz.underlying9
  have a4:=Tryz.isAgg4
  have a9:=Tryz.isAgg9
  have z4:=Tryz.sizeOf4
  have z9:=Tryz.sizeOf9
  rw [show d+2=(d+1)+1 from rfl,run_equalIn_agg w (d+1) 80 _ _ hS hp]
  simp only [Program.fieldsOf,Tryz.underlying80]
  by_cases h:n.toList=s.toList <;> cases t <;> cases k <;> go_simp <;> simp [h]
theorem neq_state (t k:Bool) (n s:ByteArray) (w:World):(binOp .neq 80 (.agg #[.bool t,.string n]) (.agg #[.bool k,.string s])).run Tryz.prog w=.ok (.bool (!((t == k) && (n.toList == s.toList)))) w:=by
  rw [run_neq_struct,show (10000:Nat)=9998+2 from rfl,eqv_state];rfl
theorem guard_state:Tryz.prog.eqGuardType Tryz.prog.depth 80=false:=by kernel_rfl
theorem guard_file:Tryz.prog.eqGuardType Tryz.prog.depth 82=false:=by kernel_rfl
theorem eql_file (t k:Bool) (n s:ByteArray) (w:World):(binOp .eql 82 (.agg #[.bool t,.string n,.bool k,.string s]) (.agg #[.bool false,.string ⟨#[]⟩,.bool false,.string ⟨#[]⟩])).run Tryz.prog w=.ok (.bool (((t == false) && (n.toList == [])) && ((k == false) && (s.toList == [])))) w:=by
  have hS:Tryz.prog.underlying 82=some (.struct (Tryz.prog.fieldsOf 82)):=by kernel_rfl
  have hp:Tryz.prog.stoodInHeld 82=false:=by kernel_rfl
  have hS2:Tryz.prog.underlying 80=some (.struct (Tryz.prog.fieldsOf 80)):=by kernel_rfl
  have hp2:Tryz.prog.stoodInHeld 80=false:=by kernel_rfl
  have a67:=Tryz.isAgg80
  have z67:=Tryz.sizeOf80
  rw [run_eql_struct,show (10000:Nat)=9999+1 from rfl,run_equalIn_agg w 9999 82 _ _ hS hp]
  have e1:=fun (t k:Bool) (n s:ByteArray) (w:World)=>eqv_state 9997 t k n s w
  simp only [show (9997+2:Nat)=9999 from rfl] at e1
  simp only [Program.fieldsOf,Tryz.underlying82]
  go_simp
  by_cases h1:n.toList=[] <;> by_cases h2:s.toList=[] <;> cases t <;> cases k <;> simp [h1,h2]
theorem toList_nil {b:ByteArray}:b.toList=[] ↔ b=ByteArray.empty:=by
  rw [ByteArray.toList_eq]
  obtain ⟨⟨l⟩⟩:=b
  constructor
  · intro h;simp at h;subst h;rfl
  · intro h;cases h;rfl
theorem toList_inj {a b:ByteArray}:a.toList=b.toList ↔ a=b:=by
  rw [ByteArray.toList_eq,ByteArray.toList_eq]
  obtain ⟨⟨l⟩⟩:=a
  obtain ⟨⟨m⟩⟩:=b
  simp
theorem loose_eq {x:Fl} (h:OkX x):looseF x = !((x.there == x.kept) && (x.now.toList == x.safe.toList)):=by
  obtain ⟨n,t,k,nw,sf⟩:=x
  obtain ⟨h1,h2⟩:=h
  simp only at h1 h2
  unfold looseF
  simp only
  cases t <;> cases k
  · rw [h1 rfl,h2 rfl];simp
  · rfl
  · rfl
  · by_cases e:nw=sf
    · simp [e]
    · have:¬ nw.toList=sf.toList:=fun h=>e (toList_inj.1 h)
      simp [e,this]
theorem zero_eq {x:Fl} (h:OkX x):(((x.there == false) && (x.now.toList == [])) && ((x.kept == false) && (x.safe.toList == []))) = !hasF x:=by
  obtain ⟨n,t,k,nw,sf⟩:=x
  obtain ⟨h1,h2⟩:=h
  simp only at h1 h2
  unfold hasF
  simp only
  cases t <;> cases k
  · rw [h1 rfl,h2 rfl,toList_nil.2 rfl];rfl
  all_goals simp
set_option maxHeartbeats 1000000 in
theorem isUnsafe_any (x:Fl) (hx:OkX x) (w:World):Calls Tryz.prog 30 #[flV x] w fun e w'=>e=.returned (.bool (looseF x))∧Below w.heap.size w w':=by
  have HL:=Lib.hid (loose_eq hx)
  have hq:=neq_state
  have hg:=guard_state
  obtain ⟨n,t,k,nw,sf⟩:=x
  unfold flV
  simp only at HL ⊢
  clear hx
  go_enter Tryz.func30,Tryz.ntmps30
  go_wp2
  go_ret
  exact ⟨ret_bool (by rw [HL.out];simp),box1 _ _⟩
set_option maxHeartbeats 1000000 in
theorem isThere_any (x:Fl) (w:World):Calls Tryz.prog 66 #[flV x] w fun e w'=>e=.returned (.bool x.there)∧Below w.heap.size w w':=by
  obtain ⟨n,t,k,nw,sf⟩:=x
  unfold flV
  simp only
  go_enter Tryz.func66,Tryz.ntmps66
  go_wp2
  go_ret
  exact ⟨rfl,box1 _ _⟩
end Go.Proofs.YtccbpngehedbaaaGreat

namespace Go.Proofs.YtccbpngehedbaaaGreat
open Go Go.RowKit Go.Maps Go.Sort

/-! The landed file system: a number's file is kept; New, Down, Fuse. -/
theorem Off.trans {S:Nat→Prop} {w w1 w2:World} (h1:Off S w w1) (h2:Off S w1 w2):Off S w w2 :=
  ⟨h2.os.trans h1.os,h2.tape.trans h1.tape,h2.output.trans h1.output,Nat.le_trans h1.size h2.size,fun k hk hn=>(h2.block k (Nat.lt_of_lt_of_le hk h1.size) hn).trans (h1.block k hk hn)⟩
theorem Off.of_grown {S:Nat→Prop} {w w':World} {b:Nat} (h:w.grownBy w' (some b)) (hb:S b):Off S w w' :=
  ⟨h.os,h.tape,h.output,h.size,fun k hk hn=>h.block k hk fun e=>hn (by cases e;exact hb)⟩
/-- What is written lies in new blocks: so it is off what was there. -/
theorem Off.new {S T:Nat→Prop} {w w1 w2:World} (h1:Off S w w1) (h2:Off T w1 w2) (ht:∀ k,T k→S k∨w.heap.size≤k):Off S w w2 :=
  ⟨h2.os.trans h1.os,h2.tape.trans h1.tape,h2.output.trans h1.output,Nat.le_trans h1.size h2.size,fun k hk hn=>(h2.block k (Nat.lt_of_lt_of_le hk h1.size) fun h=>by
    rcases ht k h with h | h
    · exact hn h
    · omega).trans (h1.block k hk hn)⟩
theorem Off.did {S R:Nat→Prop} {w w':World} (h:Off S w w'):Did S R S R w w':=⟨fun _ h=>.inl h,fun _ h=>.inl h,h⟩
theorem cells_cell {w:World} {p:Nat} {cs:Array Value} {e:TypeId} {i:Nat} {v:Value} (h:w.heap[p]?=some (.cells cs e)) (hi:cs[i]?=some v):w.cell? ⟨p,i,none⟩=some v:=by
  simp [World.cell?,h,hi]
theorem cells_frozen {w:World} {p:Nat} {cs:Array Value} {e:TypeId} (h:w.heap[p]?=some (.cells cs e)) (i:Nat):w.frozen? ⟨p,i,none⟩=false:=by
  simp [World.frozen?,h]
theorem put_ok {m:FSm} (ok:m.Ok) {x:Fl} (hx:OkX x):({ m with files:=putF m.files x }:FSm).Ok:=⟨putF_SdF ok.1 x,put_okf ok.1 ok.2.1 hx,ok.2.2.1,ok.2.2.2⟩
theorem has_all {m:FSm} (ok:m.Ok):∀ y ∈ m.files,hasF y=true:=fun y hy=>(ok.2.1 y hy).1
theorem put_off {w W w1:World} {S R:Nat→Prop} {p b:Nat} {m:FSm} {x:Fl} {fu:Int} (hb:Below w.heap.size w W) (hne:b ≠ p) (hS:∀ k,S k ↔ k=p∨k=b) (hR:∀ k,¬ R k)
    (hp:W.heap[p]?=some (.cells #[.map (some b),.int .i64 fu,.bool m.down] 76)) (h1:-9223372036854775808≤fu) (h2:fu≤9223372036854775807) (h3:m.fuse=max fu (-1)) (ok:m.Ok) (hx:OkX x)
    (hg:W.grownBy w1 (some b)) {n:Nat} (ho:w1.ownsMap Tryz.prog 22 fileR b n (dF (putF m.files x))):FsL w1 S R p { m with files:=putF m.files x }∧Off S w w1:=by
  refine ⟨⟨b,fu,hne,hS,hR,?_,?_,h1,h2,h3,put_ok ok hx⟩,(Off.of_below hb).trans (Off.of_grown hg ((hS b).2 (.inr rfl)))⟩
  · rw [hg.block p (Array.getElem?_eq_some_iff.1 hp).1 (fun e=>hne (by cases e;rfl))];exact hp
  · have:=owns_size ho
    rwa [size_dF] at this
set_option maxRecDepth 20000 in
set_option maxHeartbeats 4000000 in
theorem putK_any (w:World) (S R:Nat→Prop) (p:Nat) (m:FSm) (x:Fl) (hF:FsL w S R p m) (hx:OkX x) (hn:x.n < 4294967296) (hl:m.files.length≤1000000000) :
    Calls Tryz.prog 53 #[.pointer (some ⟨p,0,none⟩),.int .u32 (x.n:Int),flV x] w fun e w'=>e=.returned (.tuple #[])∧FsL w' S R p { m with files:=putF m.files x }∧Off S w w':=by
  have HZ:=Lib.hid (zero_eq hx)
  have HX:=Lib.hid hx;clear hx
  have hg:=guard_file
  have HK:=Lib.hid (keyF_of hn)
  have HRV:=Lib.hid (fileR_mk x)
  have hHX:hasF x=false∨hasF x=true:=by cases hasF x <;> simp
  have HHX:=Lib.hid hHX;clear hHX
  obtain ⟨n,t,k,nw,sf⟩:=x
  unfold flV at *
  simp only at HK hn ⊢
  have hbW:=box1 w (.cells #[.bool t,.string nw,.bool k,.string sf] 82)
  obtain ⟨b,fu,hne,hS,hR,hp,ho,h1,h2,h3,ok⟩:=hF.below hbW
  have HS:=Lib.hid hS;have HR:=Lib.hid hR;have HP:=Lib.hid hp;have HO:=Lib.hid ho;have HOK:=Lib.hid ok;have HB:=Lib.hid hbW;have H3:=Lib.hid h3
  have c0:=cells_cell hp (i:=0) rfl
  have hbl:b < (w.alloc (.cells #[.bool t,.string nw,.bool k,.string sf] 82)).heap.size:=ho.lt
  have HBL:=Lib.hid hbl
  clear hS hR hp ho ok hbW h3 hF hbl
  rcases HHX.out with hh | hh
  · have HH:=Lib.hid hh
    rw [hh] at HZ;clear hh
    have hq:∀ w,(binOp .eql 82 (.agg #[.bool t,.string nw,.bool k,.string sf]) (.agg #[.bool false,.string ⟨#[]⟩,.bool false,.string ⟨#[]⟩])).run Tryz.prog w=.ok (.bool true) w:=fun w=>by
      have hz:=HZ.out
      simp only at hz
      rw [eql_file,hz];rfl
    go_enter Tryz.func53,Tryz.ntmps53
    go_wp2_with (at_delete;refine wpList_delete_own _ rfl _ _ 74 22 rfl 82 lawF Tryz.underlying74 _ b _ _ rfl HO.out _ _ rfl HK.out ?_;intro w1 hown1 hturn1;have HO1:=Lib.hid hown1;have HT1:=Lib.hid hturn1;clear hown1 hturn1)
    refine bodyPost_ret (results_none rfl _ _ _) rfl ?_
    have hd:=dF_del HOK.out.1 (x:=⟨n,t,k,nw,sf⟩) (has_all HOK.out) HH.out (HO1.out.canon lawF)
    exact ⟨rfl,put_off HB.out hne HS.out HR.out HP.out h1 h2 H3.out HOK.out HX.out HT1.out.grown (hd ▸ HO1.out)⟩
  · have HH:=Lib.hid hh
    rw [hh] at HZ;clear hh
    have hq:∀ w,(binOp .eql 82 (.agg #[.bool t,.string nw,.bool k,.string sf]) (.agg #[.bool false,.string ⟨#[]⟩,.bool false,.string ⟨#[]⟩])).run Tryz.prog w=.ok (.bool false) w:=fun w=>by
      have hz:=HZ.out
      simp only at hz
      rw [eql_file,hz];rfl
    go_enter Tryz.func53,Tryz.ntmps53
    go_wp2_with fail
    have k0:=fun d os=>cell_regrown c0 d os
    obtain ⟨z0,z1,z2,z3⟩:(w.alloc (.cells #[.bool t,.string nw,.bool k,.string sf] 82)).cell? ⟨w.heap.size,0,none⟩=some (.bool t)∧(w.alloc (.cells #[.bool t,.string nw,.bool k,.string sf] 82)).cell? ⟨w.heap.size,1,none⟩=some (.string nw)∧(w.alloc (.cells #[.bool t,.string nw,.bool k,.string sf] 82)).cell? ⟨w.heap.size,2,none⟩=some (.bool k)∧(w.alloc (.cells #[.bool t,.string nw,.bool k,.string sf] 82)).cell? ⟨w.heap.size,3,none⟩=some (.string sf):=⟨by go_simp,by go_simp,by go_simp,by go_simp⟩
    have k1:=fun d os=>cell_regrown z0 d os
    have k2:=fun d os=>cell_regrown z1 d os
    have k3:=fun d os=>cell_regrown z2 d os
    have k4:=fun d os=>cell_regrown z3 d os
    clear z0 z1 z2 z3
    generalize (w.alloc (.cells #[.bool t,.string nw,.bool k,.string sf] 82))=W at *
    refine wp_region_below_tail 6 (by kernel_rfl) (by kernel_rfl) ?_
    simp only [List.take_succ_cons,List.take_zero,List.drop_succ_cons,List.drop_zero]
    iterate 6 (first | go_big_quiet_step (fail) | fail)
    refine wpQuiet_nil ?_
    intro W3 hw'
    obtain ⟨⟨d,os⟩,hw''⟩:=hw'
    have hb3:=below_regrown W d os
    rw [← hw''] at hb3
    clear hw'' k0 k1 k2 k3 k4
    have HO3:=Lib.hid (owns_move HO.out (hb3.block b HBL.out))
    have HB3:=Lib.hid hb3;clear hb3
    go_wp2_with (at_mapUpdate;refine wpList_mapUpdate_in _ rfl _ _ _ 74 rfl 22 82 lawF Tryz.underlying74 _ b _ _ rfl HO3.out (by unfold maxLen;omega) _ _ _ rfl rfl HK.out _ _ HRV.out ?_;intro w1 hown1 hturn1;have HO1:=Lib.hid hown1;have HT1:=Lib.hid hturn1;clear hown1 hturn1)
    go_end0
    have hd:=dF_put HOK.out.1 (x:=⟨n,t,k,nw,sf⟩) (has_all HOK.out) HH.out (HO1.out.canon lawF)
    have hp3:=HP.out
    rw [← HB3.out.block p (Array.getElem?_eq_some_iff.1 hp3).1] at hp3
    exact ⟨rfl,put_off (HB.out.trans (HB3.out.mono HB.out.size)) hne HS.out HR.out hp3 h1 h2 H3.out HOK.out HX.out HT1.out.grown (hd ▸ HO1.out)⟩
end Go.Proofs.YtccbpngehedbaaaGreat

namespace Go.Proofs.YtccbpngehedbaaaGreat
open Go Go.RowKit Go.Maps Go.Sort

/-! The landed file system: New, Down, Fuse, Read. -/
theorem zero_file (w:World):(zeroValue 82).run Tryz.prog w=.ok (flV (noF 0)) w:=by kernel_rfl
theorem look_any {w:World} {b k:Nat} {L:List Fl} (h:w.ownsMap Tryz.prog 22 fileR b k (dF L)) (hs:SdF L) {n:Nat} (hn:n < 4294967296) :
    (Instr.lookup 74 (.map (some b)) (.int .u32 (n:Int)) false).run Tryz.prog w=.ok (flV (getF L n)) w:=by
  obtain ⟨v,ps,hrun,hv⟩:=h.lookup lawF Tryz.underlying74 (zero_file w) (fileR_mk (noF 0)) (keyF_of hn)
  have e:=get_dF hs n
  obtain ⟨x,rfl,hx⟩:=fileR_inv hv
  have e2:(dF L).atKey (keyF n) (.held (flV (noF 0)))=.held (flV (getF L n)):=e
  rw [e2] at hx
  simp only [Prod.mk.injEq,DataW.held.injEq] at hx
  rw [hrun,hx.1]
set_option maxRecDepth 20000 in
set_option maxHeartbeats 1000000 in
theorem new_any (w:World):Calls Tryz.prog 7 #[] w fun e w'=>∃ p S R,e=.returned (.pointer (some ⟨p,0,none⟩))∧FsL w' S R p newF∧(∀ k,S k→w.heap.size≤k)∧(∀ k,R k→w.heap.size≤k)∧Below w.heap.size w w':=by
  have hmm:=@run_makeMap Tryz.prog
  have HO:=Lib.hid (World.ownsMap_made w Tryz.prog 22 fileR)
  go_enter Tryz.func7,Tryz.ntmps7
  go_wp2
  go_ret
  refine ⟨w.heap.size+1,fun k=>k=w.heap.size+1∨k=w.heap.size,fun _=>False,by simp,⟨w.heap.size,-1,by omega,fun k=>Iff.rfl,fun _ h=>h,?_,?_,by omega,by omega,by decide,new_ok⟩,fun k hk=>by omega,fun k hk=>hk.elim,((box1 w _).alloc (by simp) _)⟩
  · have e:(w.alloc (.map #[] 0)).heap.size=w.heap.size+1:=by simp
    rw [← e]
    exact (MapKept.heap_alloc _ _).1
  · exact (HO.out.alloc _)
set_option maxRecDepth 20000 in
set_option maxHeartbeats 1000000 in
theorem down_any (w:World) (S R:Nat→Prop) (p:Nat) (m:FSm) (hF:FsL w S R p m) :
    Calls Tryz.prog 20 #[.pointer (some ⟨p,0,none⟩)] w fun e w'=>e=.returned (.bool m.down)∧w'=w:=by
  obtain ⟨b,fu,hne,hS,hR,hp,ho,h1,h2,h3,ok⟩:=hF
  have c2:=cells_cell hp (i:=2) rfl
  clear hp ho h3 ok hS hR
  go_enter Tryz.func20,Tryz.ntmps20
  go_wp2
  go_ret
  exact ⟨rfl,rfl⟩
/-- A cell of the file system's own block is written. -/
theorem set_heap {w:World} {p:Nat} {cs:Array Value} {e:TypeId} (h:w.heap[p]?=some (.cells cs e)) (i:Nat) (v:Value):(w.setCell ⟨p,i,none⟩ v).heap[p]?=some (.cells (cs.setIfInBounds i v) e):=by
  simp [World.setCell,Array.getElem?_modify,h]
theorem set_other {w:World} {p k:Nat} (i:Nat) (v:Value) (h:k ≠ p):(w.setCell ⟨p,i,none⟩ v).heap[k]?=w.heap[k]?:=by
  simp [World.setCell,Array.getElem?_modify,Ne.symm h]
theorem set_off (S:Nat→Prop) (w:World) (p i:Nat) (v:Value) (h:S p):Off S w (w.setCell ⟨p,i,none⟩ v) :=
  ⟨rfl,rfl,rfl,by simp [World.setCell],fun k hk hn=>set_other i v (fun e=>hn (by rw [e];exact h))⟩
set_option maxRecDepth 20000 in
set_option maxHeartbeats 1000000 in
theorem fuse_any (w:World) (S R:Nat→Prop) (p:Nat) (m:FSm) (f:Int) (hF:FsL w S R p m) (h1:-9223372036854775808≤f) (h2:f≤9223372036854775807) :
    Calls Tryz.prog 17 #[.pointer (some ⟨p,0,none⟩),.int .i64 f] w fun e w'=>e=.returned (.tuple #[])∧FsL w' S R p { m with fuse:=max f (-1) }∧Off S w w':=by
  obtain ⟨b,fu,hne,hS,hR,hp,ho,_,_,h3,ok⟩:=hF
  have HS:=Lib.hid hS;have HR:=Lib.hid hR;have HP:=Lib.hid hp;have HO:=Lib.hid ho;have HOK:=Lib.hid ok
  have c1:=cells_cell hp (i:=1) rfl
  have f1:=cells_frozen hp 1
  clear hp ho h3 ok hS hR
  go_enter Tryz.func17,Tryz.ntmps17
  go_wp2
  go_end0
  have ok:=HOK.out
  exact ⟨rfl,⟨b,f,hne,HS.out,HR.out,set_heap HP.out 1 _,owns_move HO.out (set_other _ _ hne),h1,h2,rfl,ok.1,ok.2.1,by show -1≤max f (-1);omega,by show max f (-1)≤_;omega⟩,set_off S w p 1 _ ((HS.out p).2 (.inl rfl))⟩
theorem field_now (a b c d:Value) (w:World):(Instr.field 82 (.agg #[a,b,c,d]) 0).run Tryz.prog w=.ok (.agg #[a,b]) w:=by kernel_rfl
set_option maxRecDepth 20000 in
set_option maxHeartbeats 2000000 in
theorem readK_any (w:World) (S R:Nat→Prop) (p:Nat) (m:FSm) (n:Nat) (hF:FsL w S R p m) (hb:Bnd m) (hn:n < 4294967296) :
    Calls Tryz.prog 40 #[.pointer (some ⟨p,0,none⟩),.int .u32 (n:Int)] w fun e w'=>∃ a c,e=.returned (.tuple #[.slice a (readF m n).1.size c,.int .i64 (readF m n).2])∧(readF m n).1.size≤c∧c≤maxLen∧NewBytes w w' S R a (readF m n).1.data.toList∧Below w.heap.size w w':=by
  have HF:=Lib.hid hF;clear hF
  obtain ⟨b,fu,hne,hS,hR,hp,ho,_,_,h3,ok⟩:=HF.out
  have hlk:=look_any ho ok.1 hn
  have c0:=cells_cell hp (i:=0) rfl
  clear hp ho h3 ok hS hR
  obtain ⟨x,hx⟩:∃ x,x=getF m.files n:=⟨_,rfl⟩
  rw [← hx] at hlk
  have HX:=Lib.hid hx;clear hx
  have HRD:Hid (readF m n=if x.there=true then (x.now,0) else (ByteArray.empty,5)):=by show _=_;rw [HX.out];rfl
  rw [HRD.out]
  clear HRD
  obtain ⟨xn,t,k,nw,sf⟩:=x
  unfold flV at hlk
  simp only at hlk ⊢
  have hfn:=field_now
  cases t
  · go_enter Tryz.func40,Tryz.ntmps40
    go_wp2
    go_ret2
    refine ⟨none,0,rfl,?_⟩
    first
      | exact ⟨Nat.le_refl _,by decide,fun h=>absurd h (Nat.lt_irrefl 0),box1 _ _⟩
      | exact ⟨by decide,fun h=>absurd h (Nat.lt_irrefl 0),box1 _ _⟩
  · have kb:=fun (w:World) (S:ByteArray)=>run_bytes_of_string (P:=Tryz.prog) w 9 38 5 S Tryz.underlying9 Tryz.underlying38 Tryz.underlying5
    go_enter Tryz.func40,Tryz.ntmps40
    go_wp2
    go_ret2
    have hsz:=(get_sz hb.2 n).1
    rw [← HX.out] at hsz
    simp only at hsz
    obtain ⟨hra,hth⟩:=alloc_bytes (w.alloc (.cells #[.bool true,.string nw] 80)) nw (grownCap (w.alloc (.cells #[.bool true,.string nw] 80)) nw.size 0 5) ((bytesRow nw (grownCap (w.alloc (.cells #[.bool true,.string nw] 80)) nw.size 0 5)).size,(bytesRow nw (grownCap (w.alloc (.cells #[.bool true,.string nw] 80)) nw.size 0 5)).size+1) (by unfold bytesRow;simp)
    rw [World.size_alloc] at hra hth
    refine ⟨some ⟨w.heap.size+1,0,none⟩,_,rfl,grownCap_ge _ _ _ _,grownCap_le_maxLen _ _ _ _ (by unfold maxLen;show nw.size≤_;omega),fun _=>⟨w.heap.size+1,0,rfl,by omega,by simp,fun h=>?_,fun h=>?_,(World.rangeAt_drew _ _ _ _).2 hra,?_⟩,Below_drew ((box1 w _).alloc (by simp) _)⟩
    · have:=HF.out.low.1 _ h;omega
    · have:=HF.out.low.2 _ h;omega
    · rw [data_length];exact (World.there_drew _ _ _ _).2 hth
end Go.Proofs.YtccbpngehedbaaaGreat

