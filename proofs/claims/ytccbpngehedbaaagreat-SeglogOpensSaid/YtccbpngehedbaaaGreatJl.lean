import Derived.Test.YtccbpngehedbaaaGreatJk
import Derived.Deep.RegionHeld3
import Derived.Deep.AppendLies
namespace Go.Proofs.YtccbpngehedbaaaGreat
open Go Go.RowKit

/-- A new block. -/
def Fresh (w:World) (a':Option Addr):Prop:=∀ b o s,a'=some ⟨b,o,s⟩→w.heap.size≤b
def FsOut (w:World) (m:FSm) (e:Ending) (w':World):Prop :=
  ∃ a' c',e=.returned (fsv a' m.files.length c' m.fuse m.down)∧m.files.length≤c'∧c'≤maxLen∧Rd w' w'.heap.size a' (flF m.files)∧Fresh w a'∧Below w.heap.size w w'
def From (w:World) (a:Option Addr) (L:List Fl) (a':Option Addr) (L':List Fl):Prop:=(a'=a∧L'=L)∨Fresh w a'
def FsErr (w:World) (a:Option Addr) (L:List Fl) (r:FSm × Int) (e:Ending) (w':World):Prop :=
  ∃ a' c',e=.returned (.tuple #[fsv a' r.1.files.length c' r.1.fuse r.1.down,.int .i64 r.2])∧r.1.files.length≤c'∧c'≤maxLen∧Rd w' w'.heap.size a' (flF r.1.files)∧From w a L a' r.1.files∧Below w.heap.size w w'
theorem info_fl:(Tryz.prog.info? 86).map (fun i=>(i.zero,i.size,i.bytes))=some (some (noF 0).v,5,40):=by kernel_rfl
theorem FlAt.below {w w':World} {B b o:Nat} {x:Fl} (h:FlAt w b o x) (hb:RowKit.Below B w w') (hB:b < B):FlAt w' b o x:=by
  obtain ⟨h0,h1,h2,h3,h4⟩:=h
  exact ⟨by rw [hb.cell (p:=⟨b,o,none⟩) hB];exact h0,by rw [hb.cell (p:=⟨b,o+1,none⟩) hB];exact h1,by rw [hb.cell (p:=⟨b,o+2,none⟩) hB];exact h2,by rw [hb.cell (p:=⟨b,o+3,none⟩) hB];exact h3,by rw [hb.cell (p:=⟨b,o+4,none⟩) hB];exact h4⟩
theorem FlAt.new (w:World) (x:Fl) (t:TypeId) (n:Nat) (hn:n=w.heap.size):FlAt (w.alloc (.cells x.c t)) n 0 x:=by
  subst hn
  refine ⟨?_,?_,?_,?_,?_⟩ <;> simp [Fl.c]
theorem FlAt.alloc {w:World} {b o:Nat} {x:Fl} (h:FlAt w b o x) (ob:Obj):FlAt (w.alloc ob) b o x:=by
  obtain ⟨h0,h1,h2,h3,h4⟩:=h
  refine ⟨?_,?_,?_,?_,?_⟩ <;> (rw [World.cell?_alloc_lt _ _ _ (World.block_lt_of_cell? w _ (by assumption))];assumption)
theorem FlAt.grown {w w':World} {row:Option Nat} {b o:Nat} {x:Fl} (h:FlAt w b o x) (hg:w.grownBy w' row) (hb:b < w.heap.size) (hne:some b ≠ row):FlAt w' b o x:=by
  obtain ⟨h0,h1,h2,h3,h4⟩:=h
  refine ⟨?_,?_,?_,?_,?_⟩ <;> (rw [hg.cell_far _ hb hne];assumption)
theorem own_ne {w:World} {base:Nat} {e:TypeId} {size n b:Nat} {v:Value} {xs:List Value} (h:w.ownsRow base e size v n xs) (hb:w.heap.size≤b∨b < base):some b ≠ v.ownBlock:=fun e'=>by
  have:=own_shape h e'.symm;omega
/-- The second loop of put: what lies where. -/
structure Q2 (w wr:World) (B B2:Nat) (V:Value) (M:List Fl) (fu:Int) (dn:Bool) (k:Nat) (vv:Value):Prop where
  hk:k≤M.length
  c0:wr.cell? ⟨w.heap.size,0,none⟩=some vv
  c1:wr.cell? ⟨w.heap.size,1,none⟩=some (.int .i64 fu)
  c2:wr.cell? ⟨w.heap.size,2,none⟩=some (.bool dn)
  f0:wr.frozen? ⟨w.heap.size,0,none⟩=false
  rs:wr.there (w.heap.size+1+1) 0 3
  om:wr.ownsRow B 86 5 V M.length (flF M)
  ov:wr.ownsRow B2 86 5 vv ((M.take k).filter hasF).length (flF ((M.take k).filter hasF))
  bb:w.heap.size+3≤B
  vb:∀ g,V.ownBlock=some g→g < B2
  bs:B≤B2
  b2:B2≤wr.heap.size
  bw:RowKit.Below w.heap.size w wr
theorem own_far {w w':World} {row:Option Nat} {base size n:Nat} {e:TypeId} {v:Value} {xs:List Value} (h:w.ownsRow base e size v n xs) (hg:w.grownBy w' row) (hne:v.ownBlock=none∨v.ownBlock ≠ row):w'.ownsRow base e size v n xs:=h.kept hg hne
theorem own_set {w:World} {base size n b:Nat} {e:TypeId} {v u:Value} {xs:List Value} (h:w.ownsRow base e size v n xs) (hb:b < base) (o:Nat):(w.setCell ⟨b,o,none⟩ u).ownsRow base e size v n xs:=by
  refine ⟨h.1,h.2.imp id fun ⟨g,cap,cur,h1,h2,h3,h4⟩=>⟨g,cap,cur,h1,h2,?_,h4⟩⟩
  have:¬ b=g:=by omega
  simp [World.setCell,Array.getElem?_modify,this,h3]
theorem Q2.skip {w wr:World} {B B2:Nat} {V vv:Value} {M:List Fl} {fu:Int} {dn:Bool} {k:Nat} (h:Q2 w wr B B2 V M fu dn k vv) (hk:k < M.length) (hp:hasF M[k]=false):Q2 w wr B B2 V M fu dn (k+1) vv :=
  have e:(M.take (k+1)).filter hasF=(M.take k).filter hasF:=by rw [List.take_succ_eq_append_getElem hk,List.filter_append];simp [hp]
  { h with hk:=hk,ov:=by rw [e];exact h.ov }
theorem Q2.next {w wr w8:World} {B B2:Nat} {V vv v8:Value} {M:List Fl} {fu:Int} {dn:Bool} {k:Nat} (h:Q2 w wr B B2 V M fu dn k vv) (hk:k < M.length) (hp:hasF M[k]=true)
    (hg:wr.grownBy w8 vv.ownBlock) (ho:w8.ownsRow B2 86 5 v8 (((M.take k).filter hasF).length+1) (flF ((M.take k).filter hasF) ++ flF [M[k]])):Q2 w (w8.setCell ⟨w.heap.size,0,none⟩ v8) B B2 V M fu dn (k+1) v8:=by
  have hb2:=h.b2;have hbs:=h.bs;have hbb:=h.bb
  have hsz:wr.heap.size≤w8.heap.size:=hg.size
  have far:∀ b,b < B2→some b ≠ vv.ownBlock:=fun b hb=>own_ne h.ov (.inr hb)
  have e:(M.take (k+1)).filter hasF=(M.take k).filter hasF ++ [M[k]]:=by rw [List.take_succ_eq_append_getElem hk,List.filter_append];simp [hp]
  have c0':w8.cell? ⟨w.heap.size,0,none⟩=some vv:=by rw [hg.cell_far _ (by show w.heap.size < _;omega) (far w.heap.size (by omega))];exact h.c0
  refine { hk:=hk,c0:=World.cell?_setCell_same _ _ _ c0',c1:=?_,c2:=?_,f0:=?_,rs:=?_,om:=?_,ov:=?_,bb:=h.bb,vb:=h.vb,bs:=h.bs,b2:=?_,bw:=?_ }
  · rw [World.cell?_setCell_other _ _ _ _ (by simp),hg.cell_far _ (by show w.heap.size < _;omega) (far w.heap.size (by omega))];exact h.c1
  · rw [World.cell?_setCell_other _ _ _ _ (by simp),hg.cell_far _ (by show w.heap.size < _;omega) (far w.heap.size (by omega))];exact h.c2
  · rw [World.frozen?_setCell,hg.frozen_far _ (by show w.heap.size < _;omega) (far w.heap.size (by omega))];exact h.f0
  · intro j hj
    obtain ⟨r1,r2⟩:=h.rs j hj
    have e1:=hg.cell_far ⟨w.heap.size+1+1,0+j,none⟩ (by show w.heap.size+1+1 < _;omega) (far (w.heap.size+1+1) (by omega))
    have e2:=hg.frozen_far ⟨w.heap.size+1+1,0+j,none⟩ (by show w.heap.size+1+1 < _;omega) (far (w.heap.size+1+1) (by omega))
    exact ⟨by rw [World.cell?_setCell_other _ _ _ _ (by simp),e1];exact r1,by rw [World.frozen?_setCell,e2];exact r2⟩
  · refine own_set (own_far h.om hg ?_) (by omega) 0
    cases hv:V.ownBlock with
    | none=>exact .inl rfl
    | some g=>exact .inr (far g (h.vb g hv))
  · rw [e,List.length_append,flF_append];exact own_set ho (by omega) 0
  · rw [World.size_setCell];omega
  · exact (Below.of_grown h.bw hg (by omega) (fun g hgg=>by have:=(own_shape h.ov hgg).1;omega)).setCell (Nat.le_refl _) _
theorem Q2.alloc {w wr : World} {B B2 : Nat} {V vv : Value} {M : List Fl} {fu : Int} {dn : Bool} {k : Nat} (h : Q2 w wr B B2 V M fu dn k vv) (o : Obj) : Q2 w (wr.alloc o) B B2 V M fu dn k vv := by
  have hb2:=h.b2;have hbs:=h.bs;have hbb:=h.bb
  exact { h with c0 := by rw [World.cell?_alloc_lt _ _ _ (by show w.heap.size < _; omega)]; exact h.c0, c1 := by rw [World.cell?_alloc_lt _ _ _ (by show w.heap.size < _; omega)]; exact h.c1, c2 := by rw [World.cell?_alloc_lt _ _ _ (by show w.heap.size < _; omega)]; exact h.c2,
                 f0:=by rw [World.frozen?_alloc_past _ _ _ (by show w.heap.size < _;omega)];exact h.f0,rs:=World.there_alloc h.rs _,om:=h.om.alloc _,ov:=h.ov.alloc _,b2:=by simp;omega,bw:=h.bw.alloc (by omega) _ }
theorem Q2.drew {w wr:World} {B B2:Nat} {V vv:Value} {M:List Fl} {fu:Int} {dn:Bool} {k:Nat} (h:Q2 w wr B B2 V M fu dn k vv):Q2 w wr.drew B B2 V M fu dn k vv :=
  ⟨h.hk,h.c0,h.c1,h.c2,h.f0,h.rs,h.om,h.ov,h.bb,h.vb,h.bs,h.b2,Below_drew h.bw⟩
end Go.Proofs.YtccbpngehedbaaaGreat

namespace Go.Proofs.YtccbpngehedbaaaGreat
open Go Go.RowKit

theorem size_fs:(Tryz.prog.info? 30).map (·.size)=some 3:=by kernel_rfl
theorem load_fs (W:World) (b:Nat) (cs:Array Value) (ht:W.there b 0 cs.size) (hc:cs.size=3:=by rfl):(loadVar 30 ⟨b,0,none⟩).run Tryz.prog (W.setCells b 0 cs.toList)=.ok (.agg cs) (W.setCells b 0 cs.toList) :=
  run_loadVar_mid (P:=Tryz.prog) _ b 0 30 _ _ (World.rangeAt_setCells_same W b 0 cs.toList ht) Tryz.underlying30 rfl (by rw [size_fs];simp [hc])
theorem own_sets {base size n b:Nat} {e:TypeId} {v:Value} {xs:List Value}:∀ {w:World} (_:w.ownsRow base e size v n xs) (_:b < base) (us:List Value) (o:Nat),(w.setCells b o us).ownsRow base e size v n xs
  | _,h,_,[],_=>h
  | _,h,hb,_ :: us,o=>own_sets (own_set h hb o) hb us (o+1)
set_option maxRecDepth 20000 in
set_option maxHeartbeats 8000000 in
theorem put_fs (a : Option Addr) (c : Nat) (L : List Fl) (fu : Int) (dn : Bool) (x : Fl) (w : World) (hr : Rd w w.heap.size a (flF L)) (hl : L.length ≤ 1000000000) :
    Calls Tryz.prog 68 #[fsv a L.length c fu dn,x.v] w (FsOut w ⟨putF L x,fu,dn⟩):=by
  have HR:=Lib.hid hr;clear hr
  obtain ⟨i0,hi0,hz0,hz1,hz2⟩:=info_parts info_fl
  have HZ2:=Lib.hid hz2;clear hz2
  unfold fsv Fl.v
  go_enter Tryz.func68,Tryz.ntmps68
  go_wp2_with fail
  obtain ⟨W3,hW3⟩:∃ W3,W3=(((w.alloc (.cells #[.slice a L.length c,.int .i64 fu,.bool dn] 30)).alloc (.cells #[.int .u32 (x.n:Int),.bool x.there,.bool x.kept,.string x.now,.string x.safe] 86)).alloc (.cells #[.slice none 0 0,.int .i64 0,.bool false] 30)):=⟨_,rfl⟩
  rw [← hW3]
  have HS3:Hid (W3.heap.size=w.heap.size+3):=by show _=_;rw [hW3];simp
  have HB3:Hid (Below w.heap.size w W3):=by show Below _ _ _;rw [hW3];exact ((box1 w _).alloc (by simp) _).alloc (by simp;omega) _
  have HC0:Hid (W3.cell? ⟨w.heap.size,0,none⟩=some (.slice a L.length c)):=by show _=_;rw [hW3];go_simp
  have HC1:Hid (W3.cell? ⟨w.heap.size,1,none⟩=some (.int .i64 fu)):=by show _=_;rw [hW3];go_simp
  have HC2:Hid (W3.cell? ⟨w.heap.size,2,none⟩=some (.bool dn)):=by show _=_;rw [hW3];go_simp
  have HFZ:Hid (W3.there w.heap.size 0 3):=by
    show W3.there _ _ _;rw [hW3]
    exact World.there_alloc (World.there_alloc (there_last w #[.slice a L.length c,.int .i64 fu,.bool dn] 30 _ 3 rfl rfl) _) _
  have HRES:Hid (W3.there (w.heap.size+1+1) 0 3):=by
    show W3.there _ _ _;rw [hW3]
    exact there_last _ #[.slice none 0 0,.int .i64 0,.bool false] 30 _ 3 rfl (by simp)
  have HX3:Hid (FlAt W3 (w.heap.size+1) 0 x):=by
    show FlAt _ _ _ _;rw [hW3]
    exact (FlAt.new _ x 86 _ (by simp)).alloc _
  have HR3:Hid (Rd W3 w.heap.size a (flF L)):=HR.out.below HB3.out
  have hs3:W3.heap.size=w.heap.size+1+1+1:=HS3.out
  rw [← hs3]
  obtain ⟨B,hB⟩:∃ B,B=W3.heap.size:=⟨_,rfl⟩
  rw [← hB]
  have HBS:Hid (B=W3.heap.size):=hB
  have HBW:Hid (B=w.heap.size+3):=by show _=_;rw [hB];exact HS3.out
  clear hW3 hs3 hB
  go_loopw [5,6,7] (fun v ld i wr=>∃ (k:Nat) (acc:List Fl) (l:Bool),k≤L.length∧i=.int .i64 k∧ld=.bool l∧walkF x (L.take k)=(acc,l)∧wr.ownsRow B 86 5 v acc.length (flF acc)∧RowKit.Below B W3 wr) (fun _ _ i _=>L.length - (intOf i).toNat)
  case atStart =>
    refine ⟨0,[],false,Nat.zero_le _,rfl,rfl,rfl,?_,by rw [HBS.out];exact (Below.refl _ _).alloc (Nat.le_refl _) _⟩
    have h:=World.ownsRow_made (base:=B) (e:=86) (size:=5) W3 #[] 0 (by rw [HBS.out];exact Nat.le_refl _) (by decide) rfl
    rw [← HBS.out] at h
    exact h
  case round =>
    obtain ⟨k,acc,l,hk,rfl,rfl,hwk,hown,hbw⟩:=hrel
    have hal:acc.length≤k+1:=by
      have h:=walkF_le x L k hk
      rw [hwk] at h;simp only at h;split at h <;> omega
    have HO:=Lib.hid hown;have HW:=Lib.hid hbw;have HAL:=Lib.hid hal;have HWK:=Lib.hid hwk;clear hown hbw hal hwk
    have HSZ:Hid (B≤wr.heap.size):=by show _≤_;have:=HW.out.size;rw [← HBS.out] at this;exact this
    have hc0:wr.cell? ⟨w.heap.size,0,none⟩=some (.slice a L.length c):=by rw [HW.out.cell (p:=⟨w.heap.size,0,none⟩) (by show w.heap.size < B;rw [HBW.out];omega)];exact HC0.out
    have HXR:Hid (FlAt wr (w.heap.size+1) 0 x):=HX3.out.below HW.out (by rw [HBW.out];omega)
    have n0:w.heap.size < wr.heap.size:=by have:=HSZ.out;have:=HBW.out;omega
    have n1:w.heap.size+1 < wr.heap.size:=by have:=HSZ.out;have:=HBW.out;omega
    by_cases hlt:k < L.length
    · obtain ⟨b, off, ha, hbl, e0, e1, e2, e3, e4⟩ := flF_elem (HR3.out.below ((HW.out.mono (by rw [HBW.out]; omega)))) hlt
      subst ha
      have i1:(0:Int)≤(k:Int):=by omega
      have i2:(k:Int) < (L.length:Int):=by omega
      have HT:Hid (walkF x (L.take (k+1))=stepF x (acc,l) L[k]):=by show _=_;rw [walkF_succ hlt,HWK.out]
      generalize L[k]=y at *
      obtain ⟨d0,d1,d2,d3,d4⟩:=HXR.out
      have HY:Hid (FlAt (wr.alloc (.cells y.c 86)) wr.heap.size 0 y):=FlAt.new _ _ _ _ rfl
      by_cases hn:y.n=x.n
      · have hgn:¬ x.n < y.n:=by omega
        have hgt:decide (x.n < y.n)=false:=decide_eq_false hgn
        have hne:((y.n:Int) != (x.n:Int))=false:=by simp [hn]
        have HST:Hid (stepF x (acc,l) y=(acc,l)):=by
          show _=_
          have:¬ x.n < y.n:=by omega
          simp [stepF,hn]
        clear hn
        go_wp2_with fail
        go_roundw
        case rel=>exact ⟨k+1,acc,l,by omega,by go_num,rfl,by rw [HT.out,HST.out],HO.out.alloc _,HW.out.alloc HSZ.out _⟩
        case measure=>simp [intOf];omega
      · have hne : ((y.n : Int) != (x.n : Int)) = true := by simp; omega
        by_cases hlt':x.n < y.n
        · have hgt:decide (x.n < y.n)=true:=decide_eq_true hlt'
          cases l
          · have HST : Hid (stepF x (acc, false) y = (acc ++ [x] ++ [y], true)) := by
              show _=_
              simp [stepF,hn,hlt']
            clear hn
            go_wp2_with (first
              | (at_builtin; (refine wpList_append_rd _ rfl (.tmp 32) (.tmp 34) 28 (by rfl) B 86 i0 _ 5 40 Tryz.underlying28 hi0 hz0 hz1 HZ2.out rfl (by omega) u5 acc.length _ (by rfl) ((HO.out.alloc _).alloc _) _ _ 1 1 (flF [x]) (by rfl) rfl (lit_at (wr.alloc (.cells y.c 86)) x.c _ _ (by simp)) (flF_one _) (by have := HAL.out; unfold maxLen; omega) (by have := HAL.out; omega) (by have := HSZ.out; simp; omega) ?_)
                 intro v8 w8 hown8 hg8 _
                 have hb8:=Below.of_grown ((HW.out.alloc HSZ.out (.cells y.c 86)).alloc (by have:=HSZ.out;simp;omega) (.cells x.c 86)) hg8 (by have:=HSZ.out;simp;omega) (fun g h=>(own_shape HO.out h).1)
                 have hy8:=(HY.out.alloc (.cells x.c 86)).grown hg8 (by simp;omega) (own_ne HO.out (.inl (Nat.le_refl _)))
                 have hx8:=FlAt.below HX3.out hb8 (by rw [HBW.out];omega)
                 have HO8:=Lib.hid hown8;have HB8:=Lib.hid hb8;clear hown8 hg8 hb8
                 obtain ⟨f0,f1,f2,f3,f4⟩:=hy8
                 obtain ⟨g0,g1,g2,g3,g4⟩:=hx8)
              | (refine wpList_append_rd _ rfl (.tmp 41) (.tmp 43) 28 (by rfl) B 86 i0 _ 5 40 Tryz.underlying28 hi0 hz0 hz1 HZ2.out rfl (by omega) v8 (acc.length + 1) _ (by rfl) (HO8.out.alloc _) _ _ 1 1 (flF [y]) (by rfl) rfl (lit_at w8 y.c _ _ (by simp)) (flF_one _) (by have := HAL.out; unfold maxLen; omega) (by have := HAL.out; omega) (by have := HB8.out.size; rw [← HBS.out] at this; simp; omega) ?_
                 intro v9 w9 hown9 hg9 _
                 have hb9:=Below.of_grown (HB8.out.alloc (by have:=HB8.out.size;rw [← HBS.out] at this;exact this) (.cells y.c 86)) hg9 (by have:=HB8.out.size;rw [← HBS.out] at this;simp;omega) (fun g h=>(own_shape HO8.out h).1)
                 have HO9:=Lib.hid hown9;have HB9:=Lib.hid hb9;clear hown9 hg9 hb9))
            go_roundw
            case rel=>exact ⟨k+1,acc ++ [x] ++ [y],true,by omega,by go_num,rfl,by rw [HT.out,HST.out],by rw [flF_append,flF_append,List.length_append,List.length_append];exact HO9.out,HB9.out⟩
            case measure=>simp [intOf];omega
          · have HST:Hid (stepF x (acc,true) y=(acc ++ [y],true)):=by
              show _=_
              simp [stepF,hn]
            clear hn
            go_wp2_with (at_builtin; refine wpList_append_rd _ rfl (.tmp 41) (.tmp 43) 28 (by rfl) B 86 i0 _ 5 40 Tryz.underlying28 hi0 hz0 hz1 HZ2.out rfl (by omega) u5 acc.length _ (by rfl) ((HO.out.alloc _).alloc _) _ _ 1 1 (flF [y]) (by rfl) rfl (lit_at (wr.alloc (.cells y.c 86)) y.c _ _ (by simp)) (flF_one _) (by have := HAL.out; unfold maxLen; omega) (by have := HAL.out; omega) (by have := HSZ.out; simp; omega) ?_
                         intro v9 w9 hown9 hg9 _
                         have hb9:=Below.of_grown ((HW.out.alloc HSZ.out (.cells y.c 86)).alloc (by have:=HSZ.out;simp;omega) (.cells y.c 86)) hg9 (by have:=HSZ.out;simp;omega) (fun g h=>(own_shape HO.out h).1)
                         have HO9:=Lib.hid hown9;have HB9:=Lib.hid hb9;clear hown9 hg9 hb9)
            go_roundw
            case rel=>exact ⟨k+1,acc ++ [y],true,by omega,by go_num,rfl,by rw [HT.out,HST.out],by rw [flF_append,List.length_append];exact HO9.out,HB9.out⟩
            case measure=>simp [intOf];omega
        · have hgt:decide (x.n < y.n)=false:=decide_eq_false hlt'
          have HST:Hid (stepF x (acc,l) y=(acc ++ [y],l)):=by
            show _=_
            simp [stepF,hn,hlt']
          clear hn
          go_wp2_with (at_builtin; refine wpList_append_rd _ rfl (.tmp 41) (.tmp 43) 28 (by rfl) B 86 i0 _ 5 40 Tryz.underlying28 hi0 hz0 hz1 HZ2.out rfl (by omega) u5 acc.length _ (by rfl) ((HO.out.alloc _).alloc _) _ _ 1 1 (flF [y]) (by rfl) rfl (lit_at (wr.alloc (.cells y.c 86)) y.c _ _ (by simp)) (flF_one _) (by have := HAL.out; unfold maxLen; omega) (by have := HAL.out; omega) (by have := HSZ.out; simp; omega) ?_
                       intro v9 w9 hown9 hg9 _
                       have hb9:=Below.of_grown ((HW.out.alloc HSZ.out (.cells y.c 86)).alloc (by have:=HSZ.out;simp;omega) (.cells y.c 86)) hg9 (by have:=HSZ.out;simp;omega) (fun g h=>(own_shape HO.out h).1)
                       have HO9:=Lib.hid hown9;have HB9:=Lib.hid hb9;clear hown9 hg9 hb9)
          go_roundw
          case rel=>exact ⟨k+1,acc ++ [y],l,by omega,by go_num,rfl,by rw [HT.out,HST.out],by rw [flF_append,List.length_append];exact HO9.out,HB9.out⟩
          case measure=>simp [intOf];omega
    · have:k=L.length:=by omega
      subst this
      obtain ⟨d0,d1,d2,d3,d4⟩:=HXR.out
      have HWX:Hid (walkF x L=(acc,l)):=by show _=_;have h:=HWK.out;rwa [List.take_length] at h
      cases l
      · have HM : Hid (insF L x = acc ++ [x]) := by show _ = _; unfold insF; rw [HWX.out]; rfl
        go_wp2_with (at_builtin; refine wpList_append_rd _ rfl (.tmp 47) (.tmp 49) 28 (by rfl) B 86 i0 _ 5 40 Tryz.underlying28 hi0 hz0 hz1 HZ2.out rfl (by omega) u5 acc.length _ (by rfl) (HO.out.alloc _) _ _ 1 1 (flF [x]) (by rfl) rfl (lit_at wr x.c _ _ (by simp)) (flF_one _) (by have := HAL.out; unfold maxLen; omega) (by have := HAL.out; omega) (by have := HSZ.out; simp; omega) ?_
                     intro v9 w9 hown9 hg9 _
                     have hb9:=Below.of_grown (HW.out.alloc HSZ.out (.cells x.c 86)) hg9 (by have:=HSZ.out;simp;omega) (fun g h=>(own_shape HO.out h).1)
                     have HO9:=Lib.hid hown9;have HB9:=Lib.hid hb9;clear hown9 hg9 hb9
                     have HSW:Hid (B≤w9.heap.size):=by show _≤_;have:=HB9.out.size;rw [← HBS.out] at this;exact this
                     have HBR:Hid (Below B W3 w9):=HB9.out
                     have hcW:w9.cell? ⟨w.heap.size,0,none⟩=some (.slice a L.length c):=by rw [HB9.out.cell (p:=⟨w.heap.size,0,none⟩) (by show w.heap.size < B;rw [HBW.out];omega)];exact HC0.out
                     have hfW:w9.frozen? ⟨w.heap.size,0,none⟩=false:=by rw [HB9.out.frozen (p:=⟨w.heap.size,0,none⟩) (by show w.heap.size < B;rw [HBW.out];omega)];exact (HFZ.out 0 (by omega)).2
                     have n9:w.heap.size < w9.heap.size:=by have:=HSW.out;have:=HBW.out;omega)
        have HOM:Hid (w9.ownsRow B 86 5 v9 (insF L x).length (flF (insF L x))):=by show World.ownsRow _ _ _ _ _ _ _;rw [HM.out,List.length_append,flF_append];exact HO9.out
        obtain ⟨B2,hB2⟩:∃ B2,B2=w9.heap.size:=⟨_,rfl⟩
        rw [← hB2]
        obtain ⟨a2,c2,rfl,hac1,hac2,_⟩:=own_slice HOM.out
        obtain ⟨M,hM⟩:∃ M,M=insF L x:=⟨_,rfl⟩
        rw [← hM]
        rw [← hM] at HOM hac1
        have hml:M.length≤L.length+1:=by rw [hM];exact insF_le L x
        have HQ0:Hid (Q2 w ((w9.setCell ⟨w.heap.size,0,none⟩ (.slice (some ⟨B2,0,none⟩) 0 0)).alloc (.cells #[] 86)) B B2 (.slice a2 M.length c2) M fu dn 0 (.slice (some ⟨B2,0,none⟩) 0 0)):=by
          show Q2 _ _ _ _ _ _ _ _ _ _
          rw [← World.setCell_alloc_past _ _ _ _ (by have:=HSW.out;have:=HBW.out;show w.heap.size < _;omega)]
          have hsz:=HSW.out
          have hbb:=HBW.out
          refine { hk:=Nat.zero_le _,c0:=World.cell?_setCell_same _ _ _ (u:=.slice a L.length c) (by rw [World.cell?_alloc_lt _ _ _ (by show w.heap.size < _;omega)];exact hcW),c1:=?_,c2:=?_,f0:=?_,rs:=?_,om:=?_,ov:=?_,bb:=by omega,vb:=?_,bs:=by omega,b2:=?_,bw:=?_ }
          · rw [World.cell?_setCell_other _ _ _ _ (by simp),World.cell?_alloc_lt _ _ _ (by show w.heap.size < _;omega),HBR.out.cell (p:=⟨w.heap.size,1,none⟩) (by show w.heap.size < _;omega)];exact HC1.out
          · rw [World.cell?_setCell_other _ _ _ _ (by simp),World.cell?_alloc_lt _ _ _ (by show w.heap.size < _;omega),HBR.out.cell (p:=⟨w.heap.size,2,none⟩) (by show w.heap.size < _;omega)];exact HC2.out
          · rw [World.frozen?_setCell,World.frozen?_alloc_past _ _ _ (by show w.heap.size < _;omega)];exact hfW
          · intro j hj
            obtain ⟨r1,r2⟩:=World.there_alloc (there_below HRES.out HBR.out (by omega)) (.cells #[] 86) j hj
            exact ⟨by rw [World.cell?_setCell_other _ _ _ _ (by simp)];exact r1,by rw [World.frozen?_setCell];exact r2⟩
          · exact own_set (HOM.out.alloc _) (by omega) 0
          · have h:=World.ownsRow_made (base:=B2) (e:=86) (size:=5) w9 #[] 0 (by omega) (by decide) rfl
            rw [← hB2] at h
            exact own_set h (by omega) 0
          · intro g hg;have:=(own_shape HOM.out hg).2.1;omega
          · simp;omega
          · exact ((HB3.out.trans (HBR.out.mono (by omega))).alloc (by omega) _).setCell (Nat.le_refl _) _
        have HMM:=Lib.hid hM
        clear hM hB2 hcW hfW
        go_loopw [9] (fun i wr=>∃ (k:Nat) (vv:Value),i=.int .i64 k∧Q2 w wr B B2 (.slice a2 M.length c2) M fu dn k vv) (fun i _=>M.length - (intOf i).toNat)
        case atStart=>exact ⟨0,_,rfl,HQ0.out⟩
        case round =>
          obtain ⟨k,vv,rfl,hq⟩:=hrel
          have HQ:=Lib.hid hq
          have hk2:=hq.hk
          have hc0:=hq.c0
          have hf0:=hq.f0
          have HB2:=Lib.hid hq.b2
          clear hq
          have m0:w.heap.size < wr.heap.size:=by have:=HBW.out;have:=HSW.out;have:=HB2.out;have:=HQ.out.bs;omega
          by_cases hlt:k < M.length
          · obtain ⟨g2, o2, ha2, hbl2, e0, e1, e2, e3, e4⟩ := flF_elem (Rd.own HQ.out.om) hlt
            subst ha2
            have i1:(0:Int)≤(k:Int):=by omega
            have i2:(k:Int) < (M.length:Int):=by omega
            obtain ⟨y,hy⟩:∃ y,y=M[k]:=⟨_,rfl⟩
            rw [← hy] at e0 e1 e2 e3 e4
            obtain ⟨yn,yt,yk,yw,ys⟩:=y
            simp only at e0 e1 e2 e3 e4
            have HYK:=Lib.hid hy
            clear hy
            cases yt
            · cases yk
              · have HS:=Lib.hid (HQ.out.skip hlt (by rw [← HYK.out];rfl))
                go_wp2_with fail
                go_roundw
                case rel=>exact ⟨k+1,vv,by go_num,HS.out⟩
                case measure=>simp [intOf];omega
              · skip
                have HP:Hid (hasF M[k]=true):=by show _=_;rw [← HYK.out];rfl
                have hle:((M.take k).filter hasF).length≤L.length+1:=Nat.le_trans (List.length_filter_le _ _) (by rw [List.length_take];omega)
                have HLE:=Lib.hid hle;clear hle
                have hg2B:g2 < B2:=HQ.out.vb g2 rfl
                have hwB:w.heap.size < B2:=by have:=HQ.out.bb;have:=HQ.out.bs;omega
                go_wp2_with fail
                go_region_law
                  ((refine step_append_lies _ (by rfl) (.tmp 72) (.tmp 77) 28 (by rfl) B2 86 i0 _ 5 40 Tryz.underlying28 hi0 hz0 hz1 HZ2.out rfl (by omega) vv ((M.take k).filter hasF).length _ (by rfl) (Q2.alloc (Q2.drew HQ.out) _).ov ⟨wr.heap.size,0,none⟩ 1 1 (flF [⟨yn,false,true,yw,ys⟩]) (by rfl) rfl (lit_cells wr.drew #[.int .u32 (yn:Int),.bool false,.bool true,.string yw,.string ys] _) (flF_one _) (by omega) (by have:=HLE.out;unfold maxLen;omega) (by have:=HLE.out;omega) (by have:=HB2.out;simp;omega) (wr.heap.size+1) (by simp) ?_
                    intro g8 c8 w8 hown8 hg8 _ _
                    have c8':=(hg8.cell_far ⟨w.heap.size,0,none⟩ (by have:=HB2.out;show w.heap.size < (wr.drew.alloc _).heap.size;simp;omega) (own_ne HQ.out.ov (.inr hwB))).trans (Q2.alloc (Q2.drew HQ.out) _).c0
                    have f8':=(hg8.frozen_far ⟨w.heap.size,0,none⟩ (by have:=HB2.out;show w.heap.size < (wr.drew.alloc _).heap.size;simp;omega) (own_ne HQ.out.ov (.inr hwB))).trans (Q2.alloc (Q2.drew HQ.out) _).f0))
                all_goals
                  go_wp2_with fail
                  go_roundw
                  case rel=>exact ⟨k+1,_,by go_num,(Q2.alloc (Q2.drew HQ.out) _).next hlt HP.out hg8 (by rw [← HYK.out];exact hown8)⟩
                  case measure=>simp [intOf];omega
            · skip
              have HP:Hid (hasF M[k]=true):=by show _=_;rw [← HYK.out];rfl
              have hle:((M.take k).filter hasF).length≤L.length+1:=Nat.le_trans (List.length_filter_le _ _) (by rw [List.length_take];omega)
              have HLE:=Lib.hid hle;clear hle
              have hg2B:g2 < B2:=HQ.out.vb g2 rfl
              have hwB:w.heap.size < B2:=by have:=HQ.out.bb;have:=HQ.out.bs;omega
              go_wp2_with fail
              go_region_law
                ((refine step_append_lies _ (by rfl) (.tmp 72) (.tmp 77) 28 (by rfl) B2 86 i0 _ 5 40 Tryz.underlying28 hi0 hz0 hz1 HZ2.out rfl (by omega) vv ((M.take k).filter hasF).length _ (by rfl) (Q2.alloc (Q2.drew HQ.out) _).ov ⟨wr.heap.size,0,none⟩ 1 1 (flF [⟨yn,true,yk,yw,ys⟩]) (by rfl) rfl (lit_cells wr.drew #[.int .u32 (yn:Int),.bool true,.bool yk,.string yw,.string ys] _) (flF_one _) (by omega) (by have:=HLE.out;unfold maxLen;omega) (by have:=HLE.out;omega) (by have:=HB2.out;simp;omega) (wr.heap.size+1) (by simp) ?_
                  intro g8 c8 w8 hown8 hg8 _ _
                  have c8':=(hg8.cell_far ⟨w.heap.size,0,none⟩ (by have:=HB2.out;show w.heap.size < (wr.drew.alloc _).heap.size;simp;omega) (own_ne HQ.out.ov (.inr hwB))).trans (Q2.alloc (Q2.drew HQ.out) _).c0
                  have f8':=(hg8.frozen_far ⟨w.heap.size,0,none⟩ (by have:=HB2.out;show w.heap.size < (wr.drew.alloc _).heap.size;simp;omega) (own_ne HQ.out.ov (.inr hwB))).trans (Q2.alloc (Q2.drew HQ.out) _).f0))
              all_goals
                go_wp2_with fail
                go_roundw
                case rel=>exact ⟨k+1,_,by go_num,(Q2.alloc (Q2.drew HQ.out) _).next hlt HP.out hg8 (by rw [← HYK.out];exact hown8)⟩
                case measure=>simp [intOf];omega
          · have:k=M.length:=by omega
            subst this
            have HV:Hid (wr.ownsRow B2 86 5 vv (putF L x).length (flF (putF L x))):=by
              show World.ownsRow _ _ _ _ _ _ _
              have h:=HQ.out.ov
              rw [List.take_length,HMM.out] at h
              exact h
            obtain ⟨a3,c3,rfl,h3a,h3b,_⟩:=own_slice HV.out
            have H3a:=Lib.hid h3a;have H3b:=Lib.hid h3b;clear h3a h3b
            have hc1:=HQ.out.c1
            have hc2:=HQ.out.c2
            have hw2:w.heap.size+2 < B2:=by have:=HQ.out.bb;have:=HQ.out.bs;omega
            go_wp2_with (refine wpList_store_mid rfl 30 (.tmp 4) (.tmp 80) rfl (w.heap.size + 1 + 1) 0 #[.slice a3 (putF L x).length c3, .int .i64 fu, .bool dn] ?hx ?hy ?ht ?hi ?h1 ?h
                         case hx=>rfl
                         case hy=>rfl
                         case ht=>exact HQ.out.rs
                         case hi=>exact size_fs
                         case h1=>simp [Value.oneCell'])
            refine bodyPost_ret (v:=fsv a3 (putF L x).length c3 fu dn) (results_cell (p:=4) (ty:=30) (b:=w.heap.size+1+1) rfl rfl (load_fs _ _ _ HQ.out.rs)) rfl ?_
            exact ⟨a3,c3,rfl,H3a.out,H3b.out,Rd.own (own_sets HV.out (by omega) _ 0),(fun b o s e=>by have:=(own_shape (k:=b) HV.out (by rw [e];rfl)).1;omega),Below_setCells (by omega) _ 0 _ HQ.out.bw⟩
      · have HM : Hid (insF L x = acc) := by show _ = _; unfold insF; rw [HWX.out]; rfl
        have HOM:Hid (wr.ownsRow B 86 5 u5 (insF L x).length (flF (insF L x))):=by show World.ownsRow _ _ _ _ _ _ _;rw [HM.out];exact HO.out
        have HSW:Hid (B≤wr.heap.size):=by show _≤_;have:=HW.out.size;rw [← HBS.out] at this;exact this
        have HBR:Hid (Below B W3 wr):=HW.out
        have hcW:wr.cell? ⟨w.heap.size,0,none⟩=some (.slice a L.length c):=by rw [HW.out.cell (p:=⟨w.heap.size,0,none⟩) (by show w.heap.size < B;rw [HBW.out];omega)];exact HC0.out
        have hfW:wr.frozen? ⟨w.heap.size,0,none⟩=false:=by rw [HW.out.frozen (p:=⟨w.heap.size,0,none⟩) (by show w.heap.size < B;rw [HBW.out];omega)];exact (HFZ.out 0 (by omega)).2
        go_wp2_with fail
        obtain ⟨B2,hB2⟩:∃ B2,B2=wr.heap.size:=⟨_,rfl⟩
        rw [← hB2]
        obtain ⟨a2,c2,rfl,hac1,hac2,_⟩:=own_slice HOM.out
        obtain ⟨M,hM⟩:∃ M,M=insF L x:=⟨_,rfl⟩
        rw [← hM]
        rw [← hM] at HOM hac1
        have hml:M.length≤L.length+1:=by rw [hM];exact insF_le L x
        have HQ0:Hid (Q2 w ((wr.setCell ⟨w.heap.size,0,none⟩ (.slice (some ⟨B2,0,none⟩) 0 0)).alloc (.cells #[] 86)) B B2 (.slice a2 M.length c2) M fu dn 0 (.slice (some ⟨B2,0,none⟩) 0 0)):=by
          show Q2 _ _ _ _ _ _ _ _ _ _
          rw [← World.setCell_alloc_past _ _ _ _ (by have:=HSW.out;have:=HBW.out;show w.heap.size < _;omega)]
          have hsz:=HSW.out
          have hbb:=HBW.out
          refine { hk:=Nat.zero_le _,c0:=World.cell?_setCell_same _ _ _ (u:=.slice a L.length c) (by rw [World.cell?_alloc_lt _ _ _ (by show w.heap.size < _;omega)];exact hcW),c1:=?_,c2:=?_,f0:=?_,rs:=?_,om:=?_,ov:=?_,bb:=by omega,vb:=?_,bs:=by omega,b2:=?_,bw:=?_ }
          · rw [World.cell?_setCell_other _ _ _ _ (by simp),World.cell?_alloc_lt _ _ _ (by show w.heap.size < _;omega),HBR.out.cell (p:=⟨w.heap.size,1,none⟩) (by show w.heap.size < _;omega)];exact HC1.out
          · rw [World.cell?_setCell_other _ _ _ _ (by simp),World.cell?_alloc_lt _ _ _ (by show w.heap.size < _;omega),HBR.out.cell (p:=⟨w.heap.size,2,none⟩) (by show w.heap.size < _;omega)];exact HC2.out
          · rw [World.frozen?_setCell,World.frozen?_alloc_past _ _ _ (by show w.heap.size < _;omega)];exact hfW
          · intro j hj
            obtain ⟨r1,r2⟩:=World.there_alloc (there_below HRES.out HBR.out (by omega)) (.cells #[] 86) j hj
            exact ⟨by rw [World.cell?_setCell_other _ _ _ _ (by simp)];exact r1,by rw [World.frozen?_setCell];exact r2⟩
          · exact own_set (HOM.out.alloc _) (by omega) 0
          · have h:=World.ownsRow_made (base:=B2) (e:=86) (size:=5) wr #[] 0 (by omega) (by decide) rfl
            rw [← hB2] at h
            exact own_set h (by omega) 0
          · intro g hg;have:=(own_shape HOM.out hg).2.1;omega
          · simp;omega
          · exact ((HB3.out.trans (HBR.out.mono (by omega))).alloc (by omega) _).setCell (Nat.le_refl _) _
        have HMM:=Lib.hid hM
        clear hM hB2 hcW hfW
        go_loopw [9] (fun i wr=>∃ (k:Nat) (vv:Value),i=.int .i64 k∧Q2 w wr B B2 (.slice a2 M.length c2) M fu dn k vv) (fun i _=>M.length - (intOf i).toNat)
        case atStart=>exact ⟨0,_,rfl,HQ0.out⟩
        case round =>
          obtain ⟨k,vv,rfl,hq⟩:=hrel
          have HQ:=Lib.hid hq
          have hk2:=hq.hk
          have hc0:=hq.c0
          have hf0:=hq.f0
          have HB2:=Lib.hid hq.b2
          clear hq
          have m0:w.heap.size < wr.heap.size:=by have:=HBW.out;have:=HSW.out;have:=HB2.out;have:=HQ.out.bs;omega
          by_cases hlt:k < M.length
          · obtain ⟨g2, o2, ha2, hbl2, e0, e1, e2, e3, e4⟩ := flF_elem (Rd.own HQ.out.om) hlt
            subst ha2
            have i1:(0:Int)≤(k:Int):=by omega
            have i2:(k:Int) < (M.length:Int):=by omega
            obtain ⟨y,hy⟩:∃ y,y=M[k]:=⟨_,rfl⟩
            rw [← hy] at e0 e1 e2 e3 e4
            obtain ⟨yn,yt,yk,yw,ys⟩:=y
            simp only at e0 e1 e2 e3 e4
            have HYK:=Lib.hid hy
            clear hy
            cases yt
            · cases yk
              · have HS:=Lib.hid (HQ.out.skip hlt (by rw [← HYK.out];rfl))
                go_wp2_with fail
                go_roundw
                case rel=>exact ⟨k+1,vv,by go_num,HS.out⟩
                case measure=>simp [intOf];omega
              · skip
                have HP:Hid (hasF M[k]=true):=by show _=_;rw [← HYK.out];rfl
                have hle:((M.take k).filter hasF).length≤L.length+1:=Nat.le_trans (List.length_filter_le _ _) (by rw [List.length_take];omega)
                have HLE:=Lib.hid hle;clear hle
                have hg2B:g2 < B2:=HQ.out.vb g2 rfl
                have hwB:w.heap.size < B2:=by have:=HQ.out.bb;have:=HQ.out.bs;omega
                go_wp2_with fail
                go_region_law
                  ((refine step_append_lies _ (by rfl) (.tmp 72) (.tmp 77) 28 (by rfl) B2 86 i0 _ 5 40 Tryz.underlying28 hi0 hz0 hz1 HZ2.out rfl (by omega) vv ((M.take k).filter hasF).length _ (by rfl) (Q2.alloc (Q2.drew HQ.out) _).ov ⟨wr.heap.size,0,none⟩ 1 1 (flF [⟨yn,false,true,yw,ys⟩]) (by rfl) rfl (lit_cells wr.drew #[.int .u32 (yn:Int),.bool false,.bool true,.string yw,.string ys] _) (flF_one _) (by omega) (by have:=HLE.out;unfold maxLen;omega) (by have:=HLE.out;omega) (by have:=HB2.out;simp;omega) (wr.heap.size+1) (by simp) ?_
                    intro g8 c8 w8 hown8 hg8 _ _
                    have c8':=(hg8.cell_far ⟨w.heap.size,0,none⟩ (by have:=HB2.out;show w.heap.size < (wr.drew.alloc _).heap.size;simp;omega) (own_ne HQ.out.ov (.inr hwB))).trans (Q2.alloc (Q2.drew HQ.out) _).c0
                    have f8':=(hg8.frozen_far ⟨w.heap.size,0,none⟩ (by have:=HB2.out;show w.heap.size < (wr.drew.alloc _).heap.size;simp;omega) (own_ne HQ.out.ov (.inr hwB))).trans (Q2.alloc (Q2.drew HQ.out) _).f0))
                all_goals
                  go_wp2_with fail
                  go_roundw
                  case rel=>exact ⟨k+1,_,by go_num,(Q2.alloc (Q2.drew HQ.out) _).next hlt HP.out hg8 (by rw [← HYK.out];exact hown8)⟩
                  case measure=>simp [intOf];omega
            · skip
              have HP:Hid (hasF M[k]=true):=by show _=_;rw [← HYK.out];rfl
              have hle:((M.take k).filter hasF).length≤L.length+1:=Nat.le_trans (List.length_filter_le _ _) (by rw [List.length_take];omega)
              have HLE:=Lib.hid hle;clear hle
              have hg2B:g2 < B2:=HQ.out.vb g2 rfl
              have hwB:w.heap.size < B2:=by have:=HQ.out.bb;have:=HQ.out.bs;omega
              go_wp2_with fail
              go_region_law
                ((refine step_append_lies _ (by rfl) (.tmp 72) (.tmp 77) 28 (by rfl) B2 86 i0 _ 5 40 Tryz.underlying28 hi0 hz0 hz1 HZ2.out rfl (by omega) vv ((M.take k).filter hasF).length _ (by rfl) (Q2.alloc (Q2.drew HQ.out) _).ov ⟨wr.heap.size,0,none⟩ 1 1 (flF [⟨yn,true,yk,yw,ys⟩]) (by rfl) rfl (lit_cells wr.drew #[.int .u32 (yn:Int),.bool true,.bool yk,.string yw,.string ys] _) (flF_one _) (by omega) (by have:=HLE.out;unfold maxLen;omega) (by have:=HLE.out;omega) (by have:=HB2.out;simp;omega) (wr.heap.size+1) (by simp) ?_
                  intro g8 c8 w8 hown8 hg8 _ _
                  have c8':=(hg8.cell_far ⟨w.heap.size,0,none⟩ (by have:=HB2.out;show w.heap.size < (wr.drew.alloc _).heap.size;simp;omega) (own_ne HQ.out.ov (.inr hwB))).trans (Q2.alloc (Q2.drew HQ.out) _).c0
                  have f8':=(hg8.frozen_far ⟨w.heap.size,0,none⟩ (by have:=HB2.out;show w.heap.size < (wr.drew.alloc _).heap.size;simp;omega) (own_ne HQ.out.ov (.inr hwB))).trans (Q2.alloc (Q2.drew HQ.out) _).f0))
              all_goals
                go_wp2_with fail
                go_roundw
                case rel=>exact ⟨k+1,_,by go_num,(Q2.alloc (Q2.drew HQ.out) _).next hlt HP.out hg8 (by rw [← HYK.out];exact hown8)⟩
                case measure=>simp [intOf];omega
          · have:k=M.length:=by omega
            subst this
            have HV:Hid (wr.ownsRow B2 86 5 vv (putF L x).length (flF (putF L x))):=by
              show World.ownsRow _ _ _ _ _ _ _
              have h:=HQ.out.ov
              rw [List.take_length,HMM.out] at h
              exact h
            obtain ⟨a3,c3,rfl,h3a,h3b,_⟩:=own_slice HV.out
            have H3a:=Lib.hid h3a;have H3b:=Lib.hid h3b;clear h3a h3b
            have hc1:=HQ.out.c1
            have hc2:=HQ.out.c2
            have hw2:w.heap.size+2 < B2:=by have:=HQ.out.bb;have:=HQ.out.bs;omega
            go_wp2_with (refine wpList_store_mid rfl 30 (.tmp 4) (.tmp 80) rfl (w.heap.size + 1 + 1) 0 #[.slice a3 (putF L x).length c3, .int .i64 fu, .bool dn] ?hx ?hy ?ht ?hi ?h1 ?h
                         case hx=>rfl
                         case hy=>rfl
                         case ht=>exact HQ.out.rs
                         case hi=>exact size_fs
                         case h1=>simp [Value.oneCell'])
            refine bodyPost_ret (v:=fsv a3 (putF L x).length c3 fu dn) (results_cell (p:=4) (ty:=30) (b:=w.heap.size+1+1) rfl rfl (load_fs _ _ _ HQ.out.rs)) rfl ?_
            exact ⟨a3,c3,rfl,H3a.out,H3b.out,Rd.own (own_sets HV.out (by omega) _ 0),(fun b o s e=>by have:=(own_shape (k:=b) HV.out (by rw [e];rfl)).1;omega),Below_setCells (by omega) _ 0 _ HQ.out.bw⟩
end Go.Proofs.YtccbpngehedbaaaGreat

namespace Go.Proofs.YtccbpngehedbaaaGreat
open Go Go.RowKit

theorem there3 {w:World} {b:Nat} (h:w.there b 0 3):∃ u0 u1 u2,w.cell? ⟨b,0,none⟩=some u0∧w.cell? ⟨b,1,none⟩=some u1∧w.cell? ⟨b,2,none⟩=some u2∧w.frozen? ⟨b,0,none⟩=false∧w.frozen? ⟨b,1,none⟩=false∧w.frozen? ⟨b,2,none⟩=false:=by
  obtain ⟨a0,b0⟩:=h 0 (by omega)
  obtain ⟨a1,b1⟩:=h 1 (by omega)
  obtain ⟨a2,b2⟩:=h 2 (by omega)
  obtain ⟨u0,e0⟩:=Option.isSome_iff_exists.1 a0
  obtain ⟨u1,e1⟩:=Option.isSome_iff_exists.1 a1
  obtain ⟨u2,e2⟩:=Option.isSome_iff_exists.1 a2
  simp only [Nat.zero_add] at *
  exact ⟨u0,u1,u2,e0,e1,e2,b0,b1,b2⟩
theorem size_setCells' (b:Nat):∀ (vs:List Value) (o:Nat) (w:World),(w.setCells b o vs).heap.size=w.heap.size
  | [],_,_=>rfl
  | v :: r,o,w=>by rw [World.setCells,size_setCells' b r (o+1)];simp
theorem Rd_sets {w:World} {B b:Nat} {a:Option Addr} {cs:List Value} (h:Rd w B a cs) (us:List Value) (o:Nat) (hb:∀ g o s,a=some ⟨g,o,s⟩→g ≠ b):Rd (w.setCells b o us) B a cs:=fun h0=>by
  obtain ⟨g,off,ha,hg,hc⟩:=h h0
  refine ⟨g,off,ha,hg,fun j u hu=>?_⟩
  rw [World.cell?_setCells_out b us o w ⟨g,off+j,none⟩ (fun hb' _=>absurd hb' (hb g off none ha))]
  exact hc j u hu
set_option maxRecDepth 20000 in
set_option maxHeartbeats 4000000 in
theorem act_fs (a : Option Addr) (c : Nat) (m : FSm) (x : Fl) (sync : Bool) (w : World) (hr : Rd w w.heap.size a (flF m.files)) (hl : m.files.length ≤ 1000000000) (hlc : m.files.length ≤ c) (hc : c ≤ maxLen) (hf1 : -9223372036854775808 ≤ m.fuse) (hf2 : m.fuse ≤ 9223372036854775807) :
    Calls Tryz.prog 36 #[fsv a m.files.length c m.fuse m.down,x.v,.bool sync] w (FsErr w a m.files (actF m x sync)):=by
  have HR:=Lib.hid hr;have HC:=Lib.hid hc;clear hr hc
  obtain ⟨L,fu,dn⟩:=m
  simp only at *
  unfold fsv Fl.v
  go_enter Tryz.func36,Tryz.ntmps36
  by_cases h0:fu=0
  · subst h0
    have HACT:Hid (actF ⟨L,0,dn⟩ x sync=(⟨if sync=true then L else putF L x,0,true⟩,7)):=by show _=_;simp [actF]
    cases sync
    · go_wp2_with fail
      obtain ⟨W3,hW3⟩:∃ W3,W3=(((w.alloc (.cells #[.slice a L.length c,.int .i64 0,.bool dn] 30)).alloc (.cells #[.int .u32 (x.n:Int),.bool x.there,.bool x.kept,.string x.now,.string x.safe] 86)).alloc (.cells #[.slice none 0 0,.int .i64 0,.bool false] 30)):=⟨_,rfl⟩
      rw [← hW3]
      have HS3:Hid (W3.heap.size=w.heap.size+3):=by show _=_;rw [hW3];simp
      have HB3:Hid (Below w.heap.size w W3):=by show Below _ _ _;rw [hW3];exact ((box1 w _).alloc (by simp) _).alloc (by simp;omega) _
      have HFZ:Hid (W3.there w.heap.size 0 3):=by
        show W3.there _ _ _;rw [hW3]
        exact World.there_alloc (World.there_alloc (there_last w #[.slice a L.length c,.int .i64 0,.bool dn] 30 _ 3 rfl rfl) _) _
      have HRES:Hid (W3.there (w.heap.size+1+1) 0 3):=by
        show W3.there _ _ _;rw [hW3]
        exact there_last _ #[.slice none 0 0,.int .i64 0,.bool false] 30 _ 3 rfl (by simp)
      have HR3:Hid (Rd W3 W3.heap.size a (flF L)):=(HR.out.below HB3.out).more (by rw [HS3.out];omega)
      clear hW3
      refine (put_fs a c L 0 dn x W3 HR3.out hl).mono ?_
      rintro e w1 ⟨a1,c1,rfl,q1,q2,q3,q4,q5⟩
      have Q1:=Lib.hid q1;have Q2':=Lib.hid q2;have Q3:=Lib.hid q3;have Q4:=Lib.hid q4;have Q5:=Lib.hid q5;clear q1 q2 q3 q4 q5
      have T1:=Lib.hid (there_below HFZ.out Q5.out (by rw [HS3.out];omega))
      have T2:=Lib.hid (there_below HRES.out Q5.out (by rw [HS3.out];omega))
      have HB1:=Lib.hid (HB3.out.trans (Q5.out.mono (by rw [HS3.out];omega)))
      unfold fsv
      simp only at *
      obtain ⟨y0,y1,y2,g0,g1,g2,k0,k1,k2⟩:=there3 T1.out
      obtain ⟨z0,z1,z2,p0,p1,p2,r0,r1,r2⟩:=there3 T2.out
      have e9:((((w1.setCell ⟨w.heap.size,0,none⟩ (.slice a1 (putF L x).length c1)).setCell ⟨w.heap.size,1,none⟩ (.int .i64 0)).setCell ⟨w.heap.size,2,none⟩ (.bool dn)).setCell ⟨w.heap.size,2,none⟩ (.bool true)).cell? ⟨w.heap.size,2,none⟩=some (.bool true) :=
        World.cell?_setCell_same _ _ _ (World.cell?_setCell_same _ _ _ (u:=y2) (by rw [World.cell?_setCell_other _ _ _ _ (by simp),World.cell?_setCell_other _ _ _ _ (by simp)];exact g2))
      go_wp2_with fail
      have T4:((w1.setCells w.heap.size 0 [.slice a1 (putF L x).length c1,.int .i64 0,.bool dn]).setCells w.heap.size 2 [.bool true]).there (w.heap.size+1+1) 0 3:=World.there_setCells (World.there_setCells T2.out _ _ _) _ _ _
      refine bodyPost_ret (v:=.tuple #[fsv a1 (putF L x).length c1 0 true,.int .i64 7]) (results_cell_two (p:=6) (u:=7) (ty:=30) (b:=w.heap.size+1+1) (x:=.int .i64 7) rfl rfl rfl (load_fs _ (w.heap.size+1+1) #[.slice a1 (putF L x).length c1,.int .i64 0,.bool true] T4)) rfl ?_
      rw [HACT.out]
      have fr:∀ g o s,a1=some ⟨g,o,s⟩→w.heap.size+3≤g:=fun g o s e=>by have:=Q4.out g o s e;rw [HS3.out] at this;exact this
      obtain ⟨WA,hWA⟩:∃ WA,WA=w1.setCells w.heap.size 0 [.slice a1 (putF L x).length c1,.int .i64 0,.bool dn]:=⟨_,rfl⟩
      obtain ⟨WB,hWB⟩:∃ WB,WB=WA.setCells w.heap.size 2 [.bool true]:=⟨_,rfl⟩
      obtain ⟨WC,hWC⟩:∃ WC,WC=WB.setCells (w.heap.size+1+1) 0 [.slice a1 (putF L x).length c1,.int .i64 0,.bool true]:=⟨_,rfl⟩
      have ra:Rd WA w1.heap.size a1 (flF (putF L x)):=by rw [hWA];exact Rd_sets Q3.out _ 0 (fun g o s e=>by have:=fr g o s e;omega)
      have rb:Rd WB w1.heap.size a1 (flF (putF L x)):=by rw [hWB];exact Rd_sets ra _ 2 (fun g o s e=>by have:=fr g o s e;omega)
      have rc:Rd WC w1.heap.size a1 (flF (putF L x)):=by rw [hWC];exact Rd_sets rb _ 0 (fun g o s e=>by have:=fr g o s e;omega)
      have ba:Below w.heap.size w WA:=by rw [hWA];exact Below_setCells (Nat.le_refl _) _ 0 _ HB1.out
      have bb:Below w.heap.size w WB:=by rw [hWB];exact Below_setCells (Nat.le_refl _) _ 2 _ ba
      have bc:Below w.heap.size w WC:=by rw [hWC];exact Below_setCells (by omega) _ 0 _ bb
      have sc:WC.heap.size=w1.heap.size:=by rw [hWC,hWB,hWA,size_setCells',size_setCells',size_setCells']
      have key:FsErr w a L (⟨if false=true then L else putF L x,0,true⟩,7) (.returned (.tuple #[fsv a1 (putF L x).length c1 0 true,.int .i64 7])) WC :=
        ⟨a1,c1,rfl,Q1.out,Q2'.out,rc.more (by rw [sc];exact Nat.le_refl _),.inr (fun b o s e=>by have:=fr b o s e;omega),bc⟩
      rw [hWC,hWB,hWA] at key
      exact key
    · go_wp2_with fail
      have hr2:(((w.alloc (.cells #[.slice a L.length c,.int .i64 0,.bool true] 30)).alloc (.cells #[.int .u32 (x.n:Int),.bool x.there,.bool x.kept,.string x.now,.string x.safe] 86)).alloc (.cells #[.slice a L.length c,.int .i64 0,.bool true] 30)).rangeAt (w.heap.size+1+1) 0 [.slice a L.length c,.int .i64 0,.bool true]:=rangeAt_last _ #[.slice a L.length c,.int .i64 0,.bool true] _ _ (by simp)
      refine bodyPost_ret (v:=.tuple #[fsv a L.length c 0 true,.int .i64 7]) (results_cell_two (p:=6) (u:=7) (ty:=30) (b:=w.heap.size+1+1) (x:=.int .i64 7) rfl rfl rfl (run_loadVar_mid (P:=Tryz.prog) _ (w.heap.size+1+1) 0 30 _ _ hr2 Tryz.underlying30 rfl size_fs)) rfl ?_
      rw [HACT.out]
      have hb:Below w.heap.size w (((w.alloc (.cells #[.slice a L.length c,.int .i64 0,.bool true] 30)).alloc (.cells #[.int .u32 (x.n:Int),.bool x.there,.bool x.kept,.string x.now,.string x.safe] 86)).alloc (.cells #[.slice a L.length c,.int .i64 0,.bool true] 30)):=((box1 w _).alloc (by simp) _).alloc (by simp;omega) _
      exact ⟨a,c,rfl,hlc,HC.out,(HR.out.below hb).more hb.size,.inl ⟨rfl,rfl⟩,hb⟩
  · by_cases h1:0 < fu
    · have hw:IntKind.i64.wrap (fu - 1)=fu - 1:=IntWalk.i64_in _ ⟨by omega,by omega⟩
      have hq:(fu == 0)=false:=by simp [h0]
      have HACT:Hid (actF ⟨L,fu,dn⟩ x sync=(⟨putF L x,fu - 1,dn⟩,0)):=by show _=_;simp [actF,h0,h1]
      go_wp2_with fail
      obtain ⟨W3,hW3⟩:∃ W3,W3=(((w.alloc (.cells #[.slice a L.length c,.int .i64 (fu - 1),.bool dn] 30)).alloc (.cells #[.int .u32 (x.n:Int),.bool x.there,.bool x.kept,.string x.now,.string x.safe] 86)).alloc (.cells #[.slice none 0 0,.int .i64 0,.bool false] 30)):=⟨_,rfl⟩
      rw [← hW3]
      have HS3:Hid (W3.heap.size=w.heap.size+3):=by show _=_;rw [hW3];simp
      have HB3:Hid (Below w.heap.size w W3):=by show Below _ _ _;rw [hW3];exact ((box1 w _).alloc (by simp) _).alloc (by simp;omega) _
      have HFZ:Hid (W3.there w.heap.size 0 3):=by
        show W3.there _ _ _;rw [hW3]
        exact World.there_alloc (World.there_alloc (there_last w #[.slice a L.length c,.int .i64 (fu - 1),.bool dn] 30 _ 3 rfl rfl) _) _
      have HRES:Hid (W3.there (w.heap.size+1+1) 0 3):=by
        show W3.there _ _ _;rw [hW3]
        exact there_last _ #[.slice none 0 0,.int .i64 0,.bool false] 30 _ 3 rfl (by simp)
      have HR3:Hid (Rd W3 W3.heap.size a (flF L)):=(HR.out.below HB3.out).more (by rw [HS3.out];omega)
      clear hW3
      refine (put_fs a c L (fu - 1) dn x W3 HR3.out hl).mono ?_
      rintro e w1 ⟨a1,c1,rfl,q1,q2,q3,q4,q5⟩
      have Q1:=Lib.hid q1;have Q2':=Lib.hid q2;have Q3:=Lib.hid q3;have Q4:=Lib.hid q4;have Q5:=Lib.hid q5;clear q1 q2 q3 q4 q5
      have T1:=Lib.hid (there_below HFZ.out Q5.out (by rw [HS3.out];omega))
      have T2:=Lib.hid (there_below HRES.out Q5.out (by rw [HS3.out];omega))
      have HB1:=Lib.hid (HB3.out.trans (Q5.out.mono (by rw [HS3.out];omega)))
      unfold fsv
      simp only at *
      obtain ⟨y0,y1,y2,g0,g1,g2,k0,k1,k2⟩:=there3 T1.out
      obtain ⟨z0,z1,z2,p0,p1,p2,r0,r1,r2⟩:=there3 T2.out
      go_wp2_with fail
      refine bodyPost_ret (v:=.tuple #[fsv a1 (putF L x).length c1 (fu - 1) dn,.int .i64 0]) (results_cell_two (p:=6) (u:=7) (ty:=30) (b:=w.heap.size+1+1) (x:=.int .i64 0) rfl rfl rfl (load_fs w1 (w.heap.size+1+1) #[.slice a1 (putF L x).length c1,.int .i64 (fu - 1),.bool dn] T2.out)) rfl ?_
      rw [HACT.out]
      obtain ⟨WC,hWC⟩:∃ WC,WC=w1.setCells (w.heap.size+1+1) 0 [.slice a1 (putF L x).length c1,.int .i64 (fu - 1),.bool dn]:=⟨_,rfl⟩
      have fr:∀ g o s,a1=some ⟨g,o,s⟩→w.heap.size+3≤g:=fun g o s e=>by have:=Q4.out g o s e;rw [HS3.out] at this;exact this
      have rc:Rd WC w1.heap.size a1 (flF (putF L x)):=by rw [hWC];exact Rd_sets Q3.out _ 0 (fun g o s e=>by have:=fr g o s e;omega)
      have bc:Below w.heap.size w WC:=by rw [hWC];exact Below_setCells (by omega) _ 0 _ HB1.out
      have sc:WC.heap.size=w1.heap.size:=by rw [hWC,size_setCells']
      have key:FsErr w a L (⟨putF L x,fu - 1,dn⟩,0) (.returned (.tuple #[fsv a1 (putF L x).length c1 (fu - 1) dn,.int .i64 0])) WC :=
        ⟨a1,c1,rfl,Q1.out,Q2'.out,rc.more (by rw [sc];exact Nat.le_refl _),.inr (fun b o s e=>by have:=fr b o s e;omega),bc⟩
      rw [hWC] at key
      exact key
    · have hq:(fu == 0)=false:=by simp [h0]
      have HACT:Hid (actF ⟨L,fu,dn⟩ x sync=(⟨putF L x,fu,dn⟩,0)):=by show _=_;simp [actF,h0,h1]
      go_wp2_with fail
      obtain ⟨W3,hW3⟩:∃ W3,W3=(((w.alloc (.cells #[.slice a L.length c,.int .i64 fu,.bool dn] 30)).alloc (.cells #[.int .u32 (x.n:Int),.bool x.there,.bool x.kept,.string x.now,.string x.safe] 86)).alloc (.cells #[.slice none 0 0,.int .i64 0,.bool false] 30)):=⟨_,rfl⟩
      rw [← hW3]
      have HS3:Hid (W3.heap.size=w.heap.size+3):=by show _=_;rw [hW3];simp
      have HB3:Hid (Below w.heap.size w W3):=by show Below _ _ _;rw [hW3];exact ((box1 w _).alloc (by simp) _).alloc (by simp;omega) _
      have HFZ:Hid (W3.there w.heap.size 0 3):=by
        show W3.there _ _ _;rw [hW3]
        exact World.there_alloc (World.there_alloc (there_last w #[.slice a L.length c,.int .i64 fu,.bool dn] 30 _ 3 rfl rfl) _) _
      have HRES:Hid (W3.there (w.heap.size+1+1) 0 3):=by
        show W3.there _ _ _;rw [hW3]
        exact there_last _ #[.slice none 0 0,.int .i64 0,.bool false] 30 _ 3 rfl (by simp)
      have HR3:Hid (Rd W3 W3.heap.size a (flF L)):=(HR.out.below HB3.out).more (by rw [HS3.out];omega)
      clear hW3
      refine (put_fs a c L fu dn x W3 HR3.out hl).mono ?_
      rintro e w1 ⟨a1,c1,rfl,q1,q2,q3,q4,q5⟩
      have Q1:=Lib.hid q1;have Q2':=Lib.hid q2;have Q3:=Lib.hid q3;have Q4:=Lib.hid q4;have Q5:=Lib.hid q5;clear q1 q2 q3 q4 q5
      have T1:=Lib.hid (there_below HFZ.out Q5.out (by rw [HS3.out];omega))
      have T2:=Lib.hid (there_below HRES.out Q5.out (by rw [HS3.out];omega))
      have HB1:=Lib.hid (HB3.out.trans (Q5.out.mono (by rw [HS3.out];omega)))
      unfold fsv
      simp only at *
      obtain ⟨y0,y1,y2,g0,g1,g2,k0,k1,k2⟩:=there3 T1.out
      obtain ⟨z0,z1,z2,p0,p1,p2,r0,r1,r2⟩:=there3 T2.out
      go_wp2_with fail
      refine bodyPost_ret (v:=.tuple #[fsv a1 (putF L x).length c1 (fu) dn,.int .i64 0]) (results_cell_two (p:=6) (u:=7) (ty:=30) (b:=w.heap.size+1+1) (x:=.int .i64 0) rfl rfl rfl (load_fs w1 (w.heap.size+1+1) #[.slice a1 (putF L x).length c1,.int .i64 (fu),.bool dn] T2.out)) rfl ?_
      rw [HACT.out]
      obtain ⟨WC,hWC⟩:∃ WC,WC=w1.setCells (w.heap.size+1+1) 0 [.slice a1 (putF L x).length c1,.int .i64 (fu),.bool dn]:=⟨_,rfl⟩
      have fr:∀ g o s,a1=some ⟨g,o,s⟩→w.heap.size+3≤g:=fun g o s e=>by have:=Q4.out g o s e;rw [HS3.out] at this;exact this
      have rc:Rd WC w1.heap.size a1 (flF (putF L x)):=by rw [hWC];exact Rd_sets Q3.out _ 0 (fun g o s e=>by have:=fr g o s e;omega)
      have bc:Below w.heap.size w WC:=by rw [hWC];exact Below_setCells (by omega) _ 0 _ HB1.out
      have sc:WC.heap.size=w1.heap.size:=by rw [hWC,size_setCells']
      have key:FsErr w a L (⟨putF L x,fu,dn⟩,0) (.returned (.tuple #[fsv a1 (putF L x).length c1 (fu) dn,.int .i64 0])) WC :=
        ⟨a1,c1,rfl,Q1.out,Q2'.out,rc.more (by rw [sc];exact Nat.le_refl _),.inr (fun b o s e=>by have:=fr b o s e;omega),bc⟩
      rw [hWC] at key
      exact key
end Go.Proofs.YtccbpngehedbaaaGreat

namespace Go.Proofs.YtccbpngehedbaaaGreat
open Go Go.RowKit

theorem FsErr.same {w WC:World} {a:Option Addr} {c:Nat} {L:List Fl} {fu err:Int} {dn:Bool} (hr:Rd w w.heap.size a (flF L)) (hlc:L.length≤c) (hc:c≤maxLen) (bc:Below w.heap.size w WC) :
    FsErr w a L (⟨L,fu,dn⟩,err) (.returned (.tuple #[fsv a L.length c fu dn,.int .i64 err])) WC :=
  ⟨a,c,rfl,hlc,hc,(hr.below bc).more bc.size,.inl ⟨rfl,rfl⟩,bc⟩
theorem FsErr.acted {w WX w5:World} {a a1:Option Addr} {c1:Nat} {L:List Fl} {r:FSm × Int} {b:Nat} (us:List Value) (hr:Rd w w.heap.size a (flF L)) (hX:Below w.heap.size w WX) (hbX:w.heap.size≤b) (hbl:b < WX.heap.size)
    (q1:r.1.files.length≤c1) (q2:c1≤maxLen) (q3:Rd w5 w5.heap.size a1 (flF r.1.files)) (q4:From WX a L a1 r.1.files) (q5:Below WX.heap.size WX w5) :
    FsErr w a L r (.returned (.tuple #[fsv a1 r.1.files.length c1 r.1.fuse r.1.down,.int .i64 r.2])) (w5.setCells b 0 us):=by
  have b5:Below w.heap.size w w5:=hX.trans (q5.mono hX.size)
  have bc:Below w.heap.size w (w5.setCells b 0 us):=Below_setCells hbX us 0 _ b5
  refine ⟨a1,c1,rfl,q1,q2,?_,?_,bc⟩
  · rcases q4 with ⟨rfl,h⟩ | h
    · rw [h];exact (hr.below bc).more bc.size
    · refine (Rd_sets q3 us 0 (fun g o s e=>?_)).more (by rw [size_setCells'];exact Nat.le_refl _)
      have:=h g o s e;omega
  · rcases q4 with h | h
    · exact .inl h
    · exact .inr fun b o s e=>Nat.le_trans hX.size (h b o s e)
theorem load_fsA (W:World) (b:Nat) (cs:Array Value) (o:Obj) (ht:W.there b 0 cs.size) (hc:cs.size=3:=by rfl):(loadVar 30 ⟨b,0,none⟩).run Tryz.prog ((W.setCells b 0 cs.toList).alloc o)=.ok (.agg cs) ((W.setCells b 0 cs.toList).alloc o) :=
  run_loadVar_mid (P:=Tryz.prog) _ b 0 30 _ _ (World.rangeAt_alloc (World.rangeAt_setCells_same W b 0 cs.toList ht) o) Tryz.underlying30 rfl (by rw [size_fs];simp [hc])
theorem list_fs (a:Option Addr) (c:Nat) (L:List Fl) (fu:Int) (dn:Bool) (w:World) (hr:Rd w w.heap.size a (flF L)) (hl:L.length≤1000000000) :
    Calls Tryz.prog 35 #[fsv a L.length c fu dn] w (NumsOut w (numsF false L)):=by
  unfold fsv
  go_enter Tryz.func35,Tryz.ntmps35
  go_wp2_with fail
  refine (numbers_any a c L fu dn false _ ((hr.below (box1 w _)).more (by simp)) hl).mono ?_
  rintro e w1 ⟨a1,c1,rfl,h1,h2,h3,h5,h4⟩
  go_wp2_with fail
  go_ret
  exact ⟨a1,c1,rfl,h1,h2,h3,fun b o s e=>(by have:=h5 b o s e;simp at this;omega),bel2 (box1 w _) h4⟩
theorem unsafe_fs (a:Option Addr) (c:Nat) (L:List Fl) (fu:Int) (dn:Bool) (w:World) (hr:Rd w w.heap.size a (flF L)) (hl:L.length≤1000000000) :
    Calls Tryz.prog 39 #[fsv a L.length c fu dn] w (NumsOut w (numsF true L)):=by
  unfold fsv
  go_enter Tryz.func39,Tryz.ntmps39
  go_wp2_with fail
  refine (numbers_any a c L fu dn true _ ((hr.below (box1 w _)).more (by simp)) hl).mono ?_
  rintro e w1 ⟨a1,c1,rfl,h1,h2,h3,h5,h4⟩
  go_wp2_with fail
  go_ret
  exact ⟨a1,c1,rfl,h1,h2,h3,fun b o s e=>(by have:=h5 b o s e;simp at this;omega),bel2 (box1 w _) h4⟩
theorem read_fs (a:Option Addr) (c:Nat) (m:FSm) (n:Nat) (w:World) (hr:Rd w w.heap.size a (flF m.files)) (hl:m.files.length≤1000000000) :
    Calls Tryz.prog 41 #[fsv a m.files.length c m.fuse m.down,.int .u32 (n:Int)] w fun e w'=>e=.returned (.tuple #[.string (readF m n).1,.int .i64 (readF m n).2])∧Below w.heap.size w w':=by
  obtain ⟨L,fu,dn⟩:=m
  simp only at *
  obtain ⟨x,hx⟩:∃ x,x=getF L n:=⟨_,rfl⟩
  have HF:Hid (readF ⟨L,fu,dn⟩ n=if x.there=true then (x.now,0) else (ByteArray.empty,5)):=by show _=_;rw [hx];rfl
  have HX:=Lib.hid hx;clear hx
  unfold fsv
  go_enter Tryz.func41,Tryz.ntmps41
  go_wp2_with fail
  refine (refGetF_any a c L fu dn n _ ((hr.below (box1 w _)).more (by simp)) (by omega)).mono ?_
  rw [← HX.out]
  rintro e w1 ⟨rfl,hb1⟩
  have HB:=Lib.hid ((bel2 (box1 w _) hb1).alloc (bel2 (box1 w _) hb1).size (.cells x.c 86))
  clear hb1
  obtain ⟨xn,xt,xk,xw,xs⟩:=x
  unfold Fl.v
  unfold Fl.c at HB
  cases xt
  · go_wp2_with fail
    go_ret2
    exact ⟨by rw [HF.out];rfl,HB.out⟩
  · go_wp2_with fail
    go_ret2
    exact ⟨by rw [HF.out];rfl,HB.out⟩
set_option maxRecDepth 20000 in
set_option maxHeartbeats 4000000 in
theorem remove_fs (a:Option Addr) (c:Nat) (m:FSm) (n:Nat) (w:World) (hr:Rd w w.heap.size a (flF m.files)) (hl:m.files.length≤1000000000) (hlc:m.files.length≤c) (hc:c≤maxLen) (hf1:-9223372036854775808≤m.fuse) (hf2:m.fuse≤9223372036854775807) :
    Calls Tryz.prog 94 #[fsv a m.files.length c m.fuse m.down,.int .u32 (n:Int)] w (FsErr w a m.files (removeF m n)):=by
  have HR:=Lib.hid hr;have HC:=Lib.hid hc;clear hr hc
  obtain ⟨L,fu,dn⟩:=m
  simp only at *
  obtain ⟨x,hx⟩:∃ x,x=getF L n:=⟨_,rfl⟩
  have HX:=Lib.hid hx;clear hx
  unfold fsv
  go_enter Tryz.func94,Tryz.ntmps94
  go_wp2_with fail
  obtain ⟨W2,hW2⟩:∃ W2,W2=((w.alloc (.cells #[.slice a L.length c,.int .i64 fu,.bool dn] 30)).alloc (.cells #[.slice none 0 0,.int .i64 0,.bool false] 30)):=⟨_,rfl⟩
  rw [← hW2]
  have HS2:Hid (W2.heap.size=w.heap.size+2):=by show _=_;rw [hW2];simp
  have HB2:Hid (Below w.heap.size w W2):=by show Below _ _ _;rw [hW2];exact (box1 w _).alloc (by simp) _
  have HRES:Hid (W2.there (w.heap.size+1) 0 3):=by
    show W2.there _ _ _;rw [hW2]
    exact there_last _ #[.slice none 0 0,.int .i64 0,.bool false] 30 _ 3 rfl (by simp)
  have C0:Hid (W2.cell? ⟨w.heap.size,0,none⟩=some (.slice a L.length c)):=by show _=_;rw [hW2];go_simp
  have C1:Hid (W2.cell? ⟨w.heap.size,1,none⟩=some (.int .i64 fu)):=by show _=_;rw [hW2];go_simp
  have C2:Hid (W2.cell? ⟨w.heap.size,2,none⟩=some (.bool dn)):=by show _=_;rw [hW2];go_simp
  have HR2:Hid (Rd W2 W2.heap.size a (flF L)):=(HR.out.below HB2.out).more (by rw [HS2.out];omega)
  clear hW2
  refine (refGetF_any a c L fu dn n W2 HR2.out (by omega)).mono ?_
  rw [← HX.out]
  rintro e w1 ⟨rfl,hb1⟩
  have c0:w1.cell? ⟨w.heap.size,0,none⟩=some (.slice a L.length c):=by rw [hb1.cell (p:=⟨w.heap.size,0,none⟩) (by show w.heap.size < _;rw [HS2.out];omega)];exact C0.out
  have c1:w1.cell? ⟨w.heap.size,1,none⟩=some (.int .i64 fu):=by rw [hb1.cell (p:=⟨w.heap.size,1,none⟩) (by show w.heap.size < _;rw [HS2.out];omega)];exact C1.out
  have c2:w1.cell? ⟨w.heap.size,2,none⟩=some (.bool dn):=by rw [hb1.cell (p:=⟨w.heap.size,2,none⟩) (by show w.heap.size < _;rw [HS2.out];omega)];exact C2.out
  have T1:=Lib.hid (there_below HRES.out hb1 (by rw [HS2.out];omega))
  have n0:w.heap.size < w1.heap.size:=by have:=hb1.size;rw [HS2.out] at this;omega
  have n1:w.heap.size+1 < w1.heap.size:=by have:=hb1.size;rw [HS2.out] at this;omega
  have HB1:=Lib.hid (HB2.out.trans (hb1.mono (by rw [HS2.out];omega)))
  clear hb1 C0 C1 C2
  obtain ⟨xn,xt,xk,xw,xs⟩:=x
  unfold Fl.v
  cases dn
  · cases xt
    · skip
      have HACT:Hid (removeF ⟨L,fu,false⟩ n=(⟨L,fu,false⟩,5)):=by show _=_;unfold removeF;simp only [← HX.out];rfl
      obtain ⟨z0,z1,z2,p0,p1,p2,r0,r1,r2⟩:=there3 T1.out
      go_wp2_with fail
      refine bodyPost_ret (v:=.tuple #[fsv a L.length c fu false,.int .i64 5]) (results_cell_two (p:=4) (u:=5) (ty:=30) (b:=w.heap.size+1) (x:=.int .i64 5) rfl rfl rfl (load_fsA w1 (w.heap.size+1) #[.slice a L.length c,.int .i64 fu,.bool false] _ T1.out)) rfl ?_
      rw [HACT.out]
      exact FsErr.same HR.out hlc HC.out ((Below_setCells (b:=w.heap.size+1) (by omega) [.slice a L.length c,.int .i64 fu,.bool false] 0 _ HB1.out).alloc (by rw [size_setCells'];omega) _)
    · skip
      have HACT:Hid (removeF ⟨L,fu,false⟩ n=actF ⟨L,fu,false⟩ ⟨xn,false,xk,⟨#[]⟩,xs⟩ false):=by show _=_;unfold removeF;simp only [← HX.out];rfl
      go_wp2_with fail
      obtain ⟨WX,hWX⟩:∃ WX,WX=w1.alloc (.cells #[.int .u32 (xn:Int),.bool false,.bool xk,.string ⟨#[]⟩,.string xs] 86):=⟨_,rfl⟩
      have HBX:Hid (Below w.heap.size w WX):=by show Below _ _ _;rw [hWX];exact HB1.out.alloc (by omega) _
      have HTX:Hid (WX.there (w.heap.size+1) 0 3):=by show WX.there _ _ _;rw [hWX];exact World.there_alloc T1.out _
      have nX:w.heap.size+1 < WX.heap.size:=by rw [hWX];simp;omega
      rw [← hWX]
      clear hWX
      refine (act_fs a c ⟨L,fu,false⟩ (⟨xn,false,xk,⟨#[]⟩,xs⟩) false WX ((HR.out.below HBX.out).more HBX.out.size) hl hlc HC.out hf1 hf2).mono ?_
      rintro e w5 ⟨a5,c5,rfl,q1,q2,q3,q4,q5⟩
      obtain ⟨R,hR⟩:∃ R,R=actF ⟨L,fu,false⟩ (⟨xn,false,xk,⟨#[]⟩,xs⟩) false:=⟨_,rfl⟩
      rw [← hR] at q1 q3 q4 ⊢
      have HRR:=Lib.hid hR
      have T5:=Lib.hid (there_below HTX.out q5 (by omega))
      obtain ⟨z0,z1,z2,p0,p1,p2,r0,r1,r2⟩:=there3 T5.out
      have Q1:=Lib.hid q1;have Q2':=Lib.hid q2;have Q3:=Lib.hid q3;have Q4:=Lib.hid q4;have Q5:=Lib.hid q5
      clear hR q1 q2 q3 q4 q5
      unfold fsv
      go_wp2_with fail
      refine bodyPost_ret (v:=.tuple #[fsv a5 R.1.files.length c5 R.1.fuse R.1.down,.int .i64 R.2]) (results_cell_two (p:=4) (u:=5) (ty:=30) (b:=w.heap.size+1) (x:=.int .i64 R.2) rfl rfl rfl (load_fs w5 (w.heap.size+1) #[.slice a5 R.1.files.length c5,.int .i64 R.1.fuse,.bool R.1.down] T5.out)) rfl ?_
      rw [HACT.out,← HRR.out]
      exact FsErr.acted [.slice a5 R.1.files.length c5,.int .i64 R.1.fuse,.bool R.1.down] HR.out HBX.out (by omega) nX Q1.out Q2'.out Q3.out Q4.out Q5.out
  · skip
    have HACT:Hid (removeF ⟨L,fu,true⟩ n=(⟨L,fu,true⟩,7)):=by show _=_;rfl
    obtain ⟨z0,z1,z2,p0,p1,p2,r0,r1,r2⟩:=there3 T1.out
    go_wp2_with fail
    refine bodyPost_ret (v:=.tuple #[fsv a L.length c fu true,.int .i64 7]) (results_cell_two (p:=4) (u:=5) (ty:=30) (b:=w.heap.size+1) (x:=.int .i64 7) rfl rfl rfl (load_fsA w1 (w.heap.size+1) #[.slice a L.length c,.int .i64 fu,.bool true] _ T1.out)) rfl ?_
    rw [HACT.out]
    exact FsErr.same HR.out hlc HC.out ((Below_setCells (b:=w.heap.size+1) (by omega) [.slice a L.length c,.int .i64 fu,.bool true] 0 _ HB1.out).alloc (by rw [size_setCells'];omega) _)
set_option maxRecDepth 20000 in
set_option maxHeartbeats 4000000 in
theorem append_fs (a:Option Addr) (c:Nat) (m:FSm) (n:Nat) (b:ByteArray) (hsz:(getF m.files n).now.size+b.size≤1000000000000) (w:World) (hr:Rd w w.heap.size a (flF m.files)) (hl:m.files.length≤1000000000) (hlc:m.files.length≤c) (hc:c≤maxLen) (hf1:-9223372036854775808≤m.fuse) (hf2:m.fuse≤9223372036854775807) :
    Calls Tryz.prog 12 #[fsv a m.files.length c m.fuse m.down,.int .u32 (n:Int),.string b] w (FsErr w a m.files (appendF m n b)):=by
  have HR:=Lib.hid hr;have HC:=Lib.hid hc;clear hr hc
  obtain ⟨L,fu,dn⟩:=m
  simp only at *
  obtain ⟨x,hx⟩:∃ x,x=getF L n:=⟨_,rfl⟩
  have HX:=Lib.hid hx;clear hx
  unfold fsv
  go_enter Tryz.func12,Tryz.ntmps12
  go_wp2_with fail
  obtain ⟨W2,hW2⟩:∃ W2,W2=((w.alloc (.cells #[.slice a L.length c,.int .i64 fu,.bool dn] 30)).alloc (.cells #[.slice none 0 0,.int .i64 0,.bool false] 30)):=⟨_,rfl⟩
  rw [← hW2]
  have HS2:Hid (W2.heap.size=w.heap.size+2):=by show _=_;rw [hW2];simp
  have HB2:Hid (Below w.heap.size w W2):=by show Below _ _ _;rw [hW2];exact (box1 w _).alloc (by simp) _
  have HRES:Hid (W2.there (w.heap.size+1) 0 3):=by
    show W2.there _ _ _;rw [hW2]
    exact there_last _ #[.slice none 0 0,.int .i64 0,.bool false] 30 _ 3 rfl (by simp)
  have C0:Hid (W2.cell? ⟨w.heap.size,0,none⟩=some (.slice a L.length c)):=by show _=_;rw [hW2];go_simp
  have C1:Hid (W2.cell? ⟨w.heap.size,1,none⟩=some (.int .i64 fu)):=by show _=_;rw [hW2];go_simp
  have C2:Hid (W2.cell? ⟨w.heap.size,2,none⟩=some (.bool dn)):=by show _=_;rw [hW2];go_simp
  have HR2:Hid (Rd W2 W2.heap.size a (flF L)):=(HR.out.below HB2.out).more (by rw [HS2.out];omega)
  clear hW2
  refine (refGetF_any a c L fu dn n W2 HR2.out (by omega)).mono ?_
  rw [← HX.out]
  rintro e w1 ⟨rfl,hb1⟩
  have c0:w1.cell? ⟨w.heap.size,0,none⟩=some (.slice a L.length c):=by rw [hb1.cell (p:=⟨w.heap.size,0,none⟩) (by show w.heap.size < _;rw [HS2.out];omega)];exact C0.out
  have c1:w1.cell? ⟨w.heap.size,1,none⟩=some (.int .i64 fu):=by rw [hb1.cell (p:=⟨w.heap.size,1,none⟩) (by show w.heap.size < _;rw [HS2.out];omega)];exact C1.out
  have c2:w1.cell? ⟨w.heap.size,2,none⟩=some (.bool dn):=by rw [hb1.cell (p:=⟨w.heap.size,2,none⟩) (by show w.heap.size < _;rw [HS2.out];omega)];exact C2.out
  have T1:=Lib.hid (there_below HRES.out hb1 (by rw [HS2.out];omega))
  have n0:w.heap.size < w1.heap.size:=by have:=hb1.size;rw [HS2.out] at this;omega
  have n1:w.heap.size+1 < w1.heap.size:=by have:=hb1.size;rw [HS2.out] at this;omega
  have HB1:=Lib.hid (HB2.out.trans (hb1.mono (by rw [HS2.out];omega)))
  clear hb1 C0 C1 C2
  obtain ⟨xn,xt,xk,xw,xs⟩:=x
  unfold Fl.v
  have hnc:¬ 9223372036854775807 < xw.size+b.size:=by have h:=hsz;rw [← HX.out] at h;simp only at h;omega
  cases dn
  · cases xt
    · skip
      have HACT:Hid (appendF ⟨L,fu,false⟩ n b=(⟨L,fu,false⟩,5)):=by show _=_;unfold appendF;simp only [← HX.out];rfl
      obtain ⟨z0,z1,z2,p0,p1,p2,r0,r1,r2⟩:=there3 T1.out
      go_wp2_with fail
      refine bodyPost_ret (v:=.tuple #[fsv a L.length c fu false,.int .i64 5]) (results_cell_two (p:=6) (u:=7) (ty:=30) (b:=w.heap.size+1) (x:=.int .i64 5) rfl rfl rfl (load_fsA w1 (w.heap.size+1) #[.slice a L.length c,.int .i64 fu,.bool false] _ T1.out)) rfl ?_
      rw [HACT.out]
      exact FsErr.same HR.out hlc HC.out ((Below_setCells (b:=w.heap.size+1) (by omega) [.slice a L.length c,.int .i64 fu,.bool false] 0 _ HB1.out).alloc (by rw [size_setCells'];omega) _)
    · skip
      have HACT:Hid (appendF ⟨L,fu,false⟩ n b=actF ⟨L,fu,false⟩ ⟨xn,true,xk,xw ++ b,xs⟩ false):=by show _=_;unfold appendF;simp only [← HX.out];rfl
      go_wp2_with fail
      obtain ⟨WX,hWX⟩:∃ WX,WX=w1.alloc (.cells #[.int .u32 (xn:Int),.bool true,.bool xk,.string (xw ++ b),.string xs] 86):=⟨_,rfl⟩
      have HBX:Hid (Below w.heap.size w WX):=by show Below _ _ _;rw [hWX];exact HB1.out.alloc (by omega) _
      have HTX:Hid (WX.there (w.heap.size+1) 0 3):=by show WX.there _ _ _;rw [hWX];exact World.there_alloc T1.out _
      have nX:w.heap.size+1 < WX.heap.size:=by rw [hWX];simp;omega
      rw [← hWX]
      clear hWX
      refine (act_fs a c ⟨L,fu,false⟩ (⟨xn,true,xk,xw ++ b,xs⟩) false WX ((HR.out.below HBX.out).more HBX.out.size) hl hlc HC.out hf1 hf2).mono ?_
      rintro e w5 ⟨a5,c5,rfl,q1,q2,q3,q4,q5⟩
      obtain ⟨R,hR⟩:∃ R,R=actF ⟨L,fu,false⟩ (⟨xn,true,xk,xw ++ b,xs⟩) false:=⟨_,rfl⟩
      rw [← hR] at q1 q3 q4 ⊢
      have HRR:=Lib.hid hR
      have T5:=Lib.hid (there_below HTX.out q5 (by omega))
      obtain ⟨z0,z1,z2,p0,p1,p2,r0,r1,r2⟩:=there3 T5.out
      have Q1:=Lib.hid q1;have Q2':=Lib.hid q2;have Q3:=Lib.hid q3;have Q4:=Lib.hid q4;have Q5:=Lib.hid q5
      clear hR q1 q2 q3 q4 q5
      unfold fsv
      go_wp2_with fail
      refine bodyPost_ret (v:=.tuple #[fsv a5 R.1.files.length c5 R.1.fuse R.1.down,.int .i64 R.2]) (results_cell_two (p:=6) (u:=7) (ty:=30) (b:=w.heap.size+1) (x:=.int .i64 R.2) rfl rfl rfl (load_fs w5 (w.heap.size+1) #[.slice a5 R.1.files.length c5,.int .i64 R.1.fuse,.bool R.1.down] T5.out)) rfl ?_
      rw [HACT.out,← HRR.out]
      exact FsErr.acted [.slice a5 R.1.files.length c5,.int .i64 R.1.fuse,.bool R.1.down] HR.out HBX.out (by omega) nX Q1.out Q2'.out Q3.out Q4.out Q5.out
  · skip
    have HACT:Hid (appendF ⟨L,fu,true⟩ n b=(⟨L,fu,true⟩,7)):=by show _=_;rfl
    obtain ⟨z0,z1,z2,p0,p1,p2,r0,r1,r2⟩:=there3 T1.out
    go_wp2_with fail
    refine bodyPost_ret (v:=.tuple #[fsv a L.length c fu true,.int .i64 7]) (results_cell_two (p:=6) (u:=7) (ty:=30) (b:=w.heap.size+1) (x:=.int .i64 7) rfl rfl rfl (load_fsA w1 (w.heap.size+1) #[.slice a L.length c,.int .i64 fu,.bool true] _ T1.out)) rfl ?_
    rw [HACT.out]
    exact FsErr.same HR.out hlc HC.out ((Below_setCells (b:=w.heap.size+1) (by omega) [.slice a L.length c,.int .i64 fu,.bool true] 0 _ HB1.out).alloc (by rw [size_setCells'];omega) _)
set_option maxRecDepth 20000 in
set_option maxHeartbeats 4000000 in
theorem trunc_fs (a : Option Addr) (c : Nat) (m : FSm) (n : Nat) (s : Int) (w : World) (hr : Rd w w.heap.size a (flF m.files)) (hl : m.files.length ≤ 1000000000) (hlc : m.files.length ≤ c) (hc : c ≤ maxLen) (hf1 : -9223372036854775808 ≤ m.fuse) (hf2 : m.fuse ≤ 9223372036854775807) :
    Calls Tryz.prog 96 #[fsv a m.files.length c m.fuse m.down,.int .u32 (n:Int),.int .i64 s] w (FsErr w a m.files (truncF m n s)):=by
  have HR:=Lib.hid hr;have HC:=Lib.hid hc;clear hr hc
  obtain ⟨L,fu,dn⟩:=m
  simp only at *
  obtain ⟨x,hx⟩:∃ x,x=getF L n:=⟨_,rfl⟩
  have HX:=Lib.hid hx;clear hx
  unfold fsv
  go_enter Tryz.func96,Tryz.ntmps96
  go_wp2_with fail
  obtain ⟨W2,hW2⟩:∃ W2,W2=((w.alloc (.cells #[.slice a L.length c,.int .i64 fu,.bool dn] 30)).alloc (.cells #[.slice none 0 0,.int .i64 0,.bool false] 30)):=⟨_,rfl⟩
  rw [← hW2]
  have HS2:Hid (W2.heap.size=w.heap.size+2):=by show _=_;rw [hW2];simp
  have HB2:Hid (Below w.heap.size w W2):=by show Below _ _ _;rw [hW2];exact (box1 w _).alloc (by simp) _
  have HRES:Hid (W2.there (w.heap.size+1) 0 3):=by
    show W2.there _ _ _;rw [hW2]
    exact there_last _ #[.slice none 0 0,.int .i64 0,.bool false] 30 _ 3 rfl (by simp)
  have C0:Hid (W2.cell? ⟨w.heap.size,0,none⟩=some (.slice a L.length c)):=by show _=_;rw [hW2];go_simp
  have C1:Hid (W2.cell? ⟨w.heap.size,1,none⟩=some (.int .i64 fu)):=by show _=_;rw [hW2];go_simp
  have C2:Hid (W2.cell? ⟨w.heap.size,2,none⟩=some (.bool dn)):=by show _=_;rw [hW2];go_simp
  have HR2:Hid (Rd W2 W2.heap.size a (flF L)):=(HR.out.below HB2.out).more (by rw [HS2.out];omega)
  clear hW2
  refine (refGetF_any a c L fu dn n W2 HR2.out (by omega)).mono ?_
  rw [← HX.out]
  rintro e w1 ⟨rfl,hb1⟩
  have c0:w1.cell? ⟨w.heap.size,0,none⟩=some (.slice a L.length c):=by rw [hb1.cell (p:=⟨w.heap.size,0,none⟩) (by show w.heap.size < _;rw [HS2.out];omega)];exact C0.out
  have c1:w1.cell? ⟨w.heap.size,1,none⟩=some (.int .i64 fu):=by rw [hb1.cell (p:=⟨w.heap.size,1,none⟩) (by show w.heap.size < _;rw [HS2.out];omega)];exact C1.out
  have c2:w1.cell? ⟨w.heap.size,2,none⟩=some (.bool dn):=by rw [hb1.cell (p:=⟨w.heap.size,2,none⟩) (by show w.heap.size < _;rw [HS2.out];omega)];exact C2.out
  have T1:=Lib.hid (there_below HRES.out hb1 (by rw [HS2.out];omega))
  have n0:w.heap.size < w1.heap.size:=by have:=hb1.size;rw [HS2.out] at this;omega
  have n1:w.heap.size+1 < w1.heap.size:=by have:=hb1.size;rw [HS2.out] at this;omega
  have HB1:=Lib.hid (HB2.out.trans (hb1.mono (by rw [HS2.out];omega)))
  clear hb1 C0 C1 C2
  obtain ⟨xn,xt,xk,xw,xs⟩:=x
  unfold Fl.v
  cases dn
  · cases xt
    · skip
      have HACT:Hid (truncF ⟨L,fu,false⟩ n s=(⟨L,fu,false⟩,5)):=by show _=_;unfold truncF;simp only [← HX.out];rfl
      obtain ⟨z0,z1,z2,p0,p1,p2,r0,r1,r2⟩:=there3 T1.out
      go_wp2_with fail
      refine bodyPost_ret (v:=.tuple #[fsv a L.length c fu false,.int .i64 5]) (results_cell_two (p:=6) (u:=7) (ty:=30) (b:=w.heap.size+1) (x:=.int .i64 5) rfl rfl rfl (load_fsA w1 (w.heap.size+1) #[.slice a L.length c,.int .i64 fu,.bool false] _ T1.out)) rfl ?_
      rw [HACT.out]
      exact FsErr.same HR.out hlc HC.out ((Below_setCells (b:=w.heap.size+1) (by omega) [.slice a L.length c,.int .i64 fu,.bool false] 0 _ HB1.out).alloc (by rw [size_setCells'];omega) _)
    · by_cases g1:s < 0
      · have d1:decide (s < 0)=true:=decide_eq_true g1
        have HACT:Hid (truncF ⟨L,fu,false⟩ n s=(⟨L,fu,false⟩,4)):=by show _=_;unfold truncF;simp only [← HX.out];simp [g1]
        obtain ⟨z0,z1,z2,p0,p1,p2,r0,r1,r2⟩:=there3 T1.out
        go_wp2_with fail
        refine bodyPost_ret (v:=.tuple #[fsv a L.length c fu false,.int .i64 4]) (results_cell_two (p:=6) (u:=7) (ty:=30) (b:=w.heap.size+1) (x:=.int .i64 4) rfl rfl rfl (load_fsA w1 (w.heap.size+1) #[.slice a L.length c,.int .i64 fu,.bool false] _ T1.out)) rfl ?_
        rw [HACT.out]
        exact FsErr.same HR.out hlc HC.out ((Below_setCells (b:=w.heap.size+1) (by omega) [.slice a L.length c,.int .i64 fu,.bool false] 0 _ HB1.out).alloc (by rw [size_setCells'];omega) _)
      · obtain ⟨k,rfl⟩:=Int.eq_ofNat_of_zero_le (Int.not_lt.1 g1)
        have d1:decide ((k:Int) < 0)=false:=decide_eq_false g1
        by_cases g2:xw.size < k
        · have d2:decide (xw.size < k)=true:=decide_eq_true g2
          have HACT:Hid (truncF ⟨L,fu,false⟩ n (k:Int)=(⟨L,fu,false⟩,4)):=by show _=_;unfold truncF;simp only [← HX.out];simp [g2]
          obtain ⟨z0,z1,z2,p0,p1,p2,r0,r1,r2⟩:=there3 T1.out
          go_wp2_with fail
          refine bodyPost_ret (v:=.tuple #[fsv a L.length c fu false,.int .i64 4]) (results_cell_two (p:=6) (u:=7) (ty:=30) (b:=w.heap.size+1) (x:=.int .i64 4) rfl rfl rfl (load_fsA w1 (w.heap.size+1) #[.slice a L.length c,.int .i64 fu,.bool false] _ T1.out)) rfl ?_
          rw [HACT.out]
          exact FsErr.same HR.out hlc HC.out ((Below_setCells (b:=w.heap.size+1) (by omega) [.slice a L.length c,.int .i64 fu,.bool false] 0 _ HB1.out).alloc (by rw [size_setCells'];omega) _)
        · have d2:decide (xw.size < k)=false:=decide_eq_false g2
          have d3:(0:Int)≤(k:Int):=by omega
          have d4:(k:Int)≤(xw.size:Int):=by omega
          have d5:k≤xw.size:=by omega
          have HACT:Hid (truncF ⟨L,fu,false⟩ n (k:Int)=actF ⟨L,fu,false⟩ ⟨xn,true,xk,xw.extract 0 k,xs⟩ false):=by show _=_;unfold truncF;simp only [← HX.out];simp [g2,cutF];intro h;omega
          go_wp2_with fail
          obtain ⟨WX,hWX⟩:∃ WX,WX=w1.alloc (.cells #[.int .u32 (xn:Int),.bool true,.bool xk,.string (xw.extract 0 k),.string xs] 86):=⟨_,rfl⟩
          have HBX:Hid (Below w.heap.size w WX):=by show Below _ _ _;rw [hWX];exact HB1.out.alloc (by omega) _
          have HTX:Hid (WX.there (w.heap.size+1) 0 3):=by show WX.there _ _ _;rw [hWX];exact World.there_alloc T1.out _
          have nX:w.heap.size+1 < WX.heap.size:=by rw [hWX];simp;omega
          rw [← hWX]
          clear hWX
          refine (act_fs a c ⟨L,fu,false⟩ (⟨xn,true,xk,xw.extract 0 k,xs⟩) false WX ((HR.out.below HBX.out).more HBX.out.size) hl hlc HC.out hf1 hf2).mono ?_
          rintro e w5 ⟨a5,c5,rfl,q1,q2,q3,q4,q5⟩
          obtain ⟨R,hR⟩:∃ R,R=actF ⟨L,fu,false⟩ (⟨xn,true,xk,xw.extract 0 k,xs⟩) false:=⟨_,rfl⟩
          rw [← hR] at q1 q3 q4 ⊢
          have HRR:=Lib.hid hR
          have T5:=Lib.hid (there_below HTX.out q5 (by omega))
          obtain ⟨z0,z1,z2,p0,p1,p2,r0,r1,r2⟩:=there3 T5.out
          have Q1:=Lib.hid q1;have Q2':=Lib.hid q2;have Q3:=Lib.hid q3;have Q4:=Lib.hid q4;have Q5:=Lib.hid q5
          clear hR q1 q2 q3 q4 q5
          unfold fsv
          go_wp2_with fail
          refine bodyPost_ret (v:=.tuple #[fsv a5 R.1.files.length c5 R.1.fuse R.1.down,.int .i64 R.2]) (results_cell_two (p:=6) (u:=7) (ty:=30) (b:=w.heap.size+1) (x:=.int .i64 R.2) rfl rfl rfl (load_fs w5 (w.heap.size+1) #[.slice a5 R.1.files.length c5,.int .i64 R.1.fuse,.bool R.1.down] T5.out)) rfl ?_
          rw [HACT.out,← HRR.out]
          exact FsErr.acted [.slice a5 R.1.files.length c5,.int .i64 R.1.fuse,.bool R.1.down] HR.out HBX.out (by omega) nX Q1.out Q2'.out Q3.out Q4.out Q5.out
  · skip
    have HACT:Hid (truncF ⟨L,fu,true⟩ n s=(⟨L,fu,true⟩,7)):=by show _=_;rfl
    obtain ⟨z0,z1,z2,p0,p1,p2,r0,r1,r2⟩:=there3 T1.out
    go_wp2_with fail
    refine bodyPost_ret (v:=.tuple #[fsv a L.length c fu true,.int .i64 7]) (results_cell_two (p:=6) (u:=7) (ty:=30) (b:=w.heap.size+1) (x:=.int .i64 7) rfl rfl rfl (load_fsA w1 (w.heap.size+1) #[.slice a L.length c,.int .i64 fu,.bool true] _ T1.out)) rfl ?_
    rw [HACT.out]
    exact FsErr.same HR.out hlc HC.out ((Below_setCells (b:=w.heap.size+1) (by omega) [.slice a L.length c,.int .i64 fu,.bool true] 0 _ HB1.out).alloc (by rw [size_setCells'];omega) _)
end Go.Proofs.YtccbpngehedbaaaGreat

namespace Go.Proofs.YtccbpngehedbaaaGreat
open Go Go.RowKit

set_option maxRecDepth 20000 in
set_option maxHeartbeats 4000000 in
theorem sync_fs (a : Option Addr) (c : Nat) (m : FSm) (n : Nat) (w : World) (hr : Rd w w.heap.size a (flF m.files)) (hl : m.files.length ≤ 1000000000) (hlc : m.files.length ≤ c) (hc : c ≤ maxLen) (hf1 : -9223372036854775808 ≤ m.fuse) (hf2 : m.fuse ≤ 9223372036854775807) :
    Calls Tryz.prog 95 #[fsv a m.files.length c m.fuse m.down,.int .u32 (n:Int)] w (FsErr w a m.files (syncF m n)):=by
  have HR:=Lib.hid hr;have HC:=Lib.hid hc;clear hr hc
  obtain ⟨L,fu,dn⟩:=m
  simp only at *
  obtain ⟨x,hx⟩:∃ x,x=getF L n:=⟨_,rfl⟩
  have HX:=Lib.hid hx;clear hx
  unfold fsv
  go_enter Tryz.func95,Tryz.ntmps95
  go_wp2_with fail
  obtain ⟨W2,hW2⟩:∃ W2,W2=((w.alloc (.cells #[.slice a L.length c,.int .i64 fu,.bool dn] 30)).alloc (.cells #[.slice none 0 0,.int .i64 0,.bool false] 30)):=⟨_,rfl⟩
  rw [← hW2]
  have HS2:Hid (W2.heap.size=w.heap.size+2):=by show _=_;rw [hW2];simp
  have HB2:Hid (Below w.heap.size w W2):=by show Below _ _ _;rw [hW2];exact (box1 w _).alloc (by simp) _
  have HRES:Hid (W2.there (w.heap.size+1) 0 3):=by
    show W2.there _ _ _;rw [hW2]
    exact there_last _ #[.slice none 0 0,.int .i64 0,.bool false] 30 _ 3 rfl (by simp)
  have C0:Hid (W2.cell? ⟨w.heap.size,0,none⟩=some (.slice a L.length c)):=by show _=_;rw [hW2];go_simp
  have C1:Hid (W2.cell? ⟨w.heap.size,1,none⟩=some (.int .i64 fu)):=by show _=_;rw [hW2];go_simp
  have C2:Hid (W2.cell? ⟨w.heap.size,2,none⟩=some (.bool dn)):=by show _=_;rw [hW2];go_simp
  have HR2:Hid (Rd W2 W2.heap.size a (flF L)):=(HR.out.below HB2.out).more (by rw [HS2.out];omega)
  clear hW2
  refine (refGetF_any a c L fu dn n W2 HR2.out (by omega)).mono ?_
  rw [← HX.out]
  rintro e w1 ⟨rfl,hb1⟩
  have c0:w1.cell? ⟨w.heap.size,0,none⟩=some (.slice a L.length c):=by rw [hb1.cell (p:=⟨w.heap.size,0,none⟩) (by show w.heap.size < _;rw [HS2.out];omega)];exact C0.out
  have c1:w1.cell? ⟨w.heap.size,1,none⟩=some (.int .i64 fu):=by rw [hb1.cell (p:=⟨w.heap.size,1,none⟩) (by show w.heap.size < _;rw [HS2.out];omega)];exact C1.out
  have c2:w1.cell? ⟨w.heap.size,2,none⟩=some (.bool dn):=by rw [hb1.cell (p:=⟨w.heap.size,2,none⟩) (by show w.heap.size < _;rw [HS2.out];omega)];exact C2.out
  have T1:=Lib.hid (there_below HRES.out hb1 (by rw [HS2.out];omega))
  have n0:w.heap.size < w1.heap.size:=by have:=hb1.size;rw [HS2.out] at this;omega
  have n1:w.heap.size+1 < w1.heap.size:=by have:=hb1.size;rw [HS2.out] at this;omega
  have HB1:=Lib.hid (HB2.out.trans (hb1.mono (by rw [HS2.out];omega)))
  clear hb1 C0 C1 C2
  obtain ⟨xn,xt,xk,xw,xs⟩:=x
  unfold Fl.v
  cases dn
  · cases xt
    · cases xk
      · skip
        go_wp2_with fail
        obtain ⟨WX,hWX⟩:∃ WX,WX=w1.alloc (.cells #[.int .u32 (xn:Int),.bool false,.bool false,.string xw,.string xs] 86):=⟨_,rfl⟩
        have HBX:Hid (Below w.heap.size w WX):=by show Below _ _ _;rw [hWX];exact HB1.out.alloc (by omega) _
        have HTX:Hid (WX.there (w.heap.size+1) 0 3):=by show WX.there _ _ _;rw [hWX];exact World.there_alloc T1.out _
        have nX:w.heap.size+1 < WX.heap.size:=by rw [hWX];simp;omega
        have c0X:WX.cell? ⟨w.heap.size,0,none⟩=some (.slice a L.length c):=by rw [hWX,World.cell?_alloc_lt _ _ _ (by show w.heap.size < _;omega)];exact c0
        have c1X:WX.cell? ⟨w.heap.size,1,none⟩=some (.int .i64 fu):=by rw [hWX,World.cell?_alloc_lt _ _ _ (by show w.heap.size < _;omega)];exact c1
        have c2X:WX.cell? ⟨w.heap.size,2,none⟩=some (.bool false):=by rw [hWX,World.cell?_alloc_lt _ _ _ (by show w.heap.size < _;omega)];exact c2
        have hxX:FlAt WX w1.heap.size 0 ⟨xn,false,false,xw,xs⟩:=by rw [hWX];exact FlAt.new w1 ⟨xn,false,false,xw,xs⟩ _ _ rfl
        have s1X:w1.heap.size < WX.heap.size:=by rw [hWX];simp
        have t9X:WX.there w1.heap.size 0 5:=by rw [hWX];exact there_last w1 #[.int .u32 (xn:Int),.bool false,.bool false,.string xw,.string xs] _ _ 5 rfl rfl
        rw [← hWX]
        clear hWX c0 c1 c2
        refine (loose_is (x:=⟨xn,false,false,xw,xs⟩) (b:=false) (by simp [looseF]) WX).mono ?_
        rintro e w2 ⟨rfl,hb2⟩
        have c0:w2.cell? ⟨w.heap.size,0,none⟩=some (.slice a L.length c):=by rw [hb2.cell (p:=⟨w.heap.size,0,none⟩) (by show w.heap.size < _;omega)];exact c0X
        have c1:w2.cell? ⟨w.heap.size,1,none⟩=some (.int .i64 fu):=by rw [hb2.cell (p:=⟨w.heap.size,1,none⟩) (by show w.heap.size < _;omega)];exact c1X
        have c2:w2.cell? ⟨w.heap.size,2,none⟩=some (.bool false):=by rw [hb2.cell (p:=⟨w.heap.size,2,none⟩) (by show w.heap.size < _;omega)];exact c2X
        obtain ⟨x0,x1,x2,x3,x4⟩:=hxX.below hb2 s1X
        have T2:=Lib.hid (there_below HTX.out hb2 (by omega))
        have n2:w.heap.size+1 < w2.heap.size:=by have:=hb2.size;omega
        have HB2':=Lib.hid (HBX.out.trans (hb2.mono HBX.out.size))
        have s2X:w1.heap.size < w2.heap.size:=by have:=hb2.size;omega
        have HTW:=Lib.hid (⟨s2X,hb2,s1X⟩:w1.heap.size < w2.heap.size∧Below WX.heap.size WX w2∧w1.heap.size < WX.heap.size)
        have T9:=Lib.hid (there_below t9X hb2 s1X)
        clear hb2 c0X c1X c2X hxX HTX nX t9X
        have HACT:Hid (syncF ⟨L,fu,false⟩ n=(⟨L,fu,false⟩,5)):=by show _=_;unfold syncF;simp only [← HX.out];simp [looseF]
        obtain ⟨z0,z1,z2,p0,p1,p2,r0,r1,r2⟩:=there3 T2.out
        go_wp2_with fail
        refine bodyPost_ret (v:=.tuple #[fsv a L.length c fu false,.int .i64 5]) (results_cell_two (p:=4) (u:=5) (ty:=30) (b:=w.heap.size+1) (x:=.int .i64 5) rfl rfl rfl (load_fs w2 (w.heap.size+1) #[.slice a L.length c,.int .i64 fu,.bool false] T2.out)) rfl ?_
        rw [HACT.out]
        exact FsErr.same HR.out hlc HC.out (Below_setCells (b:=w.heap.size+1) (by omega) [.slice a L.length c,.int .i64 fu,.bool false] 0 _ HB2'.out)
      · skip
        go_wp2_with fail
        obtain ⟨WX,hWX⟩:∃ WX,WX=w1.alloc (.cells #[.int .u32 (xn:Int),.bool false,.bool true,.string xw,.string xs] 86):=⟨_,rfl⟩
        have HBX:Hid (Below w.heap.size w WX):=by show Below _ _ _;rw [hWX];exact HB1.out.alloc (by omega) _
        have HTX:Hid (WX.there (w.heap.size+1) 0 3):=by show WX.there _ _ _;rw [hWX];exact World.there_alloc T1.out _
        have nX:w.heap.size+1 < WX.heap.size:=by rw [hWX];simp;omega
        have c0X:WX.cell? ⟨w.heap.size,0,none⟩=some (.slice a L.length c):=by rw [hWX,World.cell?_alloc_lt _ _ _ (by show w.heap.size < _;omega)];exact c0
        have c1X:WX.cell? ⟨w.heap.size,1,none⟩=some (.int .i64 fu):=by rw [hWX,World.cell?_alloc_lt _ _ _ (by show w.heap.size < _;omega)];exact c1
        have c2X:WX.cell? ⟨w.heap.size,2,none⟩=some (.bool false):=by rw [hWX,World.cell?_alloc_lt _ _ _ (by show w.heap.size < _;omega)];exact c2
        have hxX:FlAt WX w1.heap.size 0 ⟨xn,false,true,xw,xs⟩:=by rw [hWX];exact FlAt.new w1 ⟨xn,false,true,xw,xs⟩ _ _ rfl
        have s1X:w1.heap.size < WX.heap.size:=by rw [hWX];simp
        have t9X:WX.there w1.heap.size 0 5:=by rw [hWX];exact there_last w1 #[.int .u32 (xn:Int),.bool false,.bool true,.string xw,.string xs] _ _ 5 rfl rfl
        rw [← hWX]
        clear hWX c0 c1 c2
        refine (loose_is (x:=⟨xn,false,true,xw,xs⟩) (b:=true) (by simp [looseF]) WX).mono ?_
        rintro e w2 ⟨rfl,hb2⟩
        have c0:w2.cell? ⟨w.heap.size,0,none⟩=some (.slice a L.length c):=by rw [hb2.cell (p:=⟨w.heap.size,0,none⟩) (by show w.heap.size < _;omega)];exact c0X
        have c1:w2.cell? ⟨w.heap.size,1,none⟩=some (.int .i64 fu):=by rw [hb2.cell (p:=⟨w.heap.size,1,none⟩) (by show w.heap.size < _;omega)];exact c1X
        have c2:w2.cell? ⟨w.heap.size,2,none⟩=some (.bool false):=by rw [hb2.cell (p:=⟨w.heap.size,2,none⟩) (by show w.heap.size < _;omega)];exact c2X
        obtain ⟨x0,x1,x2,x3,x4⟩:=hxX.below hb2 s1X
        have T2:=Lib.hid (there_below HTX.out hb2 (by omega))
        have n2:w.heap.size+1 < w2.heap.size:=by have:=hb2.size;omega
        have HB2':=Lib.hid (HBX.out.trans (hb2.mono HBX.out.size))
        have s2X:w1.heap.size < w2.heap.size:=by have:=hb2.size;omega
        have HTW:=Lib.hid (⟨s2X,hb2,s1X⟩:w1.heap.size < w2.heap.size∧Below WX.heap.size WX w2∧w1.heap.size < WX.heap.size)
        have T9:=Lib.hid (there_below t9X hb2 s1X)
        clear hb2 c0X c1X c2X hxX HTX nX t9X
        have HACT:Hid (syncF ⟨L,fu,false⟩ n=actF ⟨L,fu,false⟩ ⟨xn,false,false,xw,⟨#[]⟩⟩ true):=by show _=_;unfold syncF;simp only [← HX.out];simp [looseF,syncedF];rfl
        have f2:w2.frozen? ⟨w1.heap.size,2,none⟩=false:=by have:=(T9.out 2 (by omega)).2;simpa using this
        have f4:w2.frozen? ⟨w1.heap.size,4,none⟩=false:=by have:=(T9.out 4 (by omega)).2;simpa using this
        have e4:(((w2.setCell ⟨w1.heap.size,2,none⟩ (.bool false)).setCell ⟨w1.heap.size,4,none⟩ (.string xw)).setCell ⟨w1.heap.size,4,none⟩ (.string ⟨#[]⟩)).cell? ⟨w1.heap.size,4,none⟩=some (.string ⟨#[]⟩) :=
          World.cell?_setCell_same _ _ _ (World.cell?_setCell_same _ _ _ (u:=.string xs) (by rw [World.cell?_setCell_other _ _ _ _ (by simp)];simpa using x4))
        go_wp2_with fail
        obtain ⟨WX,hWX⟩:∃ WX,WX=(((w2.setCell ⟨w1.heap.size,2,none⟩ (.bool false)).setCell ⟨w1.heap.size,4,none⟩ (.string xw)).setCell ⟨w1.heap.size,4,none⟩ (.string ⟨#[]⟩)):=⟨_,rfl⟩
        have HBX:Hid (Below w.heap.size w WX):=by show Below _ _ _;rw [hWX];exact ((HB2'.out.setCell (by show w.heap.size≤w1.heap.size;omega) _).setCell (by show w.heap.size≤w1.heap.size;omega) _).setCell (by show w.heap.size≤w1.heap.size;omega) _
        have HTX:Hid (WX.there (w.heap.size+1) 0 3):=by show WX.there _ _ _;rw [hWX];exact World.there_setCells (World.there_setCells (World.there_setCells T2.out w1.heap.size 2 [.bool false]) w1.heap.size 4 [.string xw]) w1.heap.size 4 [.string ⟨#[]⟩]
        have nX:w.heap.size+1 < WX.heap.size:=by rw [hWX];simp;omega
        rw [← hWX]
        clear hWX e4
        refine (act_fs a c ⟨L,fu,false⟩ (⟨xn,false,false,xw,⟨#[]⟩⟩) true WX ((HR.out.below HBX.out).more HBX.out.size) hl hlc HC.out hf1 hf2).mono ?_
        rintro e w5 ⟨a5,c5,rfl,q1,q2,q3,q4,q5⟩
        obtain ⟨R,hR⟩:∃ R,R=actF ⟨L,fu,false⟩ (⟨xn,false,false,xw,⟨#[]⟩⟩) true:=⟨_,rfl⟩
        rw [← hR] at q1 q3 q4 ⊢
        have HRR:=Lib.hid hR
        have T5:=Lib.hid (there_below HTX.out q5 (by omega))
        obtain ⟨z0,z1,z2,p0,p1,p2,r0,r1,r2⟩:=there3 T5.out
        have Q1:=Lib.hid q1;have Q2':=Lib.hid q2;have Q3:=Lib.hid q3;have Q4:=Lib.hid q4;have Q5:=Lib.hid q5
        clear hR q1 q2 q3 q4 q5
        unfold fsv
        go_wp2_with fail
        refine bodyPost_ret (v:=.tuple #[fsv a5 R.1.files.length c5 R.1.fuse R.1.down,.int .i64 R.2]) (results_cell_two (p:=4) (u:=5) (ty:=30) (b:=w.heap.size+1) (x:=.int .i64 R.2) rfl rfl rfl (load_fs w5 (w.heap.size+1) #[.slice a5 R.1.files.length c5,.int .i64 R.1.fuse,.bool R.1.down] T5.out)) rfl ?_
        rw [HACT.out,← HRR.out]
        exact FsErr.acted [.slice a5 R.1.files.length c5,.int .i64 R.1.fuse,.bool R.1.down] HR.out HBX.out (by omega) nX Q1.out Q2'.out Q3.out Q4.out Q5.out
    · skip
      have HACT:Hid (syncF ⟨L,fu,false⟩ n=actF ⟨L,fu,false⟩ ⟨xn,true,true,xw,xw⟩ true):=by show _=_;unfold syncF;simp only [← HX.out];simp [syncedF]
      go_wp2_with fail
      obtain ⟨WX,hWX⟩:∃ WX,WX=w1.alloc (.cells #[.int .u32 (xn:Int),.bool true,.bool true,.string xw,.string xw] 86):=⟨_,rfl⟩
      have HBX:Hid (Below w.heap.size w WX):=by show Below _ _ _;rw [hWX];exact HB1.out.alloc (by omega) _
      have HTX:Hid (WX.there (w.heap.size+1) 0 3):=by show WX.there _ _ _;rw [hWX];exact World.there_alloc T1.out _
      have nX:w.heap.size+1 < WX.heap.size:=by rw [hWX];simp;omega
      rw [← hWX]
      clear hWX
      refine (act_fs a c ⟨L,fu,false⟩ (⟨xn,true,true,xw,xw⟩) true WX ((HR.out.below HBX.out).more HBX.out.size) hl hlc HC.out hf1 hf2).mono ?_
      rintro e w5 ⟨a5,c5,rfl,q1,q2,q3,q4,q5⟩
      obtain ⟨R,hR⟩:∃ R,R=actF ⟨L,fu,false⟩ (⟨xn,true,true,xw,xw⟩) true:=⟨_,rfl⟩
      rw [← hR] at q1 q3 q4 ⊢
      have HRR:=Lib.hid hR
      have T5:=Lib.hid (there_below HTX.out q5 (by omega))
      obtain ⟨z0,z1,z2,p0,p1,p2,r0,r1,r2⟩:=there3 T5.out
      have Q1:=Lib.hid q1;have Q2':=Lib.hid q2;have Q3:=Lib.hid q3;have Q4:=Lib.hid q4;have Q5:=Lib.hid q5
      clear hR q1 q2 q3 q4 q5
      unfold fsv
      go_wp2_with fail
      refine bodyPost_ret (v:=.tuple #[fsv a5 R.1.files.length c5 R.1.fuse R.1.down,.int .i64 R.2]) (results_cell_two (p:=4) (u:=5) (ty:=30) (b:=w.heap.size+1) (x:=.int .i64 R.2) rfl rfl rfl (load_fs w5 (w.heap.size+1) #[.slice a5 R.1.files.length c5,.int .i64 R.1.fuse,.bool R.1.down] T5.out)) rfl ?_
      rw [HACT.out,← HRR.out]
      exact FsErr.acted [.slice a5 R.1.files.length c5,.int .i64 R.1.fuse,.bool R.1.down] HR.out HBX.out (by omega) nX Q1.out Q2'.out Q3.out Q4.out Q5.out
  · skip
    have HACT:Hid (syncF ⟨L,fu,true⟩ n=(⟨L,fu,true⟩,7)):=by show _=_;rfl
    obtain ⟨z0,z1,z2,p0,p1,p2,r0,r1,r2⟩:=there3 T1.out
    go_wp2_with fail
    refine bodyPost_ret (v:=.tuple #[fsv a L.length c fu true,.int .i64 7]) (results_cell_two (p:=4) (u:=5) (ty:=30) (b:=w.heap.size+1) (x:=.int .i64 7) rfl rfl rfl (load_fsA w1 (w.heap.size+1) #[.slice a L.length c,.int .i64 fu,.bool true] _ T1.out)) rfl ?_
    rw [HACT.out]
    exact FsErr.same HR.out hlc HC.out ((Below_setCells (b:=w.heap.size+1) (by omega) [.slice a L.length c,.int .i64 fu,.bool true] 0 _ HB1.out).alloc (by rw [size_setCells'];omega) _)
set_option maxRecDepth 20000 in
set_option maxHeartbeats 4000000 in
theorem create_fs (a : Option Addr) (c : Nat) (m : FSm) (n : Nat) (w : World) (hr : Rd w w.heap.size a (flF m.files)) (hl : m.files.length ≤ 1000000000) (hlc : m.files.length ≤ c) (hc : c ≤ maxLen) (hf1 : -9223372036854775808 ≤ m.fuse) (hf2 : m.fuse ≤ 9223372036854775807) :
    Calls Tryz.prog 11 #[fsv a m.files.length c m.fuse m.down,.int .u32 (n:Int)] w (FsErr w a m.files (createF m n)):=by
  have HR:=Lib.hid hr;have HC:=Lib.hid hc;clear hr hc
  obtain ⟨L,fu,dn⟩:=m
  simp only at *
  obtain ⟨x,hx⟩:∃ x,x=getF L n:=⟨_,rfl⟩
  have HX:=Lib.hid hx;clear hx
  unfold fsv
  go_enter Tryz.func11,Tryz.ntmps11
  go_wp2_with fail
  obtain ⟨W2,hW2⟩:∃ W2,W2=((w.alloc (.cells #[.slice a L.length c,.int .i64 fu,.bool dn] 30)).alloc (.cells #[.slice none 0 0,.int .i64 0,.bool false] 30)):=⟨_,rfl⟩
  rw [← hW2]
  have HS2:Hid (W2.heap.size=w.heap.size+2):=by show _=_;rw [hW2];simp
  have HB2:Hid (Below w.heap.size w W2):=by show Below _ _ _;rw [hW2];exact (box1 w _).alloc (by simp) _
  have HRES:Hid (W2.there (w.heap.size+1) 0 3):=by
    show W2.there _ _ _;rw [hW2]
    exact there_last _ #[.slice none 0 0,.int .i64 0,.bool false] 30 _ 3 rfl (by simp)
  have C0:Hid (W2.cell? ⟨w.heap.size,0,none⟩=some (.slice a L.length c)):=by show _=_;rw [hW2];go_simp
  have C1:Hid (W2.cell? ⟨w.heap.size,1,none⟩=some (.int .i64 fu)):=by show _=_;rw [hW2];go_simp
  have C2:Hid (W2.cell? ⟨w.heap.size,2,none⟩=some (.bool dn)):=by show _=_;rw [hW2];go_simp
  have HR2:Hid (Rd W2 W2.heap.size a (flF L)):=(HR.out.below HB2.out).more (by rw [HS2.out];omega)
  clear hW2
  refine (refGetF_any a c L fu dn n W2 HR2.out (by omega)).mono ?_
  rw [← HX.out]
  rintro e w1 ⟨rfl,hb1⟩
  have c0:w1.cell? ⟨w.heap.size,0,none⟩=some (.slice a L.length c):=by rw [hb1.cell (p:=⟨w.heap.size,0,none⟩) (by show w.heap.size < _;rw [HS2.out];omega)];exact C0.out
  have c1:w1.cell? ⟨w.heap.size,1,none⟩=some (.int .i64 fu):=by rw [hb1.cell (p:=⟨w.heap.size,1,none⟩) (by show w.heap.size < _;rw [HS2.out];omega)];exact C1.out
  have c2:w1.cell? ⟨w.heap.size,2,none⟩=some (.bool dn):=by rw [hb1.cell (p:=⟨w.heap.size,2,none⟩) (by show w.heap.size < _;rw [HS2.out];omega)];exact C2.out
  have T1:=Lib.hid (there_below HRES.out hb1 (by rw [HS2.out];omega))
  have n0:w.heap.size < w1.heap.size:=by have:=hb1.size;rw [HS2.out] at this;omega
  have n1:w.heap.size+1 < w1.heap.size:=by have:=hb1.size;rw [HS2.out] at this;omega
  have HB1:=Lib.hid (HB2.out.trans (hb1.mono (by rw [HS2.out];omega)))
  clear hb1 C0 C1 C2
  obtain ⟨xn,xt,xk,xw,xs⟩:=x
  unfold Fl.v
  cases dn
  · cases xt
    · cases xk
      · skip
        go_wp2_with fail
        obtain ⟨WX,hWX⟩:∃ WX,WX=w1.alloc (.cells #[.int .u32 (xn:Int),.bool false,.bool false,.string xw,.string xs] 86):=⟨_,rfl⟩
        have HBX:Hid (Below w.heap.size w WX):=by show Below _ _ _;rw [hWX];exact HB1.out.alloc (by omega) _
        have HTX:Hid (WX.there (w.heap.size+1) 0 3):=by show WX.there _ _ _;rw [hWX];exact World.there_alloc T1.out _
        have nX:w.heap.size+1 < WX.heap.size:=by rw [hWX];simp;omega
        have c0X:WX.cell? ⟨w.heap.size,0,none⟩=some (.slice a L.length c):=by rw [hWX,World.cell?_alloc_lt _ _ _ (by show w.heap.size < _;omega)];exact c0
        have c1X:WX.cell? ⟨w.heap.size,1,none⟩=some (.int .i64 fu):=by rw [hWX,World.cell?_alloc_lt _ _ _ (by show w.heap.size < _;omega)];exact c1
        have c2X:WX.cell? ⟨w.heap.size,2,none⟩=some (.bool false):=by rw [hWX,World.cell?_alloc_lt _ _ _ (by show w.heap.size < _;omega)];exact c2
        have hxX:FlAt WX w1.heap.size 0 ⟨xn,false,false,xw,xs⟩:=by rw [hWX];exact FlAt.new w1 ⟨xn,false,false,xw,xs⟩ _ _ rfl
        have s1X:w1.heap.size < WX.heap.size:=by rw [hWX];simp
        have t9X:WX.there w1.heap.size 0 5:=by rw [hWX];exact there_last w1 #[.int .u32 (xn:Int),.bool false,.bool false,.string xw,.string xs] _ _ 5 rfl rfl
        rw [← hWX]
        clear hWX c0 c1 c2
        refine (loose_is (x:=⟨xn,false,false,xw,xs⟩) (b:=false) (by simp [looseF]) WX).mono ?_
        rintro e w2 ⟨rfl,hb2⟩
        have c0:w2.cell? ⟨w.heap.size,0,none⟩=some (.slice a L.length c):=by rw [hb2.cell (p:=⟨w.heap.size,0,none⟩) (by show w.heap.size < _;omega)];exact c0X
        have c1:w2.cell? ⟨w.heap.size,1,none⟩=some (.int .i64 fu):=by rw [hb2.cell (p:=⟨w.heap.size,1,none⟩) (by show w.heap.size < _;omega)];exact c1X
        have c2:w2.cell? ⟨w.heap.size,2,none⟩=some (.bool false):=by rw [hb2.cell (p:=⟨w.heap.size,2,none⟩) (by show w.heap.size < _;omega)];exact c2X
        obtain ⟨x0,x1,x2,x3,x4⟩:=hxX.below hb2 s1X
        have T2:=Lib.hid (there_below HTX.out hb2 (by omega))
        have n2:w.heap.size+1 < w2.heap.size:=by have:=hb2.size;omega
        have HB2':=Lib.hid (HBX.out.trans (hb2.mono HBX.out.size))
        have s2X:w1.heap.size < w2.heap.size:=by have:=hb2.size;omega
        have HTW:=Lib.hid (⟨s2X,hb2,s1X⟩:w1.heap.size < w2.heap.size∧Below WX.heap.size WX w2∧w1.heap.size < WX.heap.size)
        have T9:=Lib.hid (there_below t9X hb2 s1X)
        clear hb2 c0X c1X c2X hxX HTX nX t9X
        go_wp2_with fail
        refine (list_fs a c L fu false w2 ((HR.out.below HB2'.out).more HB2'.out.size) hl).mono ?_
        rintro e w3 ⟨a3,c3,rfl,_,_,_,_,hb3⟩
        have c0':w3.cell? ⟨w.heap.size,0,none⟩=some (.slice a L.length c):=by rw [hb3.cell (p:=⟨w.heap.size,0,none⟩) (by show w.heap.size < _;omega)];exact c0
        have c1':w3.cell? ⟨w.heap.size,1,none⟩=some (.int .i64 fu):=by rw [hb3.cell (p:=⟨w.heap.size,1,none⟩) (by show w.heap.size < _;omega)];exact c1
        have c2':w3.cell? ⟨w.heap.size,2,none⟩=some (.bool false):=by rw [hb3.cell (p:=⟨w.heap.size,2,none⟩) (by show w.heap.size < _;omega)];exact c2
        have T3:=Lib.hid (there_below T2.out hb3 (by omega))
        have n3:w.heap.size+1 < w3.heap.size:=by have:=hb3.size;omega
        have HB3':=Lib.hid (HB2'.out.trans (hb3.mono HB2'.out.size))
        obtain ⟨N,hN⟩:∃ N,N=(numsF false L).length:=⟨_,rfl⟩
        rw [← hN]
        have HNN:=Lib.hid hN
        clear hb3 c0 c1 c2 x0 x1 x2 x3 x4 hN
        by_cases g:63 < N
        · skip
          have HACT:Hid (createF ⟨L,fu,false⟩ n=(⟨L,fu,false⟩,6)):=by show _=_;unfold createF;simp only [← HX.out];simp [looseF,← HNN.out,g]
          obtain ⟨z0,z1,z2,p0,p1,p2,r0,r1,r2⟩:=there3 T3.out
          go_wp2_with fail
          refine bodyPost_ret (v:=.tuple #[fsv a L.length c fu false,.int .i64 6]) (results_cell_two (p:=4) (u:=5) (ty:=30) (b:=w.heap.size+1) (x:=.int .i64 6) rfl rfl rfl (load_fs w3 (w.heap.size+1) #[.slice a L.length c,.int .i64 fu,.bool false] T3.out)) rfl ?_
          rw [HACT.out]
          exact FsErr.same HR.out hlc HC.out (Below_setCells (b:=w.heap.size+1) (by omega) [.slice a L.length c,.int .i64 fu,.bool false] 0 _ HB3'.out)
        · skip
          have HACT:Hid (createF ⟨L,fu,false⟩ n=actF ⟨L,fu,false⟩ ⟨n,true,false,⟨#[]⟩,⟨#[]⟩⟩ false):=by show _=_;unfold createF;simp only [← HX.out];simp [looseF,← HNN.out,g];rfl
          go_wp2_with fail
          have HTX:=T3
          have HBX:=HB3'
          have nX:=n3
          refine (act_fs a c ⟨L,fu,false⟩ (⟨n,true,false,⟨#[]⟩,⟨#[]⟩⟩) false w3 ((HR.out.below HBX.out).more HBX.out.size) hl hlc HC.out hf1 hf2).mono ?_
          rintro e w5 ⟨a5,c5,rfl,q1,q2,q3,q4,q5⟩
          obtain ⟨R,hR⟩:∃ R,R=actF ⟨L,fu,false⟩ (⟨n,true,false,⟨#[]⟩,⟨#[]⟩⟩) false:=⟨_,rfl⟩
          rw [← hR] at q1 q3 q4 ⊢
          have HRR:=Lib.hid hR
          have T5:=Lib.hid (there_below HTX.out q5 (by omega))
          obtain ⟨z0,z1,z2,p0,p1,p2,r0,r1,r2⟩:=there3 T5.out
          have Q1:=Lib.hid q1;have Q2':=Lib.hid q2;have Q3:=Lib.hid q3;have Q4:=Lib.hid q4;have Q5:=Lib.hid q5
          clear hR q1 q2 q3 q4 q5
          unfold fsv
          go_wp2_with fail
          refine bodyPost_ret (v:=.tuple #[fsv a5 R.1.files.length c5 R.1.fuse R.1.down,.int .i64 R.2]) (results_cell_two (p:=4) (u:=5) (ty:=30) (b:=w.heap.size+1) (x:=.int .i64 R.2) rfl rfl rfl (load_fs w5 (w.heap.size+1) #[.slice a5 R.1.files.length c5,.int .i64 R.1.fuse,.bool R.1.down] T5.out)) rfl ?_
          rw [HACT.out,← HRR.out]
          exact FsErr.acted [.slice a5 R.1.files.length c5,.int .i64 R.1.fuse,.bool R.1.down] HR.out HBX.out (by omega) nX Q1.out Q2'.out Q3.out Q4.out Q5.out
      · skip
        go_wp2_with fail
        obtain ⟨WX,hWX⟩:∃ WX,WX=w1.alloc (.cells #[.int .u32 (xn:Int),.bool false,.bool true,.string xw,.string xs] 86):=⟨_,rfl⟩
        have HBX:Hid (Below w.heap.size w WX):=by show Below _ _ _;rw [hWX];exact HB1.out.alloc (by omega) _
        have HTX:Hid (WX.there (w.heap.size+1) 0 3):=by show WX.there _ _ _;rw [hWX];exact World.there_alloc T1.out _
        have nX:w.heap.size+1 < WX.heap.size:=by rw [hWX];simp;omega
        have c0X:WX.cell? ⟨w.heap.size,0,none⟩=some (.slice a L.length c):=by rw [hWX,World.cell?_alloc_lt _ _ _ (by show w.heap.size < _;omega)];exact c0
        have c1X:WX.cell? ⟨w.heap.size,1,none⟩=some (.int .i64 fu):=by rw [hWX,World.cell?_alloc_lt _ _ _ (by show w.heap.size < _;omega)];exact c1
        have c2X:WX.cell? ⟨w.heap.size,2,none⟩=some (.bool false):=by rw [hWX,World.cell?_alloc_lt _ _ _ (by show w.heap.size < _;omega)];exact c2
        have hxX:FlAt WX w1.heap.size 0 ⟨xn,false,true,xw,xs⟩:=by rw [hWX];exact FlAt.new w1 ⟨xn,false,true,xw,xs⟩ _ _ rfl
        have s1X:w1.heap.size < WX.heap.size:=by rw [hWX];simp
        have t9X:WX.there w1.heap.size 0 5:=by rw [hWX];exact there_last w1 #[.int .u32 (xn:Int),.bool false,.bool true,.string xw,.string xs] _ _ 5 rfl rfl
        rw [← hWX]
        clear hWX c0 c1 c2
        refine (loose_is (x:=⟨xn,false,true,xw,xs⟩) (b:=true) (by simp [looseF]) WX).mono ?_
        rintro e w2 ⟨rfl,hb2⟩
        have c0:w2.cell? ⟨w.heap.size,0,none⟩=some (.slice a L.length c):=by rw [hb2.cell (p:=⟨w.heap.size,0,none⟩) (by show w.heap.size < _;omega)];exact c0X
        have c1:w2.cell? ⟨w.heap.size,1,none⟩=some (.int .i64 fu):=by rw [hb2.cell (p:=⟨w.heap.size,1,none⟩) (by show w.heap.size < _;omega)];exact c1X
        have c2:w2.cell? ⟨w.heap.size,2,none⟩=some (.bool false):=by rw [hb2.cell (p:=⟨w.heap.size,2,none⟩) (by show w.heap.size < _;omega)];exact c2X
        obtain ⟨x0,x1,x2,x3,x4⟩:=hxX.below hb2 s1X
        have T2:=Lib.hid (there_below HTX.out hb2 (by omega))
        have n2:w.heap.size+1 < w2.heap.size:=by have:=hb2.size;omega
        have HB2':=Lib.hid (HBX.out.trans (hb2.mono HBX.out.size))
        have s2X:w1.heap.size < w2.heap.size:=by have:=hb2.size;omega
        have HTW:=Lib.hid (⟨s2X,hb2,s1X⟩:w1.heap.size < w2.heap.size∧Below WX.heap.size WX w2∧w1.heap.size < WX.heap.size)
        have T9:=Lib.hid (there_below t9X hb2 s1X)
        clear hb2 c0X c1X c2X hxX HTX nX t9X
        have HACT:Hid (createF ⟨L,fu,false⟩ n=(⟨L,fu,false⟩,9)):=by show _=_;unfold createF;simp only [← HX.out];simp [looseF]
        obtain ⟨z0,z1,z2,p0,p1,p2,r0,r1,r2⟩:=there3 T2.out
        go_wp2_with fail
        refine bodyPost_ret (v:=.tuple #[fsv a L.length c fu false,.int .i64 9]) (results_cell_two (p:=4) (u:=5) (ty:=30) (b:=w.heap.size+1) (x:=.int .i64 9) rfl rfl rfl (load_fs w2 (w.heap.size+1) #[.slice a L.length c,.int .i64 fu,.bool false] T2.out)) rfl ?_
        rw [HACT.out]
        exact FsErr.same HR.out hlc HC.out (Below_setCells (b:=w.heap.size+1) (by omega) [.slice a L.length c,.int .i64 fu,.bool false] 0 _ HB2'.out)
    · skip
      have HACT:Hid (createF ⟨L,fu,false⟩ n=(⟨L,fu,false⟩,9)):=by show _=_;unfold createF;simp only [← HX.out];simp
      obtain ⟨z0,z1,z2,p0,p1,p2,r0,r1,r2⟩:=there3 T1.out
      go_wp2_with fail
      refine bodyPost_ret (v:=.tuple #[fsv a L.length c fu false,.int .i64 9]) (results_cell_two (p:=4) (u:=5) (ty:=30) (b:=w.heap.size+1) (x:=.int .i64 9) rfl rfl rfl (load_fsA w1 (w.heap.size+1) #[.slice a L.length c,.int .i64 fu,.bool false] _ T1.out)) rfl ?_
      rw [HACT.out]
      exact FsErr.same HR.out hlc HC.out ((Below_setCells (b:=w.heap.size+1) (by omega) [.slice a L.length c,.int .i64 fu,.bool false] 0 _ HB1.out).alloc (by rw [size_setCells'];omega) _)
  · skip
    have HACT:Hid (createF ⟨L,fu,true⟩ n=(⟨L,fu,true⟩,7)):=by show _=_;rfl
    obtain ⟨z0,z1,z2,p0,p1,p2,r0,r1,r2⟩:=there3 T1.out
    go_wp2_with fail
    refine bodyPost_ret (v:=.tuple #[fsv a L.length c fu true,.int .i64 7]) (results_cell_two (p:=4) (u:=5) (ty:=30) (b:=w.heap.size+1) (x:=.int .i64 7) rfl rfl rfl (load_fsA w1 (w.heap.size+1) #[.slice a L.length c,.int .i64 fu,.bool true] _ T1.out)) rfl ?_
    rw [HACT.out]
    exact FsErr.same HR.out hlc HC.out ((Below_setCells (b:=w.heap.size+1) (by omega) [.slice a L.length c,.int .i64 fu,.bool true] 0 _ HB1.out).alloc (by rw [size_setCells'];omega) _)
theorem new_fs (w:World):Calls Tryz.prog 8 #[] w fun e w'=>e=.returned (fsv none 0 0 (-1) false)∧Below w.heap.size w w':=by
  go_enter Tryz.func8,Tryz.ntmps8
  go_wp2_with fail
  have hr2:(w.alloc (.cells #[.slice none 0 0,.int .i64 (-1),.bool false] 30)).rangeAt w.heap.size 0 [.slice none 0 0,.int .i64 (-1),.bool false]:=rangeAt_last _ #[.slice none 0 0,.int .i64 (-1),.bool false] _ _ rfl
  refine bodyPost_ret (v:=fsv none 0 0 (-1) false) (results_cell (p:=0) (ty:=30) (b:=w.heap.size) rfl rfl (run_loadVar_mid (P:=Tryz.prog) _ w.heap.size 0 30 _ _ hr2 Tryz.underlying30 rfl size_fs)) rfl ?_
  exact ⟨rfl,box1 _ _⟩
end Go.Proofs.YtccbpngehedbaaaGreat

