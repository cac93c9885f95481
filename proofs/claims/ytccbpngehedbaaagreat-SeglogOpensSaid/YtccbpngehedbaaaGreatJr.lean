import Derived.Test.YtccbpngehedbaaaGreatJq
import Derived.Sort.Walk13
import Derived.Sort.WalkD1
import Derived.Sort.Walk7
import Derived.Shelf.Small.Bits
import Derived.Laws.Bits64b
namespace Go.Proofs.YtccbpngehedbaaaGreat
open Go Go.RowKit Go.Sort

/-! The library's sort at []uint32: the pivot is chosen. -/
theorem less_is {x y:Int} {b:Bool} (h:ltInt x y=b) (w:World):Calls Tryz.prog 146 #[.int .u32 x,.int .u32 y] w fun e w'=>e=.returned (.bool b)∧Below w.heap.size w w':=by
  subst h;exact less_any x y w
/-- The counter of exchanges: a block of its own. -/
def Cnt (w0 w:World) (s c:Nat):Prop:=w0.heap.size≤s∧w.heap[s]?=some (.cells #[.int .i64 (c:Int)] 3)
theorem cnt_below {w0 w w':World} {s c:Nat} (h:Cnt w0 w s c) (hb:Below w.heap.size w w'):Cnt w0 w' s c:=⟨h.1,by rw [hb.block s (Array.getElem?_eq_some_iff.1 h.2).1];exact h.2⟩
theorem Srt.aside {w0 w:World} {blk off:Nat} {d:Array Int} (h:Srt w0 w blk off d) {s:Nat} (hs:w0.heap.size≤s) (v:Value):Srt w0 (w.setCell ⟨s,0,none⟩ v) blk off d:=by
  obtain ⟨cs,cs',e,fr,a1,a2,a3⟩:=h.shape
  have hbl:=(Array.getElem?_eq_some_iff.1 a1).1
  have hne:s ≠ blk:=by omega
  refine ⟨fun j hj=>?_,⟨h.grown.os,h.grown.tape,h.grown.output,by simp [World.setCell];exact h.grown.size,fun k hk hn=>(set_other 0 v (by omega)).trans (h.grown.block k hk hn)⟩,cs,cs',e,fr,a1,?_,a3⟩
  · rw [World.cell?_setCell_other _ _ _ _ (fun e=>hne (by injection e)),World.frozen?_setCell];exact h.holds j hj
  · rw [set_other 0 v (Ne.symm hne)];exact a2
theorem Cnt.set {w0 w:World} {s c:Nat} (h:Cnt w0 w s c) (c':Int) (n:Nat) (hn:c'=(n:Int)):Cnt w0 (w.setCell ⟨s,0,none⟩ (.int .i64 c')) s n:=by
  subst hn
  exact ⟨h.1,set_heap h.2 0 _⟩
set_option maxRecDepth 20000 in
set_option maxHeartbeats 8000000 in
theorem orderU (w0 w:World) (blk off cap D s c x y:Nat) (d:Array Int) (hD:d.size=D) (hs:Srt w0 w blk off d) (hc:Cnt w0 w s c) (hx:x < D) (hy:y < D) (_hsz:D≤1000000000) (hcb:c≤1000) :
    Calls Tryz.prog 174 #[.slice (some ⟨blk,off,none⟩) D cap,.int .i64 x,.int .i64 y,.pointer (some ⟨s,0,none⟩)] w fun e w'=>e=.returned (.tuple #[.int .i64 ((order2 ltInt d x y c).1:Nat),.int .i64 ((order2 ltInt d x y c).2.1:Nat)])∧Srt w0 w' blk off d∧Cnt w0 w' s (order2 ltInt d x y c).2.2:=by
  have HS:=Lib.hid hs;have HC:=Lib.hid hc;clear hs hc
  have HSK:Hid (d.size=D):=hD
  clear hD
  have i1:(0:Int)≤(x:Int):=by omega
  have i2:(x:Int) < (D:Int):=by omega
  have i3:(0:Int)≤(y:Int):=by omega
  have i4:(y:Int) < (D:Int):=by omega
  obtain ⟨X,hX⟩:∃ X,X=d[x]!:=⟨_,rfl⟩
  have HX:=Lib.hid hX;clear hX
  obtain ⟨Y,hY⟩:∃ Y,Y=d[y]!:=⟨_,rfl⟩
  have HY:=Lib.hid hY;clear hY
  cases hl:ltInt Y X
  · have HE:Hid (order2 ltInt d x y c=(x,y,c)):=by show _=_;rw [HY.out,HX.out] at hl;unfold order2;rw [hl];rfl
    rw [HE.out]
    go_enter Tryz.func174,Tryz.ntmps174
    go_wp2_with fail
    obtain ⟨cY,fY⟩:=HS.out.holds y (by rw [HSK.out];exact hy)
    rw [← HY.out] at cY
    obtain ⟨cX,fX⟩:=HS.out.holds x (by rw [HSK.out];exact hx)
    rw [← HX.out] at cX
    have qcY:=fun d os=>cell_regrown cY d os
    have qcX:=fun d os=>cell_regrown cX d os
    refine wp_region_quiet_below (by kernel_rfl) (by kernel_rfl) ?_
    iterate 9 (first | go_big_quiet_step (first
      | (go_at_call 146;exact Calls.regrown_of (less_is hl _))) | fail)
    refine wpQuiet_nil ?_
    intro HSeW hw'
    obtain ⟨⟨dq,oq⟩,hw''⟩:=hw'
    have hb3:=below_regrown w dq oq
    rw [← hw''] at hb3
    clear hw'' qcY qcX cY cX fY fX
    have HSe:=Lib.hid (HS.out.below hb3)
    have HCe:=Lib.hid (cnt_below HC.out hb3);clear hb3
    go_wp2_with fail
    go_ret2
    exact ⟨rfl,HSe.out,HCe.out⟩
  · have HE:Hid (order2 ltInt d x y c=(y,x,c+1)):=by show _=_;rw [HY.out,HX.out] at hl;unfold order2;rw [hl];rfl
    rw [HE.out]
    go_enter Tryz.func174,Tryz.ntmps174
    go_wp2_with fail
    obtain ⟨cY,fY⟩:=HS.out.holds y (by rw [HSK.out];exact hy)
    rw [← HY.out] at cY
    obtain ⟨cX,fX⟩:=HS.out.holds x (by rw [HSK.out];exact hx)
    rw [← HX.out] at cX
    have qcY:=fun d os=>cell_regrown cY d os
    have qcX:=fun d os=>cell_regrown cX d os
    refine wp_region_quiet_below (by kernel_rfl) (by kernel_rfl) ?_
    iterate 9 (first | go_big_quiet_step (first
      | (go_at_call 146;exact Calls.regrown_of (less_is hl _))) | fail)
    refine wpQuiet_nil ?_
    intro HSeW hw'
    obtain ⟨⟨dq,oq⟩,hw''⟩:=hw'
    have hb3:=below_regrown w dq oq
    rw [← hw''] at hb3
    clear hw'' qcY qcX cY cX fY fX
    have HSe:=Lib.hid (HS.out.below hb3)
    have HCe:=Lib.hid (cnt_below HC.out hb3);clear hb3
    have c0:=cells_cell HCe.out.2 (i:=0) rfl
    have f0:=cells_frozen HCe.out.2 0
    go_wp2
    go_ret2
    exact ⟨rfl,HSe.out.aside HCe.out.1 _,HCe.out.set _ _ (by omega)⟩
theorem order2_P (P:Nat→Prop) (d:Array Int) {x y:Nat} (c:Nat) (hx:P x) (hy:P y):P (order2 ltInt d x y c).1∧P (order2 ltInt d x y c).2.1:=by
  unfold order2;split
  · exact ⟨hy,hx⟩
  · exact ⟨hx,hy⟩
theorem median_P (P:Nat→Prop) (d:Array Int) {x y z:Nat} (c:Nat) (hx:P x) (hy:P y) (hz:P z):P (median ltInt d x y z c).1:=by
  unfold median
  obtain ⟨h1,h2⟩:=order2_P P d c hx hy
  obtain ⟨h3,h4⟩:=order2_P P d (order2 ltInt d x y c).2.2 h2 hz
  exact (order2_P P d _ h1 h3).2
theorem median_swaps (d:Array Int) (x y z c:Nat):(median ltInt d x y z c).2≤c+3:=by
  unfold median
  have h1:=order2_swaps d x y c
  have h2:=order2_swaps d (order2 ltInt d x y c).2.1 z (order2 ltInt d x y c).2.2
  have h3:=order2_swaps d (order2 ltInt d x y c).1 (order2 ltInt d (order2 ltInt d x y c).2.1 z (order2 ltInt d x y c).2.2).1 (order2 ltInt d (order2 ltInt d x y c).2.1 z (order2 ltInt d x y c).2.2).2.2
  simp only
  omega
set_option maxRecDepth 20000 in
set_option maxHeartbeats 8000000 in
theorem medianU (w0 w:World) (blk off cap D s c x y z:Nat) (d:Array Int) (hD:d.size=D) (hs:Srt w0 w blk off d) (hc:Cnt w0 w s c) (hx:x < D) (hy:y < D) (hz:z < D) (hsz:D≤1000000000) (hcb:c≤900) :
    Calls Tryz.prog 168 #[.slice (some ⟨blk,off,none⟩) D cap,.int .i64 x,.int .i64 y,.int .i64 z,.pointer (some ⟨s,0,none⟩)] w fun e w'=>e=.returned (.int .i64 ((median ltInt d x y z c).1:Nat))∧Srt w0 w' blk off d∧Cnt w0 w' s (median ltInt d x y z c).2:=by
  have HS:=Lib.hid hs;have HC:=Lib.hid hc;clear hs hc
  have HSK:Hid (d.size=D):=hD
  have hDD:=HSK.out
  clear hD
  obtain ⟨h11,h12⟩:=order2_P (· < D) d c hx hy
  have h1s:=order2_swaps d x y c
  obtain ⟨r1,hr1⟩:∃ r1,r1=order2 ltInt d x y c:=⟨_,rfl⟩
  rw [← hr1] at h11 h12 h1s
  obtain ⟨h21,h22⟩:=order2_P (· < D) d r1.2.2 h12 hz
  have h2s:=order2_swaps d r1.2.1 z r1.2.2
  obtain ⟨r2,hr2⟩:∃ r2,r2=order2 ltInt d r1.2.1 z r1.2.2:=⟨_,rfl⟩
  rw [← hr2] at h21 h22 h2s
  obtain ⟨r3,hr3⟩:∃ r3,r3=order2 ltInt d r1.1 r2.1 r2.2.2:=⟨_,rfl⟩
  have HE:Hid (median ltInt d x y z c=(r3.2.1,r3.2.2)):=by show _=_;rw [hr3,hr2,hr1];rfl
  have HR1:=Lib.hid hr1;have HR2:=Lib.hid hr2;have HR3:=Lib.hid hr3
  rw [HE.out]
  clear hr1 hr2 hr3 hDD
  obtain ⟨a1,b1,c1⟩:=r1
  obtain ⟨a2,b2,c2⟩:=r2
  obtain ⟨a3,b3,c3⟩:=r3
  simp only at *
  go_enter Tryz.func168,Tryz.ntmps168
  go_wp2_with fail
  refine (orderU w0 w blk off cap D s c x y d HSK.out HS.out HC.out hx hy hsz (by omega)).mono ?_
  rintro e w1 ⟨rfl,hs1,hc1⟩
  rw [← HR1.out] at hc1 ⊢
  have HS1:=Lib.hid hs1;have HC1:=Lib.hid hc1;clear hs1 hc1
  go_wp2_with fail
  refine (orderU w0 w1 blk off cap D s c1 b1 z d HSK.out HS1.out HC1.out h12 hz hsz (by omega)).mono ?_
  rintro e w2 ⟨rfl,hs1,hc1⟩
  rw [← HR2.out] at hc1 ⊢
  have HS2:=Lib.hid hs1;have HC2:=Lib.hid hc1;clear hs1 hc1
  go_wp2_with fail
  refine (orderU w0 w2 blk off cap D s c2 a1 a2 d HSK.out HS2.out HC2.out h11 h21 hsz (by omega)).mono ?_
  rintro e w3 ⟨rfl,hs1,hc1⟩
  rw [← HR3.out] at hc1 ⊢
  have HS3:=Lib.hid hs1;have HC3:=Lib.hid hc1;clear hs1 hc1
  go_wp2_with fail
  go_ret
  exact ⟨rfl,HS3.out,HC3.out⟩
set_option maxRecDepth 20000 in
set_option maxHeartbeats 8000000 in
theorem medAdjU (w0 w:World) (blk off cap D s c x:Nat) (d:Array Int) (hD:d.size=D) (hs:Srt w0 w blk off d) (hc:Cnt w0 w s c) (hx0:0 < x) (hx:x+1 < D) (hsz:D≤1000000000) (hcb:c≤900) :
    Calls Tryz.prog 167 #[.slice (some ⟨blk,off,none⟩) D cap,.int .i64 x,.pointer (some ⟨s,0,none⟩)] w fun e w'=>e=.returned (.int .i64 ((medianAdjacent ltInt d x c).1:Nat))∧Srt w0 w' blk off d∧Cnt w0 w' s (medianAdjacent ltInt d x c).2:=by
  have HS:=Lib.hid hs;have HC:=Lib.hid hc;clear hs hc
  obtain ⟨u,rfl⟩:∃ u,x=u+1:=⟨x - 1,by omega⟩
  have HM:=Lib.hid (medianU w0 w blk off cap D s c u (u+1) (u+1+1) d hD HS.out HC.out (by omega) (by omega) (by omega) hsz hcb)
  go_enter Tryz.func167,Tryz.ntmps167
  go_wp2_with fail
  refine HM.out.mono ?_
  rintro e w1 ⟨rfl,hs1,hc1⟩
  have HS1:=Lib.hid hs1;have HC1:=Lib.hid hc1;clear hs1 hc1
  go_wp2_with fail
  go_ret
  exact ⟨rfl,HS1.out,HC1.out⟩
end Go.Proofs.YtccbpngehedbaaaGreat

namespace Go.Proofs.YtccbpngehedbaaaGreat
open Go Go.RowKit Go.Sort

/-! The library's sort at []uint32: the pivot is chosen, whole. -/
def hintN:Hint→Int | .unknown=>0 | .increasing=>1 | .decreasing=>2
theorem choose_P (d:Array Int) {a b:Nat} (h:12 < b - a):a < (choosePivot ltInt d a b).1∧(choosePivot ltInt d a b).1+1 < b:=by
  have key:∀ (x y z c:Nat),(a < x∧x+1 < b)→(a < y∧y+1 < b)→(a < z∧z+1 < b)→a < (median ltInt d x y z c).1∧(median ltInt d x y z c).1+1 < b:=fun x y z c h1 h2 h3=>median_P (fun x=>a < x∧x+1 < b) d c h1 h2 h3
  unfold choosePivot
  simp only
  rw [if_pos (by omega)]
  split
  · exact key _ _ _ _ (key _ _ _ _ (by omega) (by omega) (by omega)) (key _ _ _ _ (by omega) (by omega) (by omega)) (key _ _ _ _ (by omega) (by omega) (by omega))
  · exact key _ _ _ _ (by omega) (by omega) (by omega)
set_option maxRecDepth 20000 in
set_option maxHeartbeats 16000000 in
theorem chooseU (blk off cap a b D : Nat) (d : Array Int) (w : World) (hD : d.size = D) (hs : Srt w w blk off d) (h12 : 12 < b - a) (hb : b ≤ D) (hsz : D ≤ 1000000000) :
    Calls Tryz.prog 143 #[.slice (some ⟨blk,off,none⟩) D cap,.int .i64 a,.int .i64 b] w fun e w'=>e=.returned (.tuple #[.int .i64 ((choosePivot ltInt d a b).1:Nat),.int .i64 (hintN (choosePivot ltInt d a b).2)])∧Srt w w' blk off d:=by
  have HS:=Lib.hid hs;clear hs
  have HSK:Hid (d.size=D):=hD
  clear hD
  obtain ⟨L,hLm,hL⟩:∃ L:Nat,L=b - a∧(b:Int) - (a:Int)=(L:Int):=⟨_,rfl,by omega⟩
  obtain ⟨q,hqm,hq⟩:∃ q:Nat,q=L / 4∧(L:Int).tdiv 4=(q:Int):=⟨_,rfl,by rw [Int.tdiv_eq_ediv_of_nonneg (by omega)];omega⟩
  obtain ⟨I,hIm,hI⟩:∃ I:Nat,I=a+q * 1∧(a:Int)+(q:Int)=(I:Int):=⟨_,rfl,by omega⟩
  obtain ⟨J,hJm,hJ⟩:∃ J:Nat,J=a+q * 2∧(a:Int)+(q:Int) * 2=(J:Int):=⟨_,rfl,by omega⟩
  obtain ⟨K,hKm,hK⟩:∃ K:Nat,K=a+q * 3∧(a:Int)+(q:Int) * 3=(K:Int):=⟨_,rfl,by omega⟩
  have b0:12 < L:=by omega
  have b1:a < I∧I+1 < b:=by omega
  have b2:a < J∧J+1 < b:=by omega
  have b3:a < K∧K+1 < b:=by omega
  have c1:a+1 < I∧I+2 < b:=by omega
  have c2:a+1 < J∧J+2 < b:=by omega
  have c3:a+1 < K∧K+2 < b:=by omega
  have b4:0 < I:=by omega
  have b5:0 < J:=by omega
  have b6:0 < K:=by omega
  have b7:I+1 < D:=by omega
  have b8:J+1 < D:=by omega
  have b9:K+1 < D:=by omega
  have b10:L≤1000000000:=by omega
  have b11:q≤1000000000:=by omega
  obtain ⟨w1,hw1⟩:∃ w1,w1=w.alloc (.cells #[.int .i64 0] 3):=⟨_,rfl⟩
  have HS1:Hid (Srt w w1 blk off d):=by show Srt _ _ _ _ _;rw [hw1];exact HS.out.below (box1 w _)
  have HC1:Hid (Cnt w w1 w.heap.size 0):=by show Cnt _ _ _ _;rw [hw1];exact ⟨Nat.le_refl _,(MapKept.heap_alloc w _).1⟩
  have HW1:=Lib.hid hw1
  by_cases h50:50≤L
  · have HDEF:Hid (choosePivot ltInt d a b=(fun (r:Nat × Nat)=>(r.1,if r.2=0 then Hint.increasing else if r.2=12 then Hint.decreasing else Hint.unknown)) (median ltInt d (medianAdjacent ltInt d I 0).1 (medianAdjacent ltInt d J (medianAdjacent ltInt d I 0).2).1 (medianAdjacent ltInt d K (medianAdjacent ltInt d J (medianAdjacent ltInt d I 0).2).2).1 (medianAdjacent ltInt d K (medianAdjacent ltInt d J (medianAdjacent ltInt d I 0).2).2).2)):=by
      show _=_
      unfold choosePivot
      simp only
      rw [if_pos (by omega),if_pos (by omega),hIm,hJm,hKm,hqm,hLm]
    have key:∀ (x y z c:Nat),(a < x∧x+1 < b)→(a < y∧y+1 < b)→(a < z∧z+1 < b)→a < (median ltInt d x y z c).1∧(median ltInt d x y z c).1+1 < b:=fun x y z c h1 h2 h3=>median_P (fun x=>a < x∧x+1 < b) d c h1 h2 h3
    clear hLm hqm hIm hJm hKm
    obtain ⟨r1,hr1⟩:∃ r1,r1=medianAdjacent ltInt d I 0:=⟨_,rfl⟩
    obtain ⟨r2,hr2⟩:∃ r2,r2=medianAdjacent ltInt d J r1.2:=⟨_,rfl⟩
    obtain ⟨r3,hr3⟩:∃ r3,r3=medianAdjacent ltInt d K r2.2:=⟨_,rfl⟩
    obtain ⟨r4,hr4⟩:∃ r4,r4=median ltInt d r1.1 r2.1 r3.1 r3.2:=⟨_,rfl⟩
    rw [← hr1,← hr2,← hr3,← hr4] at HDEF
    have p1:a < r1.1∧r1.1+1 < b:=by rw [hr1];exact key _ _ _ _ (by omega) (by omega) (by omega)
    have p2:a < r2.1∧r2.1+1 < b:=by rw [hr2];exact key _ _ _ _ (by omega) (by omega) (by omega)
    have p3:a < r3.1∧r3.1+1 < b:=by rw [hr3];exact key _ _ _ _ (by omega) (by omega) (by omega)
    have s1:r1.2≤3:=by rw [hr1];exact median_swaps d _ _ _ 0
    have s2:r2.2≤6:=by have:=median_swaps d (J - 1) J (J+1) r1.2;rw [hr2];exact Nat.le_trans this (by omega)
    have s3:r3.2≤9:=by have:=median_swaps d (K - 1) K (K+1) r2.2;rw [hr3];exact Nat.le_trans this (by omega)
    have HR1:=Lib.hid hr1;have HR2:=Lib.hid hr2;have HR3:=Lib.hid hr3;have HR4:=Lib.hid hr4
    clear hr1 hr2 hr3 hr4 key
    obtain ⟨x1,c1⟩:=r1
    obtain ⟨x2,c2⟩:=r2
    obtain ⟨x3,c3⟩:=r3
    obtain ⟨x4,c4⟩:=r4
    simp only at *
    have HCP:Hid (choosePivot ltInt d a b=(x4,if c4=0 then Hint.increasing else if c4=12 then Hint.decreasing else Hint.unknown)):=HDEF.out
    clear HDEF
    go_enter Tryz.func143,Tryz.ntmps143
    go_wp2_with fail
    rw [← HW1.out]
    clear hw1
    refine (medAdjU w w1 blk off cap D w.heap.size 0 I d HSK.out HS1.out HC1.out b4 b7 hsz (by omega)).mono ?_
    rintro e w2 ⟨rfl,hs1,hc1⟩
    rw [← HR1.out] at hc1 ⊢
    have HS2:=Lib.hid hs1;have HC2:=Lib.hid hc1;clear hs1 hc1
    go_wp2_with fail
    refine (medAdjU w w2 blk off cap D w.heap.size c1 J d HSK.out HS2.out HC2.out b5 b8 hsz (by omega)).mono ?_
    rintro e w3 ⟨rfl,hs1,hc1⟩
    rw [← HR2.out] at hc1 ⊢
    have HS3:=Lib.hid hs1;have HC3:=Lib.hid hc1;clear hs1 hc1
    go_wp2_with fail
    refine (medAdjU w w3 blk off cap D w.heap.size c2 K d HSK.out HS3.out HC3.out b6 b9 hsz (by omega)).mono ?_
    rintro e w4 ⟨rfl,hs1,hc1⟩
    rw [← HR3.out] at hc1 ⊢
    have HS4:=Lib.hid hs1;have HC4:=Lib.hid hc1;clear hs1 hc1
    go_wp2_with fail
    refine (medianU w w4 blk off cap D w.heap.size c3 x1 x2 x3 d HSK.out HS4.out HC4.out (by omega) (by omega) (by omega) hsz (by omega)).mono ?_
    rintro e w5 ⟨rfl,hs1,hc1⟩
    rw [← HR4.out] at hc1 ⊢
    have HS5:=Lib.hid hs1;have HC5:=Lib.hid hc1;clear hs1 hc1
    have c9:=cells_cell HC5.out.2 (i:=0) rfl
    by_cases hz:c4=0
    · subst hz
      have HE:Hid (choosePivot ltInt d a b=(x4,.increasing)):=by show _=_;rw [HCP.out];rfl
      go_wp2_with fail
      go_ret2
      rw [HE.out]
      exact ⟨rfl,HS5.out⟩
    · have hz0:((c4:Int) == 0)=false:=beq_eq_false_iff_ne.2 (by omega)
      by_cases h12:c4=12
      · subst h12
        have HE:Hid (choosePivot ltInt d a b=(x4,.decreasing)):=by show _=_;rw [HCP.out];rfl
        go_wp2_with fail
        go_ret2
        rw [HE.out]
        exact ⟨rfl,HS5.out⟩
      · have hz1:((c4:Int) == 12)=false:=beq_eq_false_iff_ne.2 (by omega)
        have HE:Hid (choosePivot ltInt d a b=(x4,.unknown)):=by show _=_;rw [HCP.out,if_neg hz,if_neg h12]
        go_wp2_with fail
        go_ret2
        rw [HE.out]
        exact ⟨rfl,HS5.out⟩
  · have HDEF:Hid (choosePivot ltInt d a b=(fun (r:Nat × Nat)=>(r.1,if r.2=0 then Hint.increasing else if r.2=12 then Hint.decreasing else Hint.unknown)) (median ltInt d I J K 0)):=by
      show _=_
      unfold choosePivot
      simp only
      rw [if_pos (by omega),if_neg (by omega),hIm,hJm,hKm,hqm,hLm]
    clear hLm hqm hIm hJm hKm
    obtain ⟨r4,hr4⟩:∃ r4,r4=median ltInt d I J K 0:=⟨_,rfl⟩
    rw [← hr4] at HDEF
    have HR4:=Lib.hid hr4;clear hr4
    obtain ⟨x4,c4⟩:=r4
    simp only at *
    have HCP:Hid (choosePivot ltInt d a b=(x4,if c4=0 then Hint.increasing else if c4=12 then Hint.decreasing else Hint.unknown)):=HDEF.out
    clear HDEF
    go_enter Tryz.func143,Tryz.ntmps143
    go_wp2_with fail
    rw [← HW1.out]
    clear hw1
    refine (medianU w w1 blk off cap D w.heap.size 0 I J K d HSK.out HS1.out HC1.out (by omega) (by omega) (by omega) hsz (by omega)).mono ?_
    rintro e w5 ⟨rfl,hs1,hc1⟩
    rw [← HR4.out] at hc1 ⊢
    have HS5:=Lib.hid hs1;have HC5:=Lib.hid hc1;clear hs1 hc1
    have c9:=cells_cell HC5.out.2 (i:=0) rfl
    by_cases hz:c4=0
    · subst hz
      have HE:Hid (choosePivot ltInt d a b=(x4,.increasing)):=by show _=_;rw [HCP.out];rfl
      go_wp2_with fail
      go_ret2
      rw [HE.out]
      exact ⟨rfl,HS5.out⟩
    · have hz0:((c4:Int) == 0)=false:=beq_eq_false_iff_ne.2 (by omega)
      by_cases h12:c4=12
      · subst h12
        have HE:Hid (choosePivot ltInt d a b=(x4,.decreasing)):=by show _=_;rw [HCP.out];rfl
        go_wp2_with fail
        go_ret2
        rw [HE.out]
        exact ⟨rfl,HS5.out⟩
      · have hz1:((c4:Int) == 12)=false:=beq_eq_false_iff_ne.2 (by omega)
        have HE:Hid (choosePivot ltInt d a b=(x4,.unknown)):=by show _=_;rw [HCP.out,if_neg hz,if_neg h12]
        go_wp2_with fail
        go_ret2
        rw [HE.out]
        exact ⟨rfl,HS5.out⟩
end Go.Proofs.YtccbpngehedbaaaGreat

namespace Go.Proofs.YtccbpngehedbaaaGreat
open Go Go.RowKit Go.Sort

/-! The library's sort at []uint32: how many bits; the next power of two; drawn numbers. -/
def lenRen:Go.Shelf.Ren:=⟨fun | 125=>119 | 128=>149 | 129=>150 | n=>n,fun | 3=>3 | 4=>4 | 5=>5 | 9=>9 | 46=>184 | 51=>22 | 53=>69 | n=>n,fun n=>n⟩
theorem lenLays:Go.Proofs.Lays.n125 Tryz.prog lenRen:={
  mixed:=by kernel_rfl
  f125:=Tryz.func119.trans (congrArg some (by kernel_rfl))
  f128:=Tryz.func149.trans (congrArg some (by kernel_rfl))
  f129:=Tryz.func150.trans (congrArg some (by kernel_rfl))
  t3:=Tryz.underlying3
  a3:=Tryz.isAgg3
  z3:=Tryz.sizeOf3
  v3:=Tryz.zeroValue3
  t4:=Tryz.underlying4
  a4:=Tryz.isAgg4
  z4:=Tryz.sizeOf4
  v4:=Tryz.zeroValue4
  t5:=Tryz.underlying5
  a5:=Tryz.isAgg5
  z5:=Tryz.sizeOf5
  v5:=Tryz.zeroValue5
  t9:=Tryz.underlying9
  a9:=Tryz.isAgg9
  z9:=Tryz.sizeOf9
  v9:=Tryz.zeroValue9
  t46:=Tryz.underlying184
  a46:=Tryz.isAgg184
  z46:=Tryz.sizeOf184
  v46:=Tryz.zeroValue184
  t51:=Tryz.underlying22
  a51:=Tryz.isAgg22
  z51:=Tryz.sizeOf22
  v51:=Tryz.zeroValue22
  t53:=Tryz.underlying69
  a53:=Tryz.isAgg69
  z53:=Tryz.sizeOf69
  v53:=Tryz.zeroValue69 }
theorem lenU (n:Nat) (hn:n≤1000000000) (w:World):Calls Tryz.prog 119 #[.int .u64 (n:Int)] w fun e w'=>e=.returned (.int .i64 (bitsLen n:Nat))∧w'=w:=by
  have h:=Go.Proofs.Any.bits_Len lenLays (n:Int) w (by omega) (by omega)
  rwa [Int.toNat_natCast,bitLen_eq _ (by omega)] at h
set_option maxRecDepth 20000 in
set_option maxHeartbeats 2000000 in
theorem powU (n:Nat) (hn:n≤1000000000) (w:World):Calls Tryz.prog 165 #[.int .i64 (n:Int)] w fun e w'=>e=.returned (.int .u64 ((1 <<< bitsLen n:Nat):Int))∧w'=w:=by
  have hk:bitsLen n≤62:=(bitsLen_le_iff n 62).2 (by omega)
  have hp:=wrap_two_pow (bitsLen n) hk
  go_enter Tryz.func165,Tryz.ntmps165
  go_wp2_with fail
  refine (lenU n hn w).mono ?_
  rintro e w1 ⟨rfl,rfl⟩
  go_wp2
  go_ret
  exact ⟨rfl,rfl⟩
set_option maxRecDepth 20000 in
set_option maxHeartbeats 4000000 in
theorem nextU (s X:Nat) (hX:X < 18446744073709551616) (w:World) (hc:w.cell? ⟨s,0,none⟩=some (.int .u64 X)) (hf:w.frozen? ⟨s,0,none⟩=false) :
    Calls Tryz.prog 166 #[.pointer (some ⟨s,0,none⟩)] w fun e w'=>e=.returned (.int .u64 (xorNextN X:Nat))∧w'=(w.setCell ⟨s,0,none⟩ (.int .u64 (xorNextN X:Nat))).drewN 3:=by
  obtain ⟨A,hA⟩:∃ A:Nat,A=X ^^^ (X * 8192 % 18446744073709551616):=⟨_,rfl⟩
  obtain ⟨B,hB⟩:∃ B:Nat,B=A ^^^ (A / 128):=⟨_,rfl⟩
  obtain ⟨C,hC⟩:∃ C:Nat,C=B ^^^ (B * 131072 % 18446744073709551616):=⟨_,rfl⟩
  have lA:A < 18446744073709551616:=by rw [hA];exact Nat.xor_lt_two_pow (n:=64) (by omega) (by omega)
  have lB:B < 18446744073709551616:=by rw [hB];exact Nat.xor_lt_two_pow (n:=64) (by omega) (by omega)
  have e1:bits .xor .u64 (X:Int) (IntKind.u64.wrap ((X:Int) * 8192))=(A:Int):=by
    rw [IntKind.wrap_u64,show ((X:Int) * 8192 % 18446744073709551616)=((X * 8192 % 18446744073709551616:Nat):Int) by omega,bits_xor_u64_nat _ _ hX (by omega),hA]
  have e2:bits .xor .u64 (A:Int) ((A:Int) / 128)=(B:Int):=by
    rw [show ((A:Int) / 128)=((A / 128:Nat):Int) by omega,bits_xor_u64_nat _ _ lA (by omega),hB]
  have e3:bits .xor .u64 (B:Int) (IntKind.u64.wrap ((B:Int) * 131072))=(C:Int):=by
    rw [IntKind.wrap_u64,show ((B:Int) * 131072 % 18446744073709551616)=((B * 131072 % 18446744073709551616:Nat):Int) by omega,bits_xor_u64_nat _ _ lB (by omega),hC]
  have hv:xorNextN X=C:=by unfold xorNextN;simp only [];rw [← hA,← hB,← hC]
  rw [hv]
  clear hA hB hC hv
  have hss:∀ v v',(w.setCell ⟨s,0,none⟩ v).setCell ⟨s,0,none⟩ v'=w.setCell ⟨s,0,none⟩ v':=setCell_setCell w s 0
  go_enter Tryz.func166,Tryz.ntmps166
  go_wp2_with fail
  go_region
  all_goals go_wp2_with fail
  all_goals go_region
  all_goals go_wp2_with fail
  all_goals go_region
  all_goals go_wp2_with fail
  all_goals
    go_ret
    exact ⟨rfl,rfl⟩
end Go.Proofs.YtccbpngehedbaaaGreat

namespace Go.Proofs.YtccbpngehedbaaaGreat
open Go Go.RowKit Go.Sort

/-! The library's sort at []uint32: patterns are broken. -/
def Rnd (w0 w:World) (s:Nat) (r:UInt64):Prop:=w0.heap.size≤s∧w.heap[s]?=some (.cells #[.int .u64 (r.toNat:Int)] 232)
theorem bits_le {L:Nat} (h:0 < L):(1 <<< bitsLen L)≤2 * L∧L < (1 <<< bitsLen L):=by
  unfold bitsLen
  rw [if_neg (by omega),Nat.one_shiftLeft,Nat.pow_succ]
  have h1:=Nat.log2_self_le (n:=L) (by omega)
  have h2:=Nat.lt_log2_self (n:=L)
  rw [Nat.pow_succ] at h2
  omega
theorem Srt.blk_lt {w0 w:World} {blk off:Nat} {d:Array Int} (h:Srt w0 w blk off d):blk < w0.heap.size:=by
  obtain ⟨_,_,_,_,h1,_,_⟩:=h.shape
  exact (Array.getElem?_eq_some_iff.1 h1).1
theorem Srt.ahead {w0 w:World} {blk off:Nat} {d:Array Int} (h:Srt w0 w blk off d) (n:Nat):Srt w0 (w.drewN n) blk off d:=⟨h.holds,⟨h.grown.os,h.grown.tape,h.grown.output,h.grown.size,h.grown.block⟩,h.shape⟩
set_option maxRecDepth 20000 in
set_option maxHeartbeats 16000000 in
theorem breakU (blk off cap a b D : Nat) (d : Array Int) (w : World) (hD : d.size = D) (hs : Srt w w blk off d) (h8 : 8 ≤ b - a) (hb : b ≤ D) (hsz : D ≤ 1000000000) :
    Calls Tryz.prog 142 #[.slice (some ⟨blk,off,none⟩) D cap,.int .i64 a,.int .i64 b] w fun e w'=>e=.returned (.tuple #[])∧Srt w w' blk off (breakPatterns d a b):=by
  have HS:=Lib.hid hs;clear hs
  have HSK0:Hid (d.size=D):=hD
  clear hD
  obtain ⟨L,hLm,hL⟩:∃ L:Nat,L=b - a∧(b:Int) - (a:Int)=(L:Int):=⟨_,rfl,by omega⟩
  obtain ⟨q,hqm,hq⟩:∃ q:Nat,q=L / 4∧(L:Int).tdiv 4=(q:Int):=⟨_,rfl,by rw [Int.tdiv_eq_ediv_of_nonneg (by omega)];omega⟩
  obtain ⟨I0,hIm,hI⟩:∃ I0:Nat,I0=a+q * 2 - 1∧(a:Int)+(q:Int) * 2 - 1=(I0:Int):=⟨_,rfl,by omega⟩
  obtain ⟨I2,hI2m,hI2⟩:∃ I2:Nat,I2=I0+2∧(a:Int)+(q:Int) * 2+1=(I2:Int):=⟨_,rfl,by omega⟩
  obtain ⟨M,hMm⟩:∃ M,M=1 <<< bitsLen L:=⟨_,rfl⟩
  obtain ⟨hM1,hM2⟩:=bits_le (L:=L) (by omega)
  rw [← hMm] at hM1 hM2
  have HDEF:Hid (breakPatterns d a b=bpRest a L M I0 3 0 (UInt64.ofNat L,d)):=by
    show _=_
    have hbL:b=a+L:=by omega
    rw [hMm,hIm,hqm,hbL]
    exact breakPatterns_eq d a L (by omega)
  have b0:8≤L:=by omega
  have b1:a+L≤D:=by omega
  have b2:I2 < D:=by omega
  have b3:L≤1000000000:=by omega
  have b4:q≤1000000000:=by omega
  have HPOW:=Lib.hid (fun w=>powU L b3 w)
  rw [← hMm] at HPOW
  have HI2:=Lib.hid hI2m
  clear hLm hqm hIm hI2m hMm
  have hLu:(UInt64.ofNat L).toNat=L:=by rw [UInt64.toNat_ofNat'];omega
  obtain ⟨w1,hw1⟩:∃ w1,w1=w.alloc (.cells #[.int .u64 (L:Int)] 232):=⟨_,rfl⟩
  have HS1:Hid (Srt w w1 blk off d):=by show Srt _ _ _ _ _;rw [hw1];exact HS.out.below (box1 w _)
  have HR1:Hid (Rnd w w1 w.heap.size (UInt64.ofNat L)):=by show Rnd _ _ _ _;rw [hw1];exact ⟨Nat.le_refl _,by rw [hLu];exact (MapKept.heap_alloc w _).1⟩
  have HNE:Hid (¬ blk=w.heap.size):=by have:=HS.out.blk_lt;show ¬ _;omega
  clear hLu
  go_enter Tryz.func142,Tryz.ntmps142
  go_wp2_with fail
  rw [← hw1]
  clear hw1
  refine (HPOW.out w1).mono ?_
  rintro e w2 ⟨rfl,rfl⟩
  go_wp2_with fail
  go_loopw [9] (fun v wr=>∃ (t:Nat) (r:UInt64) (dk:Array Int),v=.int .i64 ((I0+t:Nat):Int)∧t≤3∧dk.size=D∧Srt w wr blk off dk∧Rnd w wr w.heap.size r∧bpRest a L M I0 (3 - t) t (r,dk)=breakPatterns d a b) (fun v _=>I0+3 - (intOf v).toNat)
  case atStart=>exact ⟨0,UInt64.ofNat L,d,by rfl,by omega,HSK0.out,HS1.out,HR1.out,HDEF.out.symm⟩
  case round =>
    obtain ⟨t,r,dk,rfl,ht,hsk,hSk,hRk,hO⟩:=hrel
    have HSq:=Lib.hid hSk;have HST:=Lib.hid hO;have HSK:=Lib.hid hsk;have HRq:=Lib.hid hRk;clear hSk hO hsk hRk
    obtain ⟨P,hPm⟩:∃ P,P=I0+t:=⟨_,rfl⟩
    rw [← hPm]
    by_cases ht5:t < 3
    · have p1:P≤I2:=by have:=HI2.out;omega
      have p2:P < D:=by omega
      obtain ⟨N,hN⟩:∃ N,N=(xorNext r).toNat:=⟨_,rfl⟩
      have hNl:N < 18446744073709551616:=by rw [hN];exact (xorNext r).toNat_lt
      obtain ⟨M1,hM1m,hMi⟩:∃ M1:Nat,M1=M - 1∧(M:Int) - 1=(M1:Int):=⟨_,rfl,by omega⟩
      obtain ⟨O,hO⟩:∃ O,O=N &&& M1:=⟨_,rfl⟩
      have hand:bits .and .u64 (N:Int) (M1:Int)=(O:Int):=by rw [bits_and_u64_nat _ _ hNl (by omega),hO]
      have hOl:O≤M1:=by rw [hO];exact Nat.and_le_right
      have o1:O < 2 * L:=by omega
      have o2:O≤2000000000:=by omega
      have HOX:Hid ((xorNext r).toNat &&& (M - 1)=O):=by show _=_;rw [← hN,← hM1m,hO]
      have hNx:xorNextN r.toNat=N:=by rw [hN,xorNext_toNat]
      have HNX:=Lib.hid (nextU w.heap.size r.toNat r.toNat_lt wr (cells_cell HRq.out.2 rfl) (cells_frozen HRq.out.2 0))
      rw [hNx] at HNX
      have HN:=Lib.hid hN
      clear hO hN hNx hM1m
      have HPM:=Lib.hid hPm;clear hPm
      go_wp2_with fail
      refine HNX.out.mono ?_
      rintro e w4 ⟨rfl,hw4⟩
      have HS4:Hid (Srt w w4 blk off dk):=by show Srt _ _ _ _ _;rw [hw4];exact (HSq.out.aside HRq.out.1 _).ahead 3
      have HR5:Hid (Rnd w w4 w.heap.size (xorNext r)):=by
        show Rnd _ _ _ _
        rw [hw4]
        exact ⟨HRq.out.1,by rw [← HN.out];exact set_heap HRq.out.2 0 _⟩
      have HS5:=HS4
      clear hw4
      by_cases hOL:L≤O
      · obtain ⟨o,hom,ho⟩:∃ o:Nat,o=O - L∧(O:Int) - (L:Int)=(o:Int):=⟨_,rfl,by omega⟩
        have HOO:Hid ((if (xorNext r).toNat &&& (M - 1) ≥ L then ((xorNext r).toNat &&& (M - 1)) - L else (xorNext r).toNat &&& (M - 1))=o):=by show _=_;rw [HOX.out,if_pos hOL,hom]
        obtain ⟨Q,hQm,hQ⟩:∃ Q:Nat,Q=a+o∧(a:Int)+(o:Int)=(Q:Int):=⟨_,rfl,by omega⟩
        have q1:Q < D:=by omega
        have q0:o < L:=by omega
        have HPQ:Hid (I0+t=P∧a+o=Q):=⟨HPM.out.symm,hQm.symm⟩
        clear hom hQm
        have k1:(0:Int)≤(P:Int):=by omega
        have k2:(P:Int) < (D:Int):=by omega
        have k3:(0:Int)≤(Q:Int):=by omega
        have k4:(Q:Int) < (D:Int):=by omega
        by_cases hpq:P=Q
        · subst hpq
          obtain ⟨X2,hX2⟩:∃ X2,X2=dk[P]!:=⟨_,rfl⟩
          have HX2:=Lib.hid hX2;clear hX2
          go_wp2_with fail
          obtain ⟨cX,fX⟩:=HS5.out.holds P (by rw [HSK.out];omega)
          rw [← HX2.out] at cX
          go_region
          all_goals
            go_wp2_with fail
            go_roundw
            case rel=>exact ⟨t+1,xorNext r,_,by have h:=HPM.out;congr 1;omega,by omega,by rw [size_swp];exact HSK.out,HS5.out.swap_any (i:=P) (j:=P) (by rw [HSK.out];omega) (by rw [HSK.out];omega) HX2.out HX2.out,⟨HR5.out.1,by have h:=HR5.out.2;simpa [World.setCell,Array.getElem?_modify,HNE.out,World.drew] using h⟩,by rw [← HST.out,bp_step a L M I0 t r dk o ht5 HOO.out,HPQ.out.1,HPQ.out.2]⟩
            case measure=>(simp [intOf]) <;> omega
        · have hne:¬ P=Q:=hpq
          obtain ⟨X2,hX2⟩:∃ X2,X2=dk[P]!:=⟨_,rfl⟩
          have HX2:=Lib.hid hX2;clear hX2
          obtain ⟨Y2,hY2⟩:∃ Y2,Y2=dk[Q]!:=⟨_,rfl⟩
          have HY2:=Lib.hid hY2;clear hY2
          go_wp2_with fail
          obtain ⟨cX,fX⟩:=HS5.out.holds P (by rw [HSK.out];omega)
          rw [← HX2.out] at cX
          obtain ⟨cY,fY⟩:=HS5.out.holds Q (by rw [HSK.out];omega)
          rw [← HY2.out] at cY
          go_region
          all_goals
            go_wp2_with fail
            go_roundw
            case rel=>exact ⟨t+1,xorNext r,_,by have h:=HPM.out;congr 1;omega,by omega,by rw [size_swp];exact HSK.out,HS5.out.swap_any (i:=P) (j:=Q) (by rw [HSK.out];omega) (by rw [HSK.out];omega) HY2.out HX2.out,⟨HR5.out.1,by have h:=HR5.out.2;simpa [World.setCell,Array.getElem?_modify,HNE.out,World.drew] using h⟩,by rw [← HST.out,bp_step a L M I0 t r dk o ht5 HOO.out,HPQ.out.1,HPQ.out.2]⟩
            case measure=>(simp [intOf]) <;> omega
      · obtain ⟨o,rfl⟩:∃ o:Nat,O=o:=⟨_,rfl⟩
        have HOO:Hid ((if (xorNext r).toNat &&& (M - 1) ≥ L then ((xorNext r).toNat &&& (M - 1)) - L else (xorNext r).toNat &&& (M - 1))=O):=by show _=_;rw [HOX.out,if_neg hOL]
        obtain ⟨Q,hQm,hQ⟩:∃ Q:Nat,Q=a+O∧(a:Int)+(O:Int)=(Q:Int):=⟨_,rfl,by omega⟩
        have q1:Q < D:=by omega
        have HPQ:Hid (I0+t=P∧a+O=Q):=⟨HPM.out.symm,hQm.symm⟩
        clear hQm
        have k1:(0:Int)≤(P:Int):=by omega
        have k2:(P:Int) < (D:Int):=by omega
        have k3:(0:Int)≤(Q:Int):=by omega
        have k4:(Q:Int) < (D:Int):=by omega
        by_cases hpq:P=Q
        · subst hpq
          obtain ⟨X2,hX2⟩:∃ X2,X2=dk[P]!:=⟨_,rfl⟩
          have HX2:=Lib.hid hX2;clear hX2
          go_wp2_with fail
          obtain ⟨cX,fX⟩:=HS5.out.holds P (by rw [HSK.out];omega)
          rw [← HX2.out] at cX
          go_region
          all_goals
            go_wp2_with fail
            go_roundw
            case rel=>exact ⟨t+1,xorNext r,_,by have h:=HPM.out;congr 1;omega,by omega,by rw [size_swp];exact HSK.out,HS5.out.swap_any (i:=P) (j:=P) (by rw [HSK.out];omega) (by rw [HSK.out];omega) HX2.out HX2.out,⟨HR5.out.1,by have h:=HR5.out.2;simpa [World.setCell,Array.getElem?_modify,HNE.out,World.drew] using h⟩,by rw [← HST.out,bp_step a L M I0 t r dk O ht5 HOO.out,HPQ.out.1,HPQ.out.2]⟩
            case measure=>(simp [intOf]) <;> omega
        · have hne:¬ P=Q:=hpq
          obtain ⟨X2,hX2⟩:∃ X2,X2=dk[P]!:=⟨_,rfl⟩
          have HX2:=Lib.hid hX2;clear hX2
          obtain ⟨Y2,hY2⟩:∃ Y2,Y2=dk[Q]!:=⟨_,rfl⟩
          have HY2:=Lib.hid hY2;clear hY2
          go_wp2_with fail
          obtain ⟨cX,fX⟩:=HS5.out.holds P (by rw [HSK.out];omega)
          rw [← HX2.out] at cX
          obtain ⟨cY,fY⟩:=HS5.out.holds Q (by rw [HSK.out];omega)
          rw [← HY2.out] at cY
          go_region
          all_goals
            go_wp2_with fail
            go_roundw
            case rel=>exact ⟨t+1,xorNext r,_,by have h:=HPM.out;congr 1;omega,by omega,by rw [size_swp];exact HSK.out,HS5.out.swap_any (i:=P) (j:=Q) (by rw [HSK.out];omega) (by rw [HSK.out];omega) HY2.out HX2.out,⟨HR5.out.1,by have h:=HR5.out.2;simpa [World.setCell,Array.getElem?_modify,HNE.out,World.drew] using h⟩,by rw [← HST.out,bp_step a L M I0 t r dk O ht5 HOO.out,HPQ.out.1,HPQ.out.2]⟩
            case measure=>(simp [intOf]) <;> omega
    · have ht3:t=3:=by omega
      subst ht3
      have HE:Hid (dk=breakPatterns d a b):=HST.out
      have p1:¬ P≤I2:=by have:=HI2.out;omega
      clear hPm
      go_wp2_with fail
      go_end0
      exact ⟨rfl,by rw [← HE.out];exact HSq.out⟩
end Go.Proofs.YtccbpngehedbaaaGreat

