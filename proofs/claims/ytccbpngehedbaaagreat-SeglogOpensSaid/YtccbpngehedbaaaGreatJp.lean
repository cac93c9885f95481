import Derived.Test.YtccbpngehedbaaaGreatJo
import Derived.Sort.AssemblyPlain
import Derived.Sort.WalkA
import Derived.Sort.WalkB2
import Derived.Sort.WalkB3
import Derived.Sort.WalkC4
import Derived.Deep.CutBlock
import Derived.Deep.CutRange
namespace Go.Proofs.YtccbpngehedbaaaGreat
open Go Go.RowKit Go.Sort

/-! The library's sort at []uint32: how the row stands while it is sorted. -/
/-- The row holds d; nothing else of what was there in w0 has turned. -/
structure Srt (w0 w:World) (blk off:Nat) (d:Array Int):Prop where
  holds:∀ j,j < d.size→w.cell? ⟨blk,off+j,none⟩=some (.int .u32 d[j]!)∧w.frozen? ⟨blk,off+j,none⟩=false
  grown:w0.grownBy w (some blk)
  shape:∃ cs cs' e fr,w0.heap[blk]?=some (.cells cs e fr)∧w.heap[blk]?=some (.cells cs' e fr)∧cs'.size=cs.size
theorem Srt.lt {w0 w:World} {blk off:Nat} {d:Array Int} (h:Srt w0 w blk off d):blk < w.heap.size:=by
  obtain ⟨_,_,_,_,_,h2,_⟩:=h.shape
  exact (Array.getElem?_eq_some_iff.1 h2).1
theorem Srt.start {w0 w:World} {blk off:Nat} {d:Array Int} (h:Srt w0 w blk off d):Srt w w blk off d:=by
  obtain ⟨_,cs',e,fr,_,h2,_⟩:=h.shape
  exact ⟨h.holds,⟨rfl,rfl,rfl,Nat.le_refl _,fun _ _ _=>rfl⟩,cs',cs',e,fr,h2,h2,rfl⟩
theorem grown_trans {w0 w1 w2:World} {r:Option Nat} (h1:w0.grownBy w1 r) (h2:w1.grownBy w2 r):w0.grownBy w2 r :=
  ⟨h2.os.trans h1.os,h2.tape.trans h1.tape,h2.output.trans h1.output,Nat.le_trans h1.size h2.size,fun k hk hn=>(h2.block k (Nat.lt_of_lt_of_le hk h1.size) hn).trans (h1.block k hk hn)⟩
theorem Srt.trans {w0 w1 w2:World} {blk off:Nat} {d1 d2:Array Int} (h1:Srt w0 w1 blk off d1) (h2:Srt w1 w2 blk off d2):Srt w0 w2 blk off d2:=by
  obtain ⟨cs,cs',e,fr,a1,a2,a3⟩:=h1.shape
  obtain ⟨cs2,cs3,e2,fr2,b1,b2,b3⟩:=h2.shape
  rw [a2] at b1
  cases b1
  exact ⟨h2.holds,grown_trans h1.grown h2.grown,cs,cs3,e,fr,a1,b2,b3.trans a3⟩
theorem Srt.below {w0 w w':World} {blk off:Nat} {d:Array Int} (h:Srt w0 w blk off d) (hb:Below w.heap.size w w'):Srt w0 w' blk off d:=by
  have hl:=h.lt
  obtain ⟨cs,cs',e,fr,a1,a2,a3⟩:=h.shape
  refine ⟨fun j hj=>?_,grown_trans h.grown ⟨hb.os,hb.tape,hb.output,hb.size,fun k hk _=>hb.block k hk⟩,cs,cs',e,fr,a1,(hb.block blk hl).trans a2,a3⟩
  rw [hb.cell (p:=⟨blk,off+j,none⟩) hl,hb.frozen (p:=⟨blk,off+j,none⟩) hl]
  exact h.holds j hj
theorem Srt.drew {w0 w:World} {blk off:Nat} {d:Array Int} (h:Srt w0 w blk off d):Srt w0 w.drew blk off d:=⟨h.holds,⟨h.grown.os,h.grown.tape,h.grown.output,h.grown.size,h.grown.block⟩,h.shape⟩
theorem Srt.set {w0 w:World} {blk off:Nat} {d:Array Int} (h:Srt w0 w blk off d) {i:Nat} (hi:i < d.size) (x:Int):Srt w0 (w.setCell ⟨blk,off+i,none⟩ (.int .u32 x)) blk off (d.setIfInBounds i x):=by
  obtain ⟨cs,cs',e,fr,a1,a2,a3⟩:=h.shape
  refine ⟨fun j hj=>?_,grown_trans h.grown ⟨rfl,rfl,rfl,by simp [World.setCell],fun k hk hn=>by
    have:blk ≠ k:=fun e=>hn (by rw [e])
    simp [World.setCell,Array.getElem?_modify,this]⟩,cs,cs'.setIfInBounds (off+i) (.int .u32 x),e,fr,a1,by simp [World.setCell,Array.getElem?_modify,a2],by simp [a3]⟩
  have hj':j < d.size:=by simpa using hj
  refine ⟨?_,by rw [World.frozen?_setCell];exact (h.holds j hj').2⟩
  by_cases he:j=i
  · subst he
    rw [World.cell?_setCell_same _ _ _ (h.holds j hj').1,getElem!_set_same d j x hj']
  · rw [World.cell?_setCell_other _ _ _ _ (fun e=>he (by injection e with _ e;omega)),getElem!_set_other d i j x he]
    exact (h.holds j hj').1
/-- Two of the row change places. -/
theorem Srt.swap {w0 w:World} {blk off:Nat} {d:Array Int} (h:Srt w0 w blk off d) {i j:Nat} (hi:i < d.size) (hj:j < d.size) {x y:Int} (hx:x=d[j]!) (hy:y=d[i]!) :
    Srt w0 ((w.setCell ⟨blk,off+i,none⟩ (.int .u32 x)).setCell ⟨blk,off+j,none⟩ (.int .u32 y)) blk off (swp d i j):=by
  subst hx hy
  exact (h.set hi _).set (by simpa using hj) _
theorem less_any (x y:Int) (w:World):Calls Tryz.prog 146 #[.int .u32 x,.int .u32 y] w fun e w'=>e=.returned (.bool (ltInt x y))∧Below w.heap.size w w':=by
  have hn:∀ (z:Int) (w:World),Calls Tryz.prog 169 #[.int .u32 z] w fun e w'=>e=.returned (.bool false)∧Below w.heap.size w w':=fun z w=>by
    go_enter Tryz.func169,Tryz.ntmps169
    go_wp2
    go_ret
    exact ⟨by simp,Below.refl _ _⟩
  go_enter Tryz.func146,Tryz.ntmps146
  go_wp2_with fail
  refine (hn x w).mono ?_
  rintro e w1 ⟨rfl,h1⟩
  go_wp2
  go_ret
  exact ⟨rfl,h1⟩
end Go.Proofs.YtccbpngehedbaaaGreat

namespace Go.Proofs.YtccbpngehedbaaaGreat
open Go Go.RowKit Go.Sort

/-! The library's sort at []uint32: by insertion. -/
set_option maxRecDepth 20000 in
set_option maxHeartbeats 8000000 in
theorem insU (blk off cap a b : Nat) (d : Array Int) (w : World) (hs : Srt w w blk off d) (hab : a ≤ b) (hb : b ≤ d.size) (hsz : d.size ≤ 1000000000) :
    Calls Tryz.prog 140 #[.slice (some ⟨blk,off,none⟩) d.size cap,.int .i64 a,.int .i64 b] w fun e w'=>e=.returned (.tuple #[])∧Srt w w' blk off (insertionSort ltInt d a b):=by
  have HS:=Lib.hid hs;clear hs
  obtain ⟨D,hD⟩:∃ D,D=d.size:=⟨_,rfl⟩
  rw [← hD] at hb hsz ⊢
  have HD:=Lib.hid hD;clear hD
  go_enter Tryz.func140,Tryz.ntmps140
  go_wp2_with fail
  go_loopw [6] (fun vi wr=>∃ (i:Nat) (dk:Array Int),vi=.int .i64 i∧a < i∧i≤b+1∧dk.size=D∧Srt w wr blk off dk∧insOuter ltInt a b i dk=insertionSort ltInt d a b) (fun vi _=>b+1 - (intOf vi).toNat)
  case atStart=>exact ⟨a+1,d,by go_num,by omega,by omega,HD.out.symm,HS.out,rfl⟩
  case round =>
    obtain ⟨i,dk,rfl,hai,hib,hsk,hSk,hO⟩:=hrel
    have HSk:=Lib.hid hSk;have HO:=Lib.hid hO;have HSK:=Lib.hid hsk;clear hSk hO hsk
    by_cases hlt:i < b
    · go_wp2_with fail
      go_loopw [7] (fun vj wr2=>∃ (j:Nat) (dj:Array Int),vj=.int .i64 j∧a≤j∧j≤i∧dj.size=D∧Srt w wr2 blk off dj∧insInner ltInt a j dj=insInner ltInt a i dk) (fun vj _=>(intOf vj).toNat)
      case atStart=>exact ⟨i,dk,rfl,by omega,Nat.le_refl _,HSK.out,HSk.out,rfl⟩
      case round =>
        obtain ⟨j,dj,rfl,haj,hji,hsj,hSj,hI⟩:=hrel
        have HSj:=Lib.hid hSj;have HI:=Lib.hid hI;have HSJ:=Lib.hid hsj;clear hSj hI hsj
        have OUT:Hid ((j≤a∨ltInt dj[j]! dj[j - 1]! = false)→insOuter ltInt a b (i+1) dj=insertionSort ltInt d a b):=fun h=>by
          rw [← HO.out,insOuter_go _ _ _ _ _ hlt,← HI.out,insInner_stop _ _ _ _ h]
        by_cases hja:a < j
        · obtain ⟨k,rfl⟩:∃ k,j=k+1:=⟨j - 1,by omega⟩
          have d1:decide ((a:Int) < (k:Int)+1)=true:=decide_eq_true (by omega)
          obtain ⟨X,hX⟩:∃ X,X=dj[k+1]!:=⟨_,rfl⟩
          obtain ⟨Y,hY⟩:∃ Y,Y=dj[k]!:=⟨_,rfl⟩
          have HX:=Lib.hid hX;have HY:=Lib.hid hY
          obtain ⟨cX,fX⟩:=HSj.out.holds (k+1) (by rw [HSJ.out];omega)
          obtain ⟨cY,fY⟩:=HSj.out.holds k (by rw [HSJ.out];omega)
          rw [← hX] at cX
          rw [← hY] at cY
          clear hX hY
          have i1:(0:Int)≤(k:Int):=by omega
          have i2:(k:Int) < (D:Int):=by omega
          have i3:(0:Int)≤(k:Int)+1:=by omega
          have i4:(k:Int)+1 < (D:Int):=by omega
          cases hl:ltInt X Y
          · have HL:=Lib.hid hl
            go_wp2_with fail
            have kX:=fun d os=>cell_regrown cX d os
            have kY:=fun d os=>cell_regrown cY d os
            refine wp_region_quiet_below (by kernel_rfl) (by kernel_rfl) ?_
            iterate 15 (first | go_big_quiet_step (first
              | (go_at_call 146;exact Calls.regrown_of (less_any _ _ _))) | fail)
            refine wpQuiet_nil ?_
            intro W3 hw'
            obtain ⟨⟨d3,os⟩,hw''⟩:=hw'
            have hb3:=below_regrown wr d3 os
            rw [← hw''] at hb3
            clear hw'' kX kY cX cY fX fY
            have HS3:=Lib.hid (HSj.out.below hb3);clear hb3
            go_wp2_with fail
            go_roundw
            case rel=>exact ⟨i+1,dj,by go_num,by omega,by omega,HSJ.out,HS3.out,OUT.out (.inr (by rw [Nat.add_sub_cancel,← HX.out,← HY.out];exact HL.out))⟩
            case measure=>(simp [intOf]) <;> omega
          · have HL:=Lib.hid hl
            go_wp2_with fail
            have kX:=fun d os=>cell_regrown cX d os
            have kY:=fun d os=>cell_regrown cY d os
            refine wp_region_quiet_below (by kernel_rfl) (by kernel_rfl) ?_
            iterate 15 (first | go_big_quiet_step (first
              | (go_at_call 146;exact Calls.regrown_of (less_any _ _ _))) | fail)
            refine wpQuiet_nil ?_
            intro W3 hw'
            obtain ⟨⟨d3,os⟩,hw''⟩:=hw'
            have hb3:=below_regrown wr d3 os
            rw [← hw''] at hb3
            clear hw'' kX kY cX cY fX fY
            have HS3:=Lib.hid (HSj.out.below hb3);clear hb3
            obtain ⟨cX,fX⟩:=HS3.out.holds (k+1) (by rw [HSJ.out];omega)
            obtain ⟨cY,fY⟩:=HS3.out.holds k (by rw [HSJ.out];omega)
            rw [← HX.out] at cX
            rw [← HY.out] at cY
            go_wp2_with fail
            go_region
            all_goals
              go_wp2_with fail
              go_roundw
              case rel =>
                refine ⟨k,swp dj (k+1) k,by go_num,by omega,by omega,by rw [size_swp];exact HSJ.out,(HS3.out.swap (i:=k+1) (j:=k) (by rw [HSJ.out];omega) (by rw [HSJ.out];omega) HY.out HX.out).drew,?_⟩
                rw [← HI.out,insInner_go ltInt a (k+1) dj hja (by rw [Nat.add_sub_cancel,← HX.out,← HY.out];exact HL.out),Nat.add_sub_cancel]
              case measure=>(simp [intOf]) <;> omega
        · have d1:decide (a < j)=false:=decide_eq_false hja
          go_wp2_with fail
          refine wp_region_quiet_below (by kernel_rfl) (by kernel_rfl) ?_
          iterate 15 (first | go_big_quiet_step (fail) | fail)
          refine wpQuiet_nil ?_
          intro W3 hw'
          obtain ⟨⟨d3,os⟩,hw''⟩:=hw'
          have hb3:=below_regrown wr d3 os
          rw [← hw''] at hb3
          clear hw''
          have HS3:=Lib.hid (HSj.out.below hb3);clear hb3
          go_wp2_with fail
          go_roundw
          case rel=>exact ⟨i+1,dj,by go_num,by omega,by omega,HSJ.out,HS3.out,OUT.out (.inl (by omega))⟩
          case measure=>simp [intOf];omega
    · have HE:Hid (dk=insertionSort ltInt d a b):=by show _=_;rw [← HO.out,insOuter_stop _ _ _ _ _ hlt]
      go_wp2_with fail
      go_end0
      exact ⟨rfl,by rw [← HE.out];exact HSk.out⟩
end Go.Proofs.YtccbpngehedbaaaGreat

namespace Go.Proofs.YtccbpngehedbaaaGreat
open Go Go.RowKit Go.Sort

/-! The library's sort at []uint32: sifting down. -/
set_option maxRecDepth 20000 in
set_option maxHeartbeats 8000000 in
theorem siftU (blk off cap lo hi F : Nat) (d : Array Int) (w : World) (hs : Srt w w blk off d) (hb : F + hi ≤ d.size) (hsz : d.size ≤ 1000000000) (hlo : lo ≤ 1000000000) :
    Calls Tryz.prog 164 #[.slice (some ⟨blk,off,none⟩) d.size cap,.int .i64 lo,.int .i64 hi,.int .i64 F] w fun e w'=>e=.returned (.tuple #[])∧Srt w w' blk off (siftDown ltInt hi F lo d):=by
  have HS:=Lib.hid hs;clear hs
  obtain ⟨D,hD⟩:∃ D,D=d.size:=⟨_,rfl⟩
  rw [← hD] at hb hsz ⊢
  have HD:=Lib.hid hD;clear hD
  go_enter Tryz.func164,Tryz.ntmps164
  go_wp2_with fail
  go_loopw [8] (fun vr wr=>∃ (r:Nat) (dk:Array Int),vr=.int .i64 r∧r≤1000000000∧dk.size=D∧Srt w wr blk off dk∧siftDown ltInt hi F r dk=siftDown ltInt hi F lo d) (fun vr _=>hi - (intOf vr).toNat)
  case atStart=>exact ⟨lo,d,rfl,hlo,HD.out.symm,HS.out,rfl⟩
  case round =>
    obtain ⟨r,dk,rfl,hr,hsk,hSk,hO⟩:=hrel
    have HSq:=Lib.hid hSk;have HO:=Lib.hid hO;have HSK:=Lib.hid hsk;clear hSk hO hsk
    obtain ⟨C,hCm,hC⟩:∃ C:Nat,C=2 * r+1∧2 * (r:Int)+1=(C:Int):=⟨_,rfl,by omega⟩
    by_cases hlt:hi≤C
    · have HE:Hid (dk=siftDown ltInt hi F lo d):=by show _=_;rw [← HO.out,sd_end ltInt dk (by omega)]
      have b0:C≤2000000001:=by omega
      clear hCm
      go_wp2_with fail
      go_end0
      exact ⟨rfl,by rw [← HE.out];exact HSq.out⟩
    · obtain ⟨R, hRm, hR⟩ : ∃ R : Nat, R = F + r ∧ (F : Int) + (r : Int) = (R : Int) := ⟨_, rfl, by omega⟩
      obtain ⟨L,hLm,hL⟩:∃ L:Nat,L=F+C∧(F:Int)+(C:Int)=(L:Int):=⟨_,rfl,by omega⟩
      obtain ⟨C2,hC2m,hC2⟩:∃ C2:Nat,C2=C+1∧(C:Int)+1=(C2:Int):=⟨_,rfl,by omega⟩
      obtain ⟨L2,hL2m,hL2⟩:∃ L2:Nat,L2=F+C2∧(F:Int)+(C2:Int)=(L2:Int):=⟨_,rfl,by omega⟩
      have hL3:(L:Int)+1=(L2:Int):=by omega
      have HM:Hid (C=2 * r+1∧R=F+r∧L=F+C∧C2=C+1∧L2=F+C2∧L=F+(2 * r+1)∧L2=F+(2 * r+2)∧C2=2 * r+2):=⟨hCm,hRm,hLm,hC2m,hL2m,by omega,by omega,by omega⟩
      have b1:R < D:=by omega
      have b2:L < D:=by omega
      have b3:C < C2:=by omega
      have b4:C2 < hi→L2 < D:=by omega
      have b5:r < C:=by omega
      have b6:C2≤1000000001:=by omega
      clear hCm hRm hLm hC2m hL2m
      have i1:(0:Int)≤(R:Int):=by omega
      have i2:(R:Int) < (D:Int):=by omega
      have i3:(0:Int)≤(L:Int):=by omega
      have i4:(L:Int) < (D:Int):=by omega
      have d0:¬ hi≤C:=hlt
      obtain ⟨X,hX⟩:∃ X,X=dk[R]!:=⟨_,rfl⟩
      have HX:=Lib.hid hX;clear hX
      obtain ⟨Y,hY⟩:∃ Y,Y=dk[L]!:=⟨_,rfl⟩
      have HY:=Lib.hid hY;clear hY
      by_cases hc2:C2 < hi
      · have b7 : L2 < D := b4 hc2
        have i5:(0:Int)≤(L2:Int):=by omega
        have i6:(L2:Int) < (D:Int):=by omega
        have d2:decide (C2 < hi)=true:=decide_eq_true hc2
        obtain ⟨Z,hZ⟩:∃ Z,Z=dk[L2]!:=⟨_,rfl⟩
        have HZ:=Lib.hid hZ;clear hZ
        cases hyz:ltInt Y Z
        · have HYZ:=Lib.hid hyz
          have HN:Hid (2 * r+2 < hi→ltInt dk[F+(2 * r+1)]! dk[F+(2 * r+2)]! = false):=fun _=>by have h:=HYZ.out;rw [HY.out,HZ.out,HM.out.2.2.2.2.2.1,HM.out.2.2.2.2.2.2.1] at h;exact h
          go_wp2_with fail
          obtain ⟨cY,fY⟩:=HSq.out.holds L (by rw [HSK.out];omega)
          rw [← HY.out] at cY
          obtain ⟨cZ,fZ⟩:=HSq.out.holds L2 (by rw [HSK.out];omega)
          rw [← HZ.out] at cZ
          have qcY:=fun d os=>cell_regrown cY d os
          have qcZ:=fun d os=>cell_regrown cZ d os
          refine wp_region_quiet_below (by kernel_rfl) (by kernel_rfl) ?_
          iterate 20 (first | go_big_quiet_step (first
            | (go_at_call 146;exact Calls.regrown_of (less_any _ _ _))) | fail)
          refine wpQuiet_nil ?_
          intro HSpW hw'
          obtain ⟨⟨d3,os⟩,hw''⟩:=hw'
          have hb3:=below_regrown wr d3 os
          rw [← hw''] at hb3
          clear hw'' qcY qcZ cY cZ fY fZ
          have HSp:=Lib.hid (HSq.out.below hb3);clear hb3
          clear hyz
          cases hl:ltInt X Y
          · have HL:=Lib.hid hl
            have HE:Hid (dk=siftDown ltInt hi F lo d):=by show _=_;rw [← HO.out,sd_left_stop ltInt dk (by have:=HM.out.1;omega) HN.out (by have h:=HL.out;rw [HX.out,HY.out,HM.out.2.1,HM.out.2.2.2.2.2.1] at h;exact h)]
            go_wp2_with fail
            obtain ⟨cX,fX⟩:=HSp.out.holds R (by rw [HSK.out];omega)
            rw [← HX.out] at cX
            obtain ⟨cV,fV⟩:=HSp.out.holds L (by rw [HSK.out];omega)
            rw [← HY.out] at cV
            have qcX:=fun d os=>cell_regrown cX d os
            have qcV:=fun d os=>cell_regrown cV d os
            refine wp_region_quiet_below (by kernel_rfl) (by kernel_rfl) ?_
            iterate 14 (first | go_big_quiet_step (first
              | (go_at_call 146;exact Calls.regrown_of (less_any _ _ _))) | fail)
            refine wpQuiet_nil ?_
            intro HSrW hw'
            obtain ⟨⟨d3,os⟩,hw''⟩:=hw'
            have hb3:=below_regrown HSpW d3 os
            rw [← hw''] at hb3
            clear hw'' qcX qcV cX cV fX fV
            have HSr:=Lib.hid (HSp.out.below hb3);clear hb3
            go_wp2_with fail
            refine bodyPost_ret (results_none rfl _ _ _) rfl ?_
            exact ⟨rfl,by rw [← HE.out];exact HSr.out⟩
          · have HL:=Lib.hid hl
            go_wp2_with fail
            obtain ⟨cX,fX⟩:=HSp.out.holds R (by rw [HSK.out];omega)
            rw [← HX.out] at cX
            obtain ⟨cV,fV⟩:=HSp.out.holds L (by rw [HSK.out];omega)
            rw [← HY.out] at cV
            have qcX:=fun d os=>cell_regrown cX d os
            have qcV:=fun d os=>cell_regrown cV d os
            refine wp_region_quiet_below (by kernel_rfl) (by kernel_rfl) ?_
            iterate 14 (first | go_big_quiet_step (first
              | (go_at_call 146;exact Calls.regrown_of (less_any _ _ _))) | fail)
            refine wpQuiet_nil ?_
            intro HSrW hw'
            obtain ⟨⟨d3,os⟩,hw''⟩:=hw'
            have hb3:=below_regrown HSpW d3 os
            rw [← hw''] at hb3
            clear hw'' qcX qcV cX cV fX fV
            have HSr:=Lib.hid (HSp.out.below hb3);clear hb3
            obtain ⟨cX,fX⟩:=HSr.out.holds R (by rw [HSK.out];omega)
            rw [← HX.out] at cX
            obtain ⟨cV,fV⟩:=HSr.out.holds L (by rw [HSK.out];omega)
            rw [← HY.out] at cV
            go_wp2_with fail
            go_region
            all_goals
              go_wp2_with fail
              go_roundw
              case rel =>
                refine ⟨C,swp dk R L,by go_num,by omega,by rw [size_swp];exact HSK.out,(HSr.out.swap (i:=R) (j:=L) (by rw [HSK.out];omega) (by rw [HSK.out];omega) HY.out HX.out).drew,?_⟩
                rw [← HO.out,sd_left_go ltInt dk (by have:=HM.out.1;omega) HN.out (by have h:=HL.out;rw [HX.out,HY.out,HM.out.2.1,HM.out.2.2.2.2.2.1] at h;exact h),HM.out.1,HM.out.2.1,HM.out.2.2.1,HM.out.1]
              case measure=>(simp [intOf]) <;> omega
        · have HYZ:=Lib.hid hyz
          go_wp2_with fail
          obtain ⟨cY,fY⟩:=HSq.out.holds L (by rw [HSK.out];omega)
          rw [← HY.out] at cY
          obtain ⟨cZ,fZ⟩:=HSq.out.holds L2 (by rw [HSK.out];omega)
          rw [← HZ.out] at cZ
          have qcY:=fun d os=>cell_regrown cY d os
          have qcZ:=fun d os=>cell_regrown cZ d os
          refine wp_region_quiet_below (by kernel_rfl) (by kernel_rfl) ?_
          iterate 20 (first | go_big_quiet_step (first
            | (go_at_call 146;exact Calls.regrown_of (less_any _ _ _))) | fail)
          refine wpQuiet_nil ?_
          intro HSpW hw'
          obtain ⟨⟨d3,os⟩,hw''⟩:=hw'
          have hb3:=below_regrown wr d3 os
          rw [← hw''] at hb3
          clear hw'' qcY qcZ cY cZ fY fZ
          have HSp:=Lib.hid (HSq.out.below hb3);clear hb3
          clear hyz
          cases hl:ltInt X Z
          · have HL:=Lib.hid hl
            have HE:Hid (dk=siftDown ltInt hi F lo d):=by show _=_;rw [← HO.out,sd_right_stop ltInt dk (by have:=HM.out.2.2.2.2.2.2.2;omega) (by have h:=HYZ.out;rw [HY.out,HZ.out,HM.out.2.2.2.2.2.1,HM.out.2.2.2.2.2.2.1] at h;exact h) (by have h:=HL.out;rw [HX.out,HZ.out,HM.out.2.1,HM.out.2.2.2.2.2.2.1] at h;exact h)]
            go_wp2_with fail
            obtain ⟨cX,fX⟩:=HSp.out.holds R (by rw [HSK.out];omega)
            rw [← HX.out] at cX
            obtain ⟨cV,fV⟩:=HSp.out.holds L2 (by rw [HSK.out];omega)
            rw [← HZ.out] at cV
            have qcX:=fun d os=>cell_regrown cX d os
            have qcV:=fun d os=>cell_regrown cV d os
            refine wp_region_quiet_below (by kernel_rfl) (by kernel_rfl) ?_
            iterate 14 (first | go_big_quiet_step (first
              | (go_at_call 146;exact Calls.regrown_of (less_any _ _ _))) | fail)
            refine wpQuiet_nil ?_
            intro HSrW hw'
            obtain ⟨⟨d3,os⟩,hw''⟩:=hw'
            have hb3:=below_regrown HSpW d3 os
            rw [← hw''] at hb3
            clear hw'' qcX qcV cX cV fX fV
            have HSr:=Lib.hid (HSp.out.below hb3);clear hb3
            go_wp2_with fail
            refine bodyPost_ret (results_none rfl _ _ _) rfl ?_
            exact ⟨rfl,by rw [← HE.out];exact HSr.out⟩
          · have HL:=Lib.hid hl
            go_wp2_with fail
            obtain ⟨cX,fX⟩:=HSp.out.holds R (by rw [HSK.out];omega)
            rw [← HX.out] at cX
            obtain ⟨cV,fV⟩:=HSp.out.holds L2 (by rw [HSK.out];omega)
            rw [← HZ.out] at cV
            have qcX:=fun d os=>cell_regrown cX d os
            have qcV:=fun d os=>cell_regrown cV d os
            refine wp_region_quiet_below (by kernel_rfl) (by kernel_rfl) ?_
            iterate 14 (first | go_big_quiet_step (first
              | (go_at_call 146;exact Calls.regrown_of (less_any _ _ _))) | fail)
            refine wpQuiet_nil ?_
            intro HSrW hw'
            obtain ⟨⟨d3,os⟩,hw''⟩:=hw'
            have hb3:=below_regrown HSpW d3 os
            rw [← hw''] at hb3
            clear hw'' qcX qcV cX cV fX fV
            have HSr:=Lib.hid (HSp.out.below hb3);clear hb3
            obtain ⟨cX,fX⟩:=HSr.out.holds R (by rw [HSK.out];omega)
            rw [← HX.out] at cX
            obtain ⟨cV,fV⟩:=HSr.out.holds L2 (by rw [HSK.out];omega)
            rw [← HZ.out] at cV
            go_wp2_with fail
            go_region
            all_goals
              go_wp2_with fail
              go_roundw
              case rel =>
                refine ⟨C2,swp dk R L2,by go_num,by omega,by rw [size_swp];exact HSK.out,(HSr.out.swap (i:=R) (j:=L2) (by rw [HSK.out];omega) (by rw [HSK.out];omega) HZ.out HX.out).drew,?_⟩
                rw [← HO.out,sd_right_go ltInt dk (by have:=HM.out.2.2.2.2.2.2.2;omega) (by have h:=HYZ.out;rw [HY.out,HZ.out,HM.out.2.2.2.2.2.1,HM.out.2.2.2.2.2.2.1] at h;exact h) (by have h:=HL.out;rw [HX.out,HZ.out,HM.out.2.1,HM.out.2.2.2.2.2.2.1] at h;exact h),HM.out.2.2.2.2.2.2.2,HM.out.2.1,HM.out.2.2.2.2.2.2.1]
              case measure=>(simp [intOf]) <;> omega
      · have d2:decide (C2 < hi)=false:=decide_eq_false hc2
        have HN:Hid (2 * r+2 < hi→ltInt dk[F+(2 * r+1)]! dk[F+(2 * r+2)]! = false):=fun h=>absurd h (by have:=HM.out.2.2.2.2.2.2.2;omega)
        go_wp2_with fail
        refine wp_region_quiet_below (by kernel_rfl) (by kernel_rfl) ?_
        iterate 20 (first | go_big_quiet_step (first
          | (go_at_call 146;exact Calls.regrown_of (less_any _ _ _))) | fail)
        refine wpQuiet_nil ?_
        intro HSpW hw'
        obtain ⟨⟨d3,os⟩,hw''⟩:=hw'
        have hb3:=below_regrown wr d3 os
        rw [← hw''] at hb3
        clear hw''   
        have HSp:=Lib.hid (HSq.out.below hb3);clear hb3
        cases hl:ltInt X Y
        · have HL:=Lib.hid hl
          have HE:Hid (dk=siftDown ltInt hi F lo d):=by show _=_;rw [← HO.out,sd_left_stop ltInt dk (by have:=HM.out.1;omega) HN.out (by have h:=HL.out;rw [HX.out,HY.out,HM.out.2.1,HM.out.2.2.2.2.2.1] at h;exact h)]
          go_wp2_with fail
          obtain ⟨cX,fX⟩:=HSp.out.holds R (by rw [HSK.out];omega)
          rw [← HX.out] at cX
          obtain ⟨cV,fV⟩:=HSp.out.holds L (by rw [HSK.out];omega)
          rw [← HY.out] at cV
          have qcX:=fun d os=>cell_regrown cX d os
          have qcV:=fun d os=>cell_regrown cV d os
          refine wp_region_quiet_below (by kernel_rfl) (by kernel_rfl) ?_
          iterate 14 (first | go_big_quiet_step (first
            | (go_at_call 146;exact Calls.regrown_of (less_any _ _ _))) | fail)
          refine wpQuiet_nil ?_
          intro HSrW hw'
          obtain ⟨⟨d3,os⟩,hw''⟩:=hw'
          have hb3:=below_regrown HSpW d3 os
          rw [← hw''] at hb3
          clear hw'' qcX qcV cX cV fX fV
          have HSr:=Lib.hid (HSp.out.below hb3);clear hb3
          go_wp2_with fail
          refine bodyPost_ret (results_none rfl _ _ _) rfl ?_
          exact ⟨rfl,by rw [← HE.out];exact HSr.out⟩
        · have HL:=Lib.hid hl
          go_wp2_with fail
          obtain ⟨cX,fX⟩:=HSp.out.holds R (by rw [HSK.out];omega)
          rw [← HX.out] at cX
          obtain ⟨cV,fV⟩:=HSp.out.holds L (by rw [HSK.out];omega)
          rw [← HY.out] at cV
          have qcX:=fun d os=>cell_regrown cX d os
          have qcV:=fun d os=>cell_regrown cV d os
          refine wp_region_quiet_below (by kernel_rfl) (by kernel_rfl) ?_
          iterate 14 (first | go_big_quiet_step (first
            | (go_at_call 146;exact Calls.regrown_of (less_any _ _ _))) | fail)
          refine wpQuiet_nil ?_
          intro HSrW hw'
          obtain ⟨⟨d3,os⟩,hw''⟩:=hw'
          have hb3:=below_regrown HSpW d3 os
          rw [← hw''] at hb3
          clear hw'' qcX qcV cX cV fX fV
          have HSr:=Lib.hid (HSp.out.below hb3);clear hb3
          obtain ⟨cX,fX⟩:=HSr.out.holds R (by rw [HSK.out];omega)
          rw [← HX.out] at cX
          obtain ⟨cV,fV⟩:=HSr.out.holds L (by rw [HSK.out];omega)
          rw [← HY.out] at cV
          go_wp2_with fail
          go_region
          all_goals
            go_wp2_with fail
            go_roundw
            case rel =>
              refine ⟨C,swp dk R L,by go_num,by omega,by rw [size_swp];exact HSK.out,(HSr.out.swap (i:=R) (j:=L) (by rw [HSK.out];omega) (by rw [HSK.out];omega) HY.out HX.out).drew,?_⟩
              rw [← HO.out,sd_left_go ltInt dk (by have:=HM.out.1;omega) HN.out (by have h:=HL.out;rw [HX.out,HY.out,HM.out.2.1,HM.out.2.2.2.2.2.1] at h;exact h),HM.out.1,HM.out.2.1,HM.out.2.2.1,HM.out.1]
            case measure=>(simp [intOf]) <;> omega
end Go.Proofs.YtccbpngehedbaaaGreat

namespace Go.Proofs.YtccbpngehedbaaaGreat
open Go Go.RowKit Go.Sort

/-! The library's sort at []uint32: by a heap; turned round. -/
theorem size_sift (hi F root:Nat) (d:Array Int):(siftDown ltInt hi F root d).size=d.size:=size_siftDown ltInt hi F _ root d (Nat.le_refl _)
theorem siftU_at (blk off cap D lo hi F:Nat) (d:Array Int) (w0 w:World) (hs:Srt w0 w blk off d) (hD:d.size=D) (hb:F+hi≤D) (hsz:D≤1000000000) (hlo:lo≤1000000000) :
    Calls Tryz.prog 164 #[.slice (some ⟨blk,off,none⟩) D cap,.int .i64 lo,.int .i64 hi,.int .i64 F] w fun e w'=>e=.returned (.tuple #[])∧Srt w0 w' blk off (siftDown ltInt hi F lo d):=by
  subst hD
  exact (siftU blk off cap lo hi F d w hs.start hb hsz hlo).mono fun e w' ⟨h1,h2⟩=>⟨h1,hs.trans h2⟩
set_option maxRecDepth 20000 in
set_option maxHeartbeats 8000000 in
theorem heapU (blk off cap a b : Nat) (d : Array Int) (w : World) (hs : Srt w w blk off d) (hab : a < b) (hb : b ≤ d.size) (hsz : d.size ≤ 1000000000) :
    Calls Tryz.prog 141 #[.slice (some ⟨blk,off,none⟩) d.size cap,.int .i64 a,.int .i64 b] w fun e w'=>e=.returned (.tuple #[])∧Srt w w' blk off (heapSort ltInt d a b):=by
  have HS:=Lib.hid hs;clear hs
  obtain ⟨D,hD⟩:∃ D,D=d.size:=⟨_,rfl⟩
  rw [← hD] at hb hsz ⊢
  have HD:=Lib.hid hD;clear hD
  obtain ⟨H,hHm,hH⟩:∃ H:Nat,H=b - a∧(b:Int) - (a:Int)=(H:Int):=⟨_,rfl,by omega⟩
  obtain ⟨q,hqm,hq⟩:∃ q:Nat,q=(H - 1) / 2∧((H:Int) - 1).tdiv 2=(q:Int):=⟨_,rfl,by rw [Int.tdiv_eq_ediv_of_nonneg (by omega)];omega⟩
  have HDEF:Hid (heapSort ltInt d a b=heapPop ltInt a H (heapBuild ltInt H a (q+1) d)):=by show _=_;unfold heapSort;rw [hqm,hHm]
  have b1:a+H≤D:=by omega
  have b2:1≤H:=by omega
  have b3:q < H:=by omega
  clear hHm hqm
  go_enter Tryz.func141,Tryz.ntmps141
  go_wp2_with fail
  go_loopw [9] (fun v wr=>∃ (k:Nat) (dk:Array Int),v=.int .i64 ((k:Int) - 1)∧k≤q+1∧dk.size=D∧Srt w wr blk off dk∧heapBuild ltInt H a k dk=heapBuild ltInt H a (q+1) d) (fun v _=>(intOf v+1).toNat)
  case atStart=>exact ⟨q+1,d,by congr 1;omega,Nat.le_refl _,HD.out.symm,HS.out,rfl⟩
  case round =>
    obtain ⟨k,dk,hv,hk,hsk,hSk,hO⟩:=hrel
    have HSq:=Lib.hid hSk;have HO:=Lib.hid hO;have HSK:=Lib.hid hsk;clear hSk hO hsk
    cases k with
    | succ k =>
      obtain rfl:u9=.int .i64 (k:Int):=by rw [hv];congr 1;omega
      clear hv
      go_wp2_with fail
      refine (siftU_at blk off cap D k H a dk w wr HSq.out HSK.out b1 hsz (by omega)).mono ?_
      rintro e w5 ⟨rfl,h5⟩
      have H5:=Lib.hid h5;clear h5
      go_wp2_with fail
      go_roundw
      case rel=>exact ⟨k,_,by rfl,by omega,by rw [size_sift];exact HSK.out,H5.out,HO.out⟩
      case measure=>(simp [intOf]) <;> omega
    | zero =>
      obtain rfl:u9=.int .i64 (-1):=by rw [hv];rfl
      have HB:Hid (dk=heapBuild ltInt H a (q+1) d):=HO.out
      clear hv
      go_wp2_with fail
      go_loopw [10] (fun v wr=>∃ (k:Nat) (dj:Array Int),v=.int .i64 ((k:Int) - 1)∧k≤H∧dj.size=D∧Srt w wr blk off dj∧heapPop ltInt a k dj=heapSort ltInt d a b) (fun v _=>(intOf v+1).toNat)
      case atStart=>exact ⟨H,dk,rfl,Nat.le_refl _,HSK.out,HSq.out,by rw [HDEF.out,← HB.out]⟩
      case round =>
        obtain ⟨k,dj,hv,hk,hsk,hSk,hO⟩:=hrel
        have HSj:=Lib.hid hSk;have HOj:=Lib.hid hO;have HSJ:=Lib.hid hsk;clear hSk hO hsk
        cases k with
        | succ k =>
          obtain rfl:u10=.int .i64 (k:Int):=by rw [hv];congr 1;omega
          clear hv
          obtain ⟨L,hLm,hL⟩:∃ L:Nat,L=a+k∧(a:Int)+(k:Int)=(L:Int):=⟨_,rfl,by omega⟩
          have HLM:=Lib.hid hLm
          have i1:(0:Int)≤(L:Int):=by omega
          have i2:(L:Int) < (D:Int):=by omega
          have i3:(0:Int)≤(a:Int):=by omega
          have i4:(a:Int) < (D:Int):=by omega
          have b5:L < D:=by omega
          have b6:a < D:=by omega
          clear hLm
          obtain ⟨X,hX⟩:∃ X,X=dj[a]!:=⟨_,rfl⟩
          have HX:=Lib.hid hX;clear hX
          obtain ⟨Y,hY⟩:∃ Y,Y=dj[L]!:=⟨_,rfl⟩
          have HY:=Lib.hid hY;clear hY
          obtain ⟨cX,fX⟩:=HSj.out.holds a (by rw [HSJ.out];omega)
          rw [← HX.out] at cX
          obtain ⟨cY,fY⟩:=HSj.out.holds L (by rw [HSJ.out];omega)
          rw [← HY.out] at cY
          by_cases hk0:k=0
          · subst hk0
            obtain rfl:L=a:=by omega
            have hXY:Y=X:=by rw [HX.out,HY.out]
            subst hXY
            go_wp2_with fail
            go_region
            all_goals
              have HV:Hid (Srt w ((wr.setCell ⟨blk,off+L,none⟩ (.int .u32 Y)).setCell ⟨blk,off+L,none⟩ (.int .u32 Y)).drew blk off (swp dj L L)):=(HSj.out.swap (i:=L) (j:=L) (by rw [HSJ.out];omega) (by rw [HSJ.out];omega) HY.out HX.out).drew
              clear cX cY fX fY
              go_wp2_with fail
              refine (siftU_at blk off cap D 0 0 L (swp dj L L) w _ HV.out (by rw [size_swp];exact HSJ.out) (by omega) hsz (by omega)).mono ?_
              rintro e w5 ⟨rfl,h5⟩
              have H5:=Lib.hid h5;clear h5
              go_wp2_with fail
              go_roundw
              case rel=>exact ⟨0,_,by rfl,by omega,by rw [size_sift,size_swp];exact HSJ.out,H5.out,by rw [← HOj.out,HLM.out];rfl⟩
              case measure=>(simp [intOf]) <;> omega
          · have hne:a ≠ L:=by omega
            go_wp2_with fail
            go_region
            all_goals
              have HV:Hid (Srt w ((wr.setCell ⟨blk,off+a,none⟩ (.int .u32 Y)).setCell ⟨blk,off+L,none⟩ (.int .u32 X)).drew blk off (swp dj a L)):=(HSj.out.swap (i:=a) (j:=L) (by rw [HSJ.out];omega) (by rw [HSJ.out];omega) HY.out HX.out).drew
              clear cX cY fX fY
              go_wp2_with fail
              refine (siftU_at blk off cap D 0 k a (swp dj a L) w _ HV.out (by rw [size_swp];exact HSJ.out) (by omega) hsz (by omega)).mono ?_
              rintro e w5 ⟨rfl,h5⟩
              have H5:=Lib.hid h5;clear h5
              go_wp2_with fail
              go_roundw
              case rel=>exact ⟨k,_,by rfl,by omega,by rw [size_sift,size_swp];exact HSJ.out,H5.out,by rw [← HOj.out,HLM.out];rfl⟩
              case measure=>(simp [intOf]) <;> omega
        | zero =>
          obtain rfl:u10=.int .i64 (-1):=by rw [hv];rfl
          have HE:Hid (dj=heapSort ltInt d a b):=HOj.out
          clear hv
          go_wp2_with fail
          go_end0
          exact ⟨rfl,by rw [← HE.out];exact HSj.out⟩
set_option maxRecDepth 20000 in
set_option maxHeartbeats 8000000 in
theorem revU (blk off cap a b : Nat) (d : Array Int) (w : World) (hs : Srt w w blk off d) (hab : a < b) (hb : b ≤ d.size) (hsz : d.size ≤ 1000000000) :
    Calls Tryz.prog 144 #[.slice (some ⟨blk,off,none⟩) d.size cap,.int .i64 a,.int .i64 b] w fun e w'=>e=.returned (.tuple #[])∧Srt w w' blk off (reverseRange d a b):=by
  have HS:=Lib.hid hs;clear hs
  obtain ⟨D,hD⟩:∃ D,D=d.size:=⟨_,rfl⟩
  rw [← hD] at hb hsz ⊢
  have HD:=Lib.hid hD;clear hD
  obtain ⟨B,hBm,hB⟩:∃ B:Nat,B=b - 1∧(b:Int) - 1=(B:Int):=⟨_,rfl,by omega⟩
  have HDEF:Hid (reverseRange d a b=reverseLoop a B d):=by show _=_;rw [hBm];rfl
  have b1:B < D:=by omega
  clear hBm
  go_enter Tryz.func144,Tryz.ntmps144
  go_wp2_with fail
  go_loopw [6,7] (fun vi vj wr=>∃ (i j:Nat) (dk:Array Int),vi=.int .i64 i∧vj=.int .i64 j∧j < D∧dk.size=D∧Srt w wr blk off dk∧reverseLoop i j dk=reverseRange d a b) (fun _ vj _=>(intOf vj).toNat)
  case atStart=>exact ⟨a,B,d,rfl,rfl,b1,HD.out.symm,HS.out,HDEF.out.symm⟩
  case round =>
    obtain ⟨i,j,dk,rfl,rfl,hj,hsk,hSk,hO⟩:=hrel
    have HSq:=Lib.hid hSk;have HO:=Lib.hid hO;have HSK:=Lib.hid hsk;clear hSk hO hsk
    by_cases hlt:i < j
    · have i1:(0:Int)≤(i:Int):=by omega
      have i2:(i:Int) < (D:Int):=by omega
      have i3:(0:Int)≤(j:Int):=by omega
      have i4:(j:Int) < (D:Int):=by omega
      have e5:(j:Int) - 1=((j - 1:Nat):Int):=by omega
      obtain ⟨X,hX⟩:∃ X,X=dk[i]!:=⟨_,rfl⟩
      have HX:=Lib.hid hX;clear hX
      obtain ⟨Y,hY⟩:∃ Y,Y=dk[j]!:=⟨_,rfl⟩
      have HY:=Lib.hid hY;clear hY
      obtain ⟨cX,fX⟩:=HSq.out.holds i (by rw [HSK.out];omega)
      rw [← HX.out] at cX
      obtain ⟨cY,fY⟩:=HSq.out.holds j (by rw [HSK.out];omega)
      rw [← HY.out] at cY
      go_wp2_with fail
      go_region
      all_goals
        go_wp2_with fail
        go_roundw
        case rel =>
          refine ⟨i+1,j - 1,swp dk i j,by go_num,rfl,by omega,by rw [size_swp];exact HSK.out,(HSq.out.swap (i:=i) (j:=j) (by rw [HSK.out];omega) (by rw [HSK.out];omega) HY.out HX.out).drew,?_⟩
          rw [← HO.out];conv=>rhs;rw [reverseLoop,if_pos hlt]
        case measure=>(simp [intOf]) <;> omega
    · have HE:Hid (dk=reverseRange d a b):=by show _=_;rw [← HO.out,reverseLoop,if_neg hlt]
      go_wp2_with fail
      go_end0
      exact ⟨rfl,by rw [← HE.out];exact HSq.out⟩
end Go.Proofs.YtccbpngehedbaaaGreat

namespace Go.Proofs.YtccbpngehedbaaaGreat
open Go Go.RowKit Go.Sort

/-! The library's sort at []uint32: parting by what equals the pivot. -/
/-- The first exchange, of two places that may be one. -/
theorem Srt.swap_any {w0 w:World} {blk off:Nat} {d:Array Int} (h:Srt w0 w blk off d) {i j:Nat} (hi:i < d.size) (hj:j < d.size) {x y:Int} (hx:x=d[j]!) (hy:y=d[i]!) :
    Srt w0 ((w.setCell ⟨blk,off+i,none⟩ (.int .u32 x)).setCell ⟨blk,off+j,none⟩ (.int .u32 y)).drew blk off (swp d i j):=(h.swap hi hj hx hy).drew
set_option maxRecDepth 20000 in
set_option maxHeartbeats 16000000 in
theorem peqU (blk off cap a b pv : Nat) (d : Array Int) (w : World) (hs : Srt w w blk off d) (hb : b ≤ d.size) (hsz : d.size ≤ 1000000000) (hp1 : a < pv) (hp2 : pv < b) :
    Calls Tryz.prog 147 #[.slice (some ⟨blk,off,none⟩) d.size cap,.int .i64 a,.int .i64 b,.int .i64 pv] w fun e w'=>e=.returned (.int .i64 ((partitionEqual ltInt d a b pv).1:Nat))∧Srt w w' blk off (partitionEqual ltInt d a b pv).2:=by
  have HS:=Lib.hid hs;clear hs
  obtain ⟨D,hD⟩:∃ D,D=d.size:=⟨_,rfl⟩
  rw [← hD] at hb hsz ⊢
  have HD:=Lib.hid hD;clear hD
  have HDEF:Hid (partitionEqual ltInt d a b pv=partEqLoop ltInt a (a+1) (b - 1) (swp d a pv)):=rfl
  obtain ⟨B,hBm,hB⟩:∃ B:Nat,B=b - 1∧(b:Int) - 1=(B:Int):=⟨_,rfl,by omega⟩
  rw [← hBm] at HDEF
  have b1:B < D:=by omega
  have b2:a < B:=by omega
  clear hBm
  have i1:(0:Int)≤(a:Int):=by omega
  have i2:(a:Int) < (D:Int):=by omega
  have i3:(0:Int)≤(pv:Int):=by omega
  have i4:(pv:Int) < (D:Int):=by omega
  obtain ⟨X,hX⟩:∃ X,X=d[a]!:=⟨_,rfl⟩
  have HX:=Lib.hid hX;clear hX
  obtain ⟨Y,hY⟩:∃ Y,Y=d[pv]!:=⟨_,rfl⟩
  have HY:=Lib.hid hY;clear hY
  obtain ⟨cX,fX⟩:=HS.out.holds a (by rw [← HD.out];omega)
  rw [← HX.out] at cX
  obtain ⟨cY,fY⟩:=HS.out.holds pv (by rw [← HD.out];omega)
  rw [← HY.out] at cY
  go_enter Tryz.func147,Tryz.ntmps147
  go_wp2_with fail
  go_region
  all_goals
    have HS1:Hid (Srt w ((w.setCell ⟨blk,off+a,none⟩ (.int .u32 Y)).setCell ⟨blk,off+pv,none⟩ (.int .u32 X)).drew blk off (swp d a pv)):=HS.out.swap_any (by rw [← HD.out];omega) (by rw [← HD.out];omega) HY.out HX.out
    have HZ1:Hid ((swp d a pv).size=D):=by show _=_;rw [size_swp];exact HD.out.symm
    clear cX cY fX fY
    go_wp2_with fail
    go_loopw [9,10] (fun vi vj wr=>∃ (i j:Nat) (dk:Array Int),vi=.int .i64 i∧vj=.int .i64 j∧a+1≤i∧i≤j+1∧j < D∧dk.size=D∧Srt w wr blk off dk∧partEqLoop ltInt a i j dk=partitionEqual ltInt d a b pv) (fun vi vj _=>(intOf vj).toNat+1 - (intOf vi).toNat)
    case atStart=>exact ⟨a+1,B,_,by go_num,rfl,Nat.le_refl _,by omega,b1,HZ1.out,HS1.out,HDEF.out.symm⟩
    case round =>
      obtain ⟨i,j,dk,rfl,rfl,hi1,hij,hjD,hsk,hSk,hO⟩:=hrel
      have HSq:=Lib.hid hSk;have HO:=Lib.hid hO;have HSK:=Lib.hid hsk;clear hSk hO hsk
      obtain ⟨A,hA⟩:∃ A,A=dk[a]!:=⟨_,rfl⟩
      have HA:=Lib.hid hA;clear hA
      go_upto_block 2 with fail
      go_cut [9] from 29 to 82 (fun s wc=>∃ k2:Nat,s=.int .i64 k2∧i≤k2∧k2≤j+1∧k2=scanUp (fun x=>!ltInt dk[a]! x) dk j i∧Srt w wc blk off dk)
      case first =>
        go_wp2_with fail
        go_loopw [9] (fun v wr=>∃ k:Nat,v=.int .i64 k∧i≤k∧k≤j+1∧scanUp (fun x=>!ltInt dk[a]! x) dk j k=scanUp (fun x=>!ltInt dk[a]! x) dk j i∧Srt w wr blk off dk) (fun v _=>j+1 - (intOf v).toNat)
        case atStart=>exact ⟨i,rfl,Nat.le_refl _,by omega,rfl,HSq.out⟩
        case round =>
          obtain ⟨k,rfl,hk1,hk2,hsc,hSk⟩:=hrel
          have HSC:=Lib.hid hsc;have HSi:=Lib.hid hSk;clear hsc hSk
          by_cases hlt:k≤j
          · have d1:decide (k≤j)=true:=decide_eq_true hlt
            have j1:(0:Int)≤(k:Int):=by omega
            have j2:(k:Int) < (D:Int):=by omega
            obtain ⟨V,hV⟩:∃ V,V=dk[k]!:=⟨_,rfl⟩
            have HV:=Lib.hid hV;clear hV
            cases hl:ltInt A V
            · have HL:=Lib.hid hl
              have HPT:Hid (((fun x=>!ltInt dk[a]! x)) dk[k]! = true):=by show _=_;rw [HA.out,HV.out] at hl;simp [hl]
              go_wp2_with fail
              obtain ⟨cA,fA⟩:=HSi.out.holds a (by rw [HSK.out];omega)
              rw [← HA.out] at cA
              obtain ⟨cV,fV⟩:=HSi.out.holds k (by rw [HSK.out];omega)
              rw [← HV.out] at cV
              have qcA:=fun d os=>cell_regrown cA d os
              have qcV:=fun d os=>cell_regrown cV d os
              refine wp_region_quiet_below (by kernel_rfl) (by kernel_rfl) ?_
              iterate 15 (first | go_big_quiet_step (first
                | (go_at_call 146;exact Calls.regrown_of (less_any _ _ _))) | fail)
              refine wpQuiet_nil ?_
              intro HSeW hw'
              obtain ⟨⟨d3,os⟩,hw''⟩:=hw'
              have hb3:=below_regrown wr d3 os
              rw [← hw''] at hb3
              clear hw'' qcA qcV cA cV fA fV hl
              have HSe:=Lib.hid (HSi.out.below hb3);clear hb3
              go_wp2_with fail
              go_roundw
              case rel=>exact ⟨k+1,by go_num,by omega,by omega,by rw [← HSC.out,scanUp_go (fun x=>!ltInt dk[a]! x) dk j k hlt HPT.out],HSe.out⟩
              case measure=>(simp [intOf]) <;> omega
            · have HL:=Lib.hid hl
              have HPT:Hid (((fun x=>!ltInt dk[a]! x)) dk[k]! = false):=by show _=_;rw [HA.out,HV.out] at hl;simp [hl]
              go_wp2_with fail
              obtain ⟨cA,fA⟩:=HSi.out.holds a (by rw [HSK.out];omega)
              rw [← HA.out] at cA
              obtain ⟨cV,fV⟩:=HSi.out.holds k (by rw [HSK.out];omega)
              rw [← HV.out] at cV
              have qcA:=fun d os=>cell_regrown cA d os
              have qcV:=fun d os=>cell_regrown cV d os
              refine wp_region_quiet_below (by kernel_rfl) (by kernel_rfl) ?_
              iterate 15 (first | go_big_quiet_step (first
                | (go_at_call 146;exact Calls.regrown_of (less_any _ _ _))) | fail)
              refine wpQuiet_nil ?_
              intro HSeW hw'
              obtain ⟨⟨d3,os⟩,hw''⟩:=hw'
              have hb3:=below_regrown wr d3 os
              rw [← hw''] at hb3
              clear hw'' qcA qcV cA cV fA fV hl
              have HSe:=Lib.hid (HSi.out.below hb3);clear hb3
              go_wp2_with fail
              go_meet
              case rel=>exact ⟨k,rfl,by omega,by omega,by rw [← HSC.out,scanUp_end (fun x=>!ltInt dk[a]! x) dk j k (.inr HPT.out)],HSe.out⟩
          · have d1:decide (k≤j)=false:=decide_eq_false hlt
            go_wp2_with fail
            refine wp_region_quiet_below (by kernel_rfl) (by kernel_rfl) ?_
            iterate 15 (first | go_big_quiet_step (first
              | (go_at_call 146;exact Calls.regrown_of (less_any _ _ _))) | fail)
            refine wpQuiet_nil ?_
            intro HSeW hw'
            obtain ⟨⟨d3,os⟩,hw''⟩:=hw'
            have hb3:=below_regrown wr d3 os
            rw [← hw''] at hb3
            clear hw''   
            have HSe:=Lib.hid (HSi.out.below hb3);clear hb3
            go_wp2_with fail
            go_meet
            case rel=>exact ⟨k,rfl,by omega,by omega,by rw [← HSC.out,scanUp_end (fun x=>!ltInt dk[a]! x) dk j k (.inl hlt)],HSe.out⟩
      case rest =>
        obtain ⟨ii,rfl,hii1,hii2,hii3,hii4⟩:=hcut
        have HSii:=Lib.hid hii4;have Hii3:=Lib.hid hii3;clear hii4 hii3
        go_upto_block 4 with fail
        go_cut [10] from 29 to 82 (fun s wc=>∃ k2:Nat,s=.int .i64 k2∧ii≤k2+1∧k2≤j∧k2=scanDown (fun x=>ltInt dk[a]! x) dk ii j∧Srt w wc blk off dk)
        case first =>
          go_wp2_with fail
          go_loopw [10] (fun v wr=>∃ k:Nat,v=.int .i64 k∧ii≤k+1∧k≤j∧scanDown (fun x=>ltInt dk[a]! x) dk ii k=scanDown (fun x=>ltInt dk[a]! x) dk ii j∧Srt w wr blk off dk) (fun v _=>(intOf v).toNat)
          case atStart=>exact ⟨j,rfl,by omega,Nat.le_refl _,rfl,HSii.out⟩
          case round =>
            obtain ⟨k,rfl,hk1,hk2,hsc,hSk⟩:=hrel
            have HSC:=Lib.hid hsc;have HSi:=Lib.hid hSk;clear hsc hSk
            by_cases hlt:ii≤k
            · have d1:decide (ii≤k)=true:=decide_eq_true hlt
              have j1:(0:Int)≤(k:Int):=by omega
              have j2:(k:Int) < (D:Int):=by omega
              obtain ⟨V,hV⟩:∃ V,V=dk[k]!:=⟨_,rfl⟩
              have HV:=Lib.hid hV;clear hV
              cases hl:ltInt A V
              · have HL:=Lib.hid hl
                have HPT:Hid (((fun x=>ltInt dk[a]! x)) dk[k]! = false):=by show _=_;rw [HA.out,HV.out] at hl;simp [hl]
                go_wp2_with fail
                obtain ⟨cA,fA⟩:=HSi.out.holds a (by rw [HSK.out];omega)
                rw [← HA.out] at cA
                obtain ⟨cV,fV⟩:=HSi.out.holds k (by rw [HSK.out];omega)
                rw [← HV.out] at cV
                have qcA:=fun d os=>cell_regrown cA d os
                have qcV:=fun d os=>cell_regrown cV d os
                refine wp_region_quiet_below (by kernel_rfl) (by kernel_rfl) ?_
                iterate 14 (first | go_big_quiet_step (first
                  | (go_at_call 146;exact Calls.regrown_of (less_any _ _ _))) | fail)
                refine wpQuiet_nil ?_
                intro HSeW hw'
                obtain ⟨⟨d3,os⟩,hw''⟩:=hw'
                have hb3:=below_regrown wr d3 os
                rw [← hw''] at hb3
                clear hw'' qcA qcV cA cV fA fV hl
                have HSe:=Lib.hid (HSi.out.below hb3);clear hb3
                go_wp2_with fail
                go_meet
                case rel=>exact ⟨k,rfl,by omega,by omega,by rw [← HSC.out,scanDown_end (fun x=>ltInt dk[a]! x) dk ii k (.inr HPT.out)],HSe.out⟩
              · have HL:=Lib.hid hl
                have HPT:Hid (((fun x=>ltInt dk[a]! x)) dk[k]! = true):=by show _=_;rw [HA.out,HV.out] at hl;simp [hl]
                go_wp2_with fail
                obtain ⟨cA,fA⟩:=HSi.out.holds a (by rw [HSK.out];omega)
                rw [← HA.out] at cA
                obtain ⟨cV,fV⟩:=HSi.out.holds k (by rw [HSK.out];omega)
                rw [← HV.out] at cV
                have qcA:=fun d os=>cell_regrown cA d os
                have qcV:=fun d os=>cell_regrown cV d os
                refine wp_region_quiet_below (by kernel_rfl) (by kernel_rfl) ?_
                iterate 14 (first | go_big_quiet_step (first
                  | (go_at_call 146;exact Calls.regrown_of (less_any _ _ _))) | fail)
                refine wpQuiet_nil ?_
                intro HSeW hw'
                obtain ⟨⟨d3,os⟩,hw''⟩:=hw'
                have hb3:=below_regrown wr d3 os
                rw [← hw''] at hb3
                clear hw'' qcA qcV cA cV fA fV hl
                have HSe:=Lib.hid (HSi.out.below hb3);clear hb3
                go_wp2_with fail
                go_roundw
                case rel=>exact ⟨k - 1,by congr 1;omega,by omega,by omega,by rw [← HSC.out,scanDown_go (fun x=>ltInt dk[a]! x) dk ii k hlt (by omega) HPT.out],HSe.out⟩
                case measure=>(simp [intOf]) <;> omega
            · have d1:decide (ii≤k)=false:=decide_eq_false hlt
              go_wp2_with fail
              refine wp_region_quiet_below (by kernel_rfl) (by kernel_rfl) ?_
              iterate 14 (first | go_big_quiet_step (first
                | (go_at_call 146;exact Calls.regrown_of (less_any _ _ _))) | fail)
              refine wpQuiet_nil ?_
              intro HSeW hw'
              obtain ⟨⟨d3,os⟩,hw''⟩:=hw'
              have hb3:=below_regrown wr d3 os
              rw [← hw''] at hb3
              clear hw''   
              have HSe:=Lib.hid (HSi.out.below hb3);clear hb3
              go_wp2_with fail
              go_meet
              case rel=>exact ⟨k,rfl,by omega,by omega,by rw [← HSC.out,scanDown_end (fun x=>ltInt dk[a]! x) dk ii k (.inl hlt)],HSe.out⟩
        case rest =>
          obtain ⟨jj,rfl,hjj1,hjj2,hjj3,hjj4⟩:=hcut
          have HSjj:=Lib.hid hjj4;have Hjj3:=Lib.hid hjj3;clear hjj4 hjj3
          by_cases hgt:jj < ii
          · have HE:Hid (partitionEqual ltInt d a b pv=(ii,dk)):=by show _=_;rw [← HO.out,partEq_break ltInt a i j dk Hii3.out Hjj3.out hgt]
            go_wp2_with fail
            go_ret
            exact ⟨by rw [HE.out];rfl,by rw [HE.out];exact HSjj.out⟩
          · have HSL:Hid (ii < jj):=scans_lt ltInt a i j dk (by omega) Hii3.out Hjj3.out (by omega)
            have hlt2:ii < jj:=HSL.out
            have HE:Hid (partEqLoop ltInt a (ii+1) (jj - 1) (swp dk ii jj)=partitionEqual ltInt d a b pv):=by show _=_;rw [← HO.out,partEq_go ltInt a i j dk Hii3.out Hjj3.out hgt]
            have j1:(0:Int)≤(ii:Int):=by omega
            have j2:(ii:Int) < (D:Int):=by omega
            have j3:(0:Int)≤(jj:Int):=by omega
            have j4:(jj:Int) < (D:Int):=by omega
            obtain ⟨X2,hX2⟩:∃ X2,X2=dk[ii]!:=⟨_,rfl⟩
            have HX2:=Lib.hid hX2;clear hX2
            obtain ⟨Y2,hY2⟩:∃ Y2,Y2=dk[jj]!:=⟨_,rfl⟩
            have HY2:=Lib.hid hY2;clear hY2
            go_wp2_with fail
            obtain ⟨cX,fX⟩:=HSjj.out.holds ii (by rw [HSK.out];omega)
            rw [← HX2.out] at cX
            obtain ⟨cY,fY⟩:=HSjj.out.holds jj (by rw [HSK.out];omega)
            rw [← HY2.out] at cY
            go_region
            all_goals
              go_wp2_with fail
              go_roundw
              case rel=>exact ⟨ii+1,jj - 1,_,by go_num,by congr 1;omega,by omega,by omega,by omega,by rw [size_swp];exact HSK.out,HSjj.out.swap_any (by rw [HSK.out];omega) (by rw [HSK.out];omega) HY2.out HX2.out,HE.out⟩
              case measure=>(simp [intOf]) <;> omega
end Go.Proofs.YtccbpngehedbaaaGreat

