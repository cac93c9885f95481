import Derived.Test.YtccbpngehedbaaaGreatJp
import Derived.Sort.WalkA6
namespace Go.Proofs.YtccbpngehedbaaaGreat
open Go Go.RowKit Go.Sort

/-! The library's sort at []uint32: parting by the pivot. -/
set_option maxRecDepth 20000 in
set_option maxHeartbeats 32000000 in
theorem partU (blk off cap a b pv : Nat) (d : Array Int) (w : World) (hs : Srt w w blk off d) (hb : b ≤ d.size) (hsz : d.size ≤ 1000000000) (hp1 : a < pv) (hp2 : pv < b) :
    Calls Tryz.prog 148 #[.slice (some ⟨blk,off,none⟩) d.size cap,.int .i64 a,.int .i64 b,.int .i64 pv] w fun e w'=>e=.returned (.tuple #[.int .i64 ((partition ltInt d a b pv).1:Nat),.bool (partition ltInt d a b pv).2.1])∧Srt w w' blk off (partition ltInt d a b pv).2.2:=by
  have HS:=Lib.hid hs;clear hs
  obtain ⟨D,hD⟩:∃ D,D=d.size:=⟨_,rfl⟩
  rw [← hD] at hb hsz ⊢
  have HD:=Lib.hid hD;clear hD
  obtain ⟨B,hBm,hB⟩:∃ B:Nat,B=b - 1∧(b:Int) - 1=(B:Int):=⟨_,rfl,by omega⟩
  obtain ⟨I,hIm,hI⟩:∃ I:Nat,I=a+1∧(a:Int)+1=(I:Int):=⟨_,rfl,by omega⟩
  have HBm:=Lib.hid hBm;have HIm:=Lib.hid hIm
  have b1:B < D:=by omega
  have b2:a < B:=by omega
  have b3:a < I:=by omega
  have b4:I≤B+1:=by omega
  clear hBm hIm
  have i1:(0:Int)≤(a:Int):=by omega
  have i2:(a:Int) < (D:Int):=by omega
  have i3:(0:Int)≤(pv:Int):=by omega
  have i4:(pv:Int) < (D:Int):=by omega
  obtain ⟨X,hX⟩:∃ X,X=d[a]!:=⟨_,rfl⟩
  have HX:=Lib.hid hX;clear hX
  obtain ⟨Y,hY⟩:∃ Y,Y=d[pv]!:=⟨_,rfl⟩
  have HY:=Lib.hid hY;clear hY
  obtain ⟨cX,fX⟩:=HS.out.holds a (by rw [← HD.out];omega)
  rw [← HX.out] at cX
  obtain ⟨cY,fY⟩:=HS.out.holds pv (by rw [← HD.out];omega)
  rw [← HY.out] at cY
  go_enter Tryz.func148,Tryz.ntmps148
  go_wp2_with fail
  go_region
  all_goals
    have HS1:Hid (Srt w ((w.setCell ⟨blk,off+a,none⟩ (.int .u32 Y)).setCell ⟨blk,off+pv,none⟩ (.int .u32 X)).drew blk off (swp d a pv)):=HS.out.swap_any (by rw [← HD.out];omega) (by rw [← HD.out];omega) HY.out HX.out
    obtain ⟨dk,hdk⟩:∃ dk,dk=swp d a pv:=⟨_,rfl⟩
    have HSK:Hid (dk.size=D):=by show _=_;rw [hdk,size_swp];exact HD.out.symm
    rw [← hdk] at HS1
    have HDK:=Lib.hid hdk
    clear cX cY fX fY hdk
    obtain ⟨A,hA⟩:∃ A,A=dk[a]!:=⟨_,rfl⟩
    have HA:=Lib.hid hA;clear hA
    go_upto_block 0 with fail
    go_cut [10] from 30 to 152 (fun s wc=>∃ k2:Nat,s=.int .i64 k2∧I≤k2∧k2≤B+1∧k2=scanUp (fun x=>ltInt x dk[a]!) dk B I∧Srt w wc blk off dk)
    case first =>
      go_wp2_with fail
      go_loopw [10] (fun v wr=>∃ k:Nat,v=.int .i64 k∧I≤k∧k≤B+1∧scanUp (fun x=>ltInt x dk[a]!) dk B k=scanUp (fun x=>ltInt x dk[a]!) dk B I∧Srt w wr blk off dk) (fun v _=>B+1 - (intOf v).toNat)
      case atStart=>exact ⟨I,rfl,Nat.le_refl _,by omega,rfl,HS1.out⟩
      case round =>
        obtain ⟨k,rfl,hk1,hk2,hsc,hSk⟩:=hrel
        have HSC:=Lib.hid hsc;have HSi:=Lib.hid hSk;clear hsc hSk
        by_cases hlt:k≤B
        · have d1:decide (k≤B)=true:=decide_eq_true hlt
          have j1:(0:Int)≤(k:Int):=by omega
          have j2:(k:Int) < (D:Int):=by omega
          obtain ⟨V,hV⟩:∃ V,V=dk[k]!:=⟨_,rfl⟩
          have HV:=Lib.hid hV;clear hV
          cases hl:ltInt V A
          · have HL:=Lib.hid hl
            have HPT:Hid (((fun x=>ltInt x dk[a]!)) dk[k]! = false):=by show _=_;rw [HA.out,HV.out] at hl;simp [hl]
            go_wp2_with fail
            obtain ⟨cA,fA⟩:=HSi.out.holds a (by rw [HSK.out];omega)
            rw [← HA.out] at cA
            obtain ⟨cV,fV⟩:=HSi.out.holds k (by rw [HSK.out];omega)
            rw [← HV.out] at cV
            have qcA:=fun d os=>cell_regrown cA d os
            have qcV:=fun d os=>cell_regrown cV d os
            refine wp_region_quiet_below (by kernel_rfl) (by kernel_rfl) ?_
            iterate 14 (first | go_big_quiet_step (first
              | (go_at_call 146;exact Calls.regrown_of (less_any _ _ _))) | fail)
            refine wpQuiet_nil ?_
            intro HSeW hw'
            obtain ⟨⟨d3,os⟩,hw''⟩:=hw'
            have hb3:=below_regrown wr d3 os
            rw [← hw''] at hb3
            clear hw'' qcA qcV cA cV fA fV hl
            have HSe:=Lib.hid (HSi.out.below hb3);clear hb3
            go_wp2_with fail
            go_meet
            case rel=>exact ⟨k,rfl,by omega,by omega,by rw [← HSC.out,scanUp_end (fun x=>ltInt x dk[a]!) dk B k (.inr HPT.out)],HSe.out⟩
          · have HL:=Lib.hid hl
            have HPT:Hid (((fun x=>ltInt x dk[a]!)) dk[k]! = true):=by show _=_;rw [HA.out,HV.out] at hl;simp [hl]
            go_wp2_with fail
            obtain ⟨cA,fA⟩:=HSi.out.holds a (by rw [HSK.out];omega)
            rw [← HA.out] at cA
            obtain ⟨cV,fV⟩:=HSi.out.holds k (by rw [HSK.out];omega)
            rw [← HV.out] at cV
            have qcA:=fun d os=>cell_regrown cA d os
            have qcV:=fun d os=>cell_regrown cV d os
            refine wp_region_quiet_below (by kernel_rfl) (by kernel_rfl) ?_
            iterate 14 (first | go_big_quiet_step (first
              | (go_at_call 146;exact Calls.regrown_of (less_any _ _ _))) | fail)
            refine wpQuiet_nil ?_
            intro HSeW hw'
            obtain ⟨⟨d3,os⟩,hw''⟩:=hw'
            have hb3:=below_regrown wr d3 os
            rw [← hw''] at hb3
            clear hw'' qcA qcV cA cV fA fV hl
            have HSe:=Lib.hid (HSi.out.below hb3);clear hb3
            go_wp2_with fail
            go_roundw
            case rel=>exact ⟨k+1,by go_num,by omega,by omega,by rw [← HSC.out,scanUp_go (fun x=>ltInt x dk[a]!) dk B k hlt HPT.out],HSe.out⟩
            case measure=>(simp [intOf]) <;> omega
        · have d1:decide (k≤B)=false:=decide_eq_false hlt
          go_wp2_with fail
          refine wp_region_quiet_below (by kernel_rfl) (by kernel_rfl) ?_
          iterate 14 (first | go_big_quiet_step (first
            | (go_at_call 146;exact Calls.regrown_of (less_any _ _ _))) | fail)
          refine wpQuiet_nil ?_
          intro HSeW hw'
          obtain ⟨⟨d3,os⟩,hw''⟩:=hw'
          have hb3:=below_regrown wr d3 os
          rw [← hw''] at hb3
          clear hw''   
          have HSe:=Lib.hid (HSi.out.below hb3);clear hb3
          go_wp2_with fail
          go_meet
          case rel=>exact ⟨k,rfl,by omega,by omega,by rw [← HSC.out,scanUp_end (fun x=>ltInt x dk[a]!) dk B k (.inl hlt)],HSe.out⟩
    case rest =>
      obtain ⟨ii,rfl,hii1,hii2,hii3,hii4⟩:=hcut
      have HSii:=Lib.hid hii4;have Hii3:=Lib.hid hii3;clear hii4 hii3
      go_upto_block 2 with fail
      go_cut [11] from 30 to 152 (fun s wc=>∃ k2:Nat,s=.int .i64 k2∧ii≤k2+1∧k2≤B∧k2=scanDown (fun x=>!ltInt x dk[a]!) dk ii B∧Srt w wc blk off dk)
      case first =>
        go_wp2_with fail
        go_loopw [11] (fun v wr=>∃ k:Nat,v=.int .i64 k∧ii≤k+1∧k≤B∧scanDown (fun x=>!ltInt x dk[a]!) dk ii k=scanDown (fun x=>!ltInt x dk[a]!) dk ii B∧Srt w wr blk off dk) (fun v _=>(intOf v).toNat)
        case atStart=>exact ⟨B,rfl,by omega,Nat.le_refl _,rfl,HSii.out⟩
        case round =>
          obtain ⟨k,rfl,hk1,hk2,hsc,hSk⟩:=hrel
          have HSC:=Lib.hid hsc;have HSi:=Lib.hid hSk;clear hsc hSk
          by_cases hlt:ii≤k
          · have d1:decide (ii≤k)=true:=decide_eq_true hlt
            have j1:(0:Int)≤(k:Int):=by omega
            have j2:(k:Int) < (D:Int):=by omega
            obtain ⟨V,hV⟩:∃ V,V=dk[k]!:=⟨_,rfl⟩
            have HV:=Lib.hid hV;clear hV
            cases hl:ltInt V A
            · have HL:=Lib.hid hl
              have HPT:Hid (((fun x=>!ltInt x dk[a]!)) dk[k]! = true):=by show _=_;rw [HA.out,HV.out] at hl;simp [hl]
              go_wp2_with fail
              obtain ⟨cA,fA⟩:=HSi.out.holds a (by rw [HSK.out];omega)
              rw [← HA.out] at cA
              obtain ⟨cV,fV⟩:=HSi.out.holds k (by rw [HSK.out];omega)
              rw [← HV.out] at cV
              have qcA:=fun d os=>cell_regrown cA d os
              have qcV:=fun d os=>cell_regrown cV d os
              refine wp_region_quiet_below (by kernel_rfl) (by kernel_rfl) ?_
              iterate 15 (first | go_big_quiet_step (first
                | (go_at_call 146;exact Calls.regrown_of (less_any _ _ _))) | fail)
              refine wpQuiet_nil ?_
              intro HSeW hw'
              obtain ⟨⟨d3,os⟩,hw''⟩:=hw'
              have hb3:=below_regrown wr d3 os
              rw [← hw''] at hb3
              clear hw'' qcA qcV cA cV fA fV hl
              have HSe:=Lib.hid (HSi.out.below hb3);clear hb3
              go_wp2_with fail
              go_roundw
              case rel=>exact ⟨k - 1,by congr 1;omega,by omega,by omega,by rw [← HSC.out,scanDown_go (fun x=>!ltInt x dk[a]!) dk ii k hlt (by omega) HPT.out],HSe.out⟩
              case measure=>(simp [intOf]) <;> omega
            · have HL:=Lib.hid hl
              have HPT:Hid (((fun x=>!ltInt x dk[a]!)) dk[k]! = false):=by show _=_;rw [HA.out,HV.out] at hl;simp [hl]
              go_wp2_with fail
              obtain ⟨cA,fA⟩:=HSi.out.holds a (by rw [HSK.out];omega)
              rw [← HA.out] at cA
              obtain ⟨cV,fV⟩:=HSi.out.holds k (by rw [HSK.out];omega)
              rw [← HV.out] at cV
              have qcA:=fun d os=>cell_regrown cA d os
              have qcV:=fun d os=>cell_regrown cV d os
              refine wp_region_quiet_below (by kernel_rfl) (by kernel_rfl) ?_
              iterate 15 (first | go_big_quiet_step (first
                | (go_at_call 146;exact Calls.regrown_of (less_any _ _ _))) | fail)
              refine wpQuiet_nil ?_
              intro HSeW hw'
              obtain ⟨⟨d3,os⟩,hw''⟩:=hw'
              have hb3:=below_regrown wr d3 os
              rw [← hw''] at hb3
              clear hw'' qcA qcV cA cV fA fV hl
              have HSe:=Lib.hid (HSi.out.below hb3);clear hb3
              go_wp2_with fail
              go_meet
              case rel=>exact ⟨k,rfl,by omega,by omega,by rw [← HSC.out,scanDown_end (fun x=>!ltInt x dk[a]!) dk ii k (.inr HPT.out)],HSe.out⟩
          · have d1:decide (ii≤k)=false:=decide_eq_false hlt
            go_wp2_with fail
            refine wp_region_quiet_below (by kernel_rfl) (by kernel_rfl) ?_
            iterate 15 (first | go_big_quiet_step (first
              | (go_at_call 146;exact Calls.regrown_of (less_any _ _ _))) | fail)
            refine wpQuiet_nil ?_
            intro HSeW hw'
            obtain ⟨⟨d3,os⟩,hw''⟩:=hw'
            have hb3:=below_regrown wr d3 os
            rw [← hw''] at hb3
            clear hw''   
            have HSe:=Lib.hid (HSi.out.below hb3);clear hb3
            go_wp2_with fail
            go_meet
            case rel=>exact ⟨k,rfl,by omega,by omega,by rw [← HSC.out,scanDown_end (fun x=>!ltInt x dk[a]!) dk ii k (.inl hlt)],HSe.out⟩
      case rest =>
        obtain ⟨jj,rfl,hjj1,hjj2,hjj3,hjj4⟩:=hcut
        have HSjj:=Lib.hid hjj4;have Hjj3:=Lib.hid hjj3;clear hjj4 hjj3
        by_cases hgt:jj < ii
        · have HE:Hid (partition ltInt d a b pv=(jj,true,swp dk jj a)):=part_first_break ltInt d a b pv HIm.out HBm.out HDK.out Hii3.out Hjj3.out hgt
          have hja0:a≤jj:=by omega
          by_cases hja:jj=a
          · subst hja
            have HA2:=HA
            go_wp2_with fail
            obtain ⟨cA,fA⟩:=HSjj.out.holds jj (by rw [HSK.out];omega)
            rw [← HA.out] at cA
            go_region
            all_goals
              have HSf:Hid (Srt w _ blk off (swp dk jj jj)):=HSjj.out.swap_any (i:=jj) (j:=jj) (by rw [HSK.out];omega) (by rw [HSK.out];omega) HA.out HA.out
              clear cA fA
              go_wp2_with fail
              go_ret2
              rw [HE.out]
              exact ⟨rfl,HSf.out⟩
          · have hne:¬ jj=a:=hja
            obtain ⟨Z,hZ⟩:∃ Z,Z=dk[jj]!:=⟨_,rfl⟩
            have HZ:=Lib.hid hZ;clear hZ
            go_wp2_with fail
            obtain ⟨cA,fA⟩:=HSjj.out.holds a (by rw [HSK.out];omega)
            rw [← HA.out] at cA
            obtain ⟨cZ,fZ⟩:=HSjj.out.holds jj (by rw [HSK.out];omega)
            rw [← HZ.out] at cZ
            go_region
            all_goals
              have HSf:Hid (Srt w _ blk off (swp dk jj a)):=HSjj.out.swap_any (i:=jj) (j:=a) (by rw [HSK.out];omega) (by rw [HSK.out];omega) HA.out HZ.out
              clear cA fA cZ fZ
              go_wp2_with fail
              go_ret2
              rw [HE.out]
              exact ⟨rfl,HSf.out⟩
        · have HSL : Hid (ii < jj) := part_scans_lt ltInt a I B dk (by omega) Hii3.out Hjj3.out (by omega)
          have hlt2:ii < jj:=HSL.out
          obtain ⟨RS,hRS⟩:∃ RS,RS=partLoop ltInt a (ii+1) (jj - 1) (swp dk ii jj):=⟨_,rfl⟩
          have HPART:Hid (partition ltInt d a b pv=(RS.1,false,swp RS.2 RS.1 a)):=by show _=_;rw [hRS];exact part_first_go ltInt d a b pv HIm.out HBm.out HDK.out Hii3.out Hjj3.out hgt
          have HRS:=Lib.hid hRS;clear hRS
          have j1:(0:Int)≤(ii:Int):=by omega
          have j2:(ii:Int) < (D:Int):=by omega
          have j3:(0:Int)≤(jj:Int):=by omega
          have j4:(jj:Int) < (D:Int):=by omega
          obtain ⟨X2,hX2⟩:∃ X2,X2=dk[ii]!:=⟨_,rfl⟩
          have HX2:=Lib.hid hX2;clear hX2
          obtain ⟨Y2,hY2⟩:∃ Y2,Y2=dk[jj]!:=⟨_,rfl⟩
          have HY2:=Lib.hid hY2;clear hY2
          go_wp2_with fail
          obtain ⟨cX,fX⟩:=HSjj.out.holds ii (by rw [HSK.out];omega)
          rw [← HX2.out] at cX
          obtain ⟨cY,fY⟩:=HSjj.out.holds jj (by rw [HSK.out];omega)
          rw [← HY2.out] at cY
          go_region
          all_goals
            have HS5:Hid (Srt w _ blk off (swp dk ii jj)):=HSjj.out.swap_any (i:=ii) (j:=jj) (by rw [HSK.out];omega) (by rw [HSK.out];omega) HY2.out HX2.out
            have HZ5:Hid ((swp dk ii jj).size=D):=by show _=_;rw [size_swp];exact HSK.out
            clear cX cY fX fY
            go_wp2_with fail
            go_loopw [10,11] (fun vi vj wr=>∃ (i j:Nat) (dl:Array Int),vi=.int .i64 i∧vj=.int .i64 j∧a+1≤i∧i≤j+1∧j < D∧dl.size=D∧Srt w wr blk off dl∧partLoop ltInt a i j dl=RS) (fun vi vj _=>(intOf vj).toNat+1 - (intOf vi).toNat)
            case atStart=>exact ⟨ii+1,jj - 1,_,by go_num,by congr 1;omega,by omega,by omega,by omega,HZ5.out,HS5.out,HRS.out.symm⟩
            case round =>
              clear HA HSK HSjj HSii Hii3 Hjj3 HX2 HY2 HDK HS1 HS5 HZ5
              obtain ⟨i,j,dl,rfl,rfl,hi1,hij,hjD,hsk,hSk,hO⟩:=hrel
              have HSq:=Lib.hid hSk;have HO:=Lib.hid hO;have HSK:=Lib.hid hsk;clear hSk hO hsk
              obtain ⟨A,hA⟩:∃ A,A=dl[a]!:=⟨_,rfl⟩
              have HA:=Lib.hid hA;clear hA
              go_upto_block 6 with fail
              go_cut [10] from 99 to 152 (fun s wc=>∃ k2:Nat,s=.int .i64 k2∧i≤k2∧k2≤j+1∧k2=scanUp (fun x=>ltInt x dl[a]!) dl j i∧Srt w wc blk off dl)
              case first =>
                go_wp2_with fail
                go_loopw [10] (fun v wr=>∃ k:Nat,v=.int .i64 k∧i≤k∧k≤j+1∧scanUp (fun x=>ltInt x dl[a]!) dl j k=scanUp (fun x=>ltInt x dl[a]!) dl j i∧Srt w wr blk off dl) (fun v _=>j+1 - (intOf v).toNat)
                case atStart=>exact ⟨i,rfl,Nat.le_refl _,by omega,rfl,HSq.out⟩
                case round =>
                  obtain ⟨k,rfl,hk1,hk2,hsc,hSk⟩:=hrel
                  have HSC:=Lib.hid hsc;have HSi:=Lib.hid hSk;clear hsc hSk
                  by_cases hlt:k≤j
                  · have d1:decide (k≤j)=true:=decide_eq_true hlt
                    have j1:(0:Int)≤(k:Int):=by omega
                    have j2:(k:Int) < (D:Int):=by omega
                    obtain ⟨V,hV⟩:∃ V,V=dl[k]!:=⟨_,rfl⟩
                    have HV:=Lib.hid hV;clear hV
                    cases hl:ltInt V A
                    · have HL:=Lib.hid hl
                      have HPT:Hid (((fun x=>ltInt x dl[a]!)) dl[k]! = false):=by show _=_;rw [HA.out,HV.out] at hl;simp [hl]
                      go_wp2_with fail
                      obtain ⟨cA,fA⟩:=HSi.out.holds a (by rw [HSK.out];omega)
                      rw [← HA.out] at cA
                      obtain ⟨cV,fV⟩:=HSi.out.holds k (by rw [HSK.out];omega)
                      rw [← HV.out] at cV
                      have qcA:=fun d os=>cell_regrown cA d os
                      have qcV:=fun d os=>cell_regrown cV d os
                      refine wp_region_quiet_below (by kernel_rfl) (by kernel_rfl) ?_
                      iterate 14 (first | go_big_quiet_step (first
                        | (go_at_call 146;exact Calls.regrown_of (less_any _ _ _))) | fail)
                      refine wpQuiet_nil ?_
                      intro HSeW hw'
                      obtain ⟨⟨d3,os⟩,hw''⟩:=hw'
                      have hb3:=below_regrown wr d3 os
                      rw [← hw''] at hb3
                      clear hw'' qcA qcV cA cV fA fV hl
                      have HSe:=Lib.hid (HSi.out.below hb3);clear hb3
                      go_wp2_with fail
                      go_meet
                      case rel=>exact ⟨k,rfl,by omega,by omega,by rw [← HSC.out,scanUp_end (fun x=>ltInt x dl[a]!) dl j k (.inr HPT.out)],HSe.out⟩
                    · have HL:=Lib.hid hl
                      have HPT:Hid (((fun x=>ltInt x dl[a]!)) dl[k]! = true):=by show _=_;rw [HA.out,HV.out] at hl;simp [hl]
                      go_wp2_with fail
                      obtain ⟨cA,fA⟩:=HSi.out.holds a (by rw [HSK.out];omega)
                      rw [← HA.out] at cA
                      obtain ⟨cV,fV⟩:=HSi.out.holds k (by rw [HSK.out];omega)
                      rw [← HV.out] at cV
                      have qcA:=fun d os=>cell_regrown cA d os
                      have qcV:=fun d os=>cell_regrown cV d os
                      refine wp_region_quiet_below (by kernel_rfl) (by kernel_rfl) ?_
                      iterate 14 (first | go_big_quiet_step (first
                        | (go_at_call 146;exact Calls.regrown_of (less_any _ _ _))) | fail)
                      refine wpQuiet_nil ?_
                      intro HSeW hw'
                      obtain ⟨⟨d3,os⟩,hw''⟩:=hw'
                      have hb3:=below_regrown wr d3 os
                      rw [← hw''] at hb3
                      clear hw'' qcA qcV cA cV fA fV hl
                      have HSe:=Lib.hid (HSi.out.below hb3);clear hb3
                      go_wp2_with fail
                      go_roundw
                      case rel=>exact ⟨k+1,by go_num,by omega,by omega,by rw [← HSC.out,scanUp_go (fun x=>ltInt x dl[a]!) dl j k hlt HPT.out],HSe.out⟩
                      case measure=>(simp [intOf]) <;> omega
                  · have d1:decide (k≤j)=false:=decide_eq_false hlt
                    go_wp2_with fail
                    refine wp_region_quiet_below (by kernel_rfl) (by kernel_rfl) ?_
                    iterate 14 (first | go_big_quiet_step (first
                      | (go_at_call 146;exact Calls.regrown_of (less_any _ _ _))) | fail)
                    refine wpQuiet_nil ?_
                    intro HSeW hw'
                    obtain ⟨⟨d3,os⟩,hw''⟩:=hw'
                    have hb3:=below_regrown wr d3 os
                    rw [← hw''] at hb3
                    clear hw''   
                    have HSe:=Lib.hid (HSi.out.below hb3);clear hb3
                    go_wp2_with fail
                    go_meet
                    case rel=>exact ⟨k,rfl,by omega,by omega,by rw [← HSC.out,scanUp_end (fun x=>ltInt x dl[a]!) dl j k (.inl hlt)],HSe.out⟩
              case rest =>
                obtain ⟨i5,rfl,hi51,hi52,hi53,hi54⟩:=hcut
                have HSi5:=Lib.hid hi54;have Hi53:=Lib.hid hi53;clear hi54 hi53
                go_upto_block 8 with fail
                go_cut [11] from 99 to 152 (fun s wc=>∃ k2:Nat,s=.int .i64 k2∧i5≤k2+1∧k2≤j∧k2=scanDown (fun x=>!ltInt x dl[a]!) dl i5 j∧Srt w wc blk off dl)
                case first =>
                  go_wp2_with fail
                  go_loopw [11] (fun v wr=>∃ k:Nat,v=.int .i64 k∧i5≤k+1∧k≤j∧scanDown (fun x=>!ltInt x dl[a]!) dl i5 k=scanDown (fun x=>!ltInt x dl[a]!) dl i5 j∧Srt w wr blk off dl) (fun v _=>(intOf v).toNat)
                  case atStart=>exact ⟨j,rfl,by omega,Nat.le_refl _,rfl,HSi5.out⟩
                  case round =>
                    obtain ⟨k,rfl,hk1,hk2,hsc,hSk⟩:=hrel
                    have HSC:=Lib.hid hsc;have HSi:=Lib.hid hSk;clear hsc hSk
                    by_cases hlt:i5≤k
                    · have d1:decide (i5≤k)=true:=decide_eq_true hlt
                      have j1:(0:Int)≤(k:Int):=by omega
                      have j2:(k:Int) < (D:Int):=by omega
                      obtain ⟨V,hV⟩:∃ V,V=dl[k]!:=⟨_,rfl⟩
                      have HV:=Lib.hid hV;clear hV
                      cases hl:ltInt V A
                      · have HL:=Lib.hid hl
                        have HPT:Hid (((fun x=>!ltInt x dl[a]!)) dl[k]! = true):=by show _=_;rw [HA.out,HV.out] at hl;simp [hl]
                        go_wp2_with fail
                        obtain ⟨cA,fA⟩:=HSi.out.holds a (by rw [HSK.out];omega)
                        rw [← HA.out] at cA
                        obtain ⟨cV,fV⟩:=HSi.out.holds k (by rw [HSK.out];omega)
                        rw [← HV.out] at cV
                        have qcA:=fun d os=>cell_regrown cA d os
                        have qcV:=fun d os=>cell_regrown cV d os
                        refine wp_region_quiet_below (by kernel_rfl) (by kernel_rfl) ?_
                        iterate 15 (first | go_big_quiet_step (first
                          | (go_at_call 146;exact Calls.regrown_of (less_any _ _ _))) | fail)
                        refine wpQuiet_nil ?_
                        intro HSeW hw'
                        obtain ⟨⟨d3,os⟩,hw''⟩:=hw'
                        have hb3:=below_regrown wr d3 os
                        rw [← hw''] at hb3
                        clear hw'' qcA qcV cA cV fA fV hl
                        have HSe:=Lib.hid (HSi.out.below hb3);clear hb3
                        go_wp2_with fail
                        go_roundw
                        case rel=>exact ⟨k - 1,by congr 1;omega,by omega,by omega,by rw [← HSC.out,scanDown_go (fun x=>!ltInt x dl[a]!) dl i5 k hlt (by omega) HPT.out],HSe.out⟩
                        case measure=>(simp [intOf]) <;> omega
                      · have HL:=Lib.hid hl
                        have HPT:Hid (((fun x=>!ltInt x dl[a]!)) dl[k]! = false):=by show _=_;rw [HA.out,HV.out] at hl;simp [hl]
                        go_wp2_with fail
                        obtain ⟨cA,fA⟩:=HSi.out.holds a (by rw [HSK.out];omega)
                        rw [← HA.out] at cA
                        obtain ⟨cV,fV⟩:=HSi.out.holds k (by rw [HSK.out];omega)
                        rw [← HV.out] at cV
                        have qcA:=fun d os=>cell_regrown cA d os
                        have qcV:=fun d os=>cell_regrown cV d os
                        refine wp_region_quiet_below (by kernel_rfl) (by kernel_rfl) ?_
                        iterate 15 (first | go_big_quiet_step (first
                          | (go_at_call 146;exact Calls.regrown_of (less_any _ _ _))) | fail)
                        refine wpQuiet_nil ?_
                        intro HSeW hw'
                        obtain ⟨⟨d3,os⟩,hw''⟩:=hw'
                        have hb3:=below_regrown wr d3 os
                        rw [← hw''] at hb3
                        clear hw'' qcA qcV cA cV fA fV hl
                        have HSe:=Lib.hid (HSi.out.below hb3);clear hb3
                        go_wp2_with fail
                        go_meet
                        case rel=>exact ⟨k,rfl,by omega,by omega,by rw [← HSC.out,scanDown_end (fun x=>!ltInt x dl[a]!) dl i5 k (.inr HPT.out)],HSe.out⟩
                    · have d1:decide (i5≤k)=false:=decide_eq_false hlt
                      go_wp2_with fail
                      refine wp_region_quiet_below (by kernel_rfl) (by kernel_rfl) ?_
                      iterate 15 (first | go_big_quiet_step (first
                        | (go_at_call 146;exact Calls.regrown_of (less_any _ _ _))) | fail)
                      refine wpQuiet_nil ?_
                      intro HSeW hw'
                      obtain ⟨⟨d3,os⟩,hw''⟩:=hw'
                      have hb3:=below_regrown wr d3 os
                      rw [← hw''] at hb3
                      clear hw''   
                      have HSe:=Lib.hid (HSi.out.below hb3);clear hb3
                      go_wp2_with fail
                      go_meet
                      case rel=>exact ⟨k,rfl,by omega,by omega,by rw [← HSC.out,scanDown_end (fun x=>!ltInt x dl[a]!) dl i5 k (.inl hlt)],HSe.out⟩
                case rest =>
                  obtain ⟨j5,rfl,hj51,hj52,hj53,hj54⟩:=hcut
                  have HSj5:=Lib.hid hj54;have Hj53:=Lib.hid hj53;clear hj54 hj53
                  by_cases hgt2:j5 < i5
                  · have HB5:Hid (RS=(j5,dl)):=by show _=_;rw [← HO.out,part_break ltInt a i j dl Hi53.out Hj53.out hgt2]
                    have HE:Hid (partition ltInt d a b pv=(j5,false,swp dl j5 a)):=by show _=_;rw [HPART.out,HB5.out]
                    have hja0:a≤j5:=by omega
                    by_cases hja:j5=a
                    · subst hja
                      have HA2:=HA
                      go_wp2_with fail
                      obtain ⟨cA,fA⟩:=HSj5.out.holds j5 (by rw [HSK.out];omega)
                      rw [← HA.out] at cA
                      go_region
                      all_goals
                        have HSf:Hid (Srt w _ blk off (swp dl j5 j5)):=HSj5.out.swap_any (i:=j5) (j:=j5) (by rw [HSK.out];omega) (by rw [HSK.out];omega) HA.out HA.out
                        clear cA fA
                        go_wp2_with fail
                        go_ret2
                        rw [HE.out]
                        exact ⟨rfl,HSf.out⟩
                    · have hne:¬ j5=a:=hja
                      obtain ⟨Z,hZ⟩:∃ Z,Z=dl[j5]!:=⟨_,rfl⟩
                      have HZ:=Lib.hid hZ;clear hZ
                      go_wp2_with fail
                      obtain ⟨cA,fA⟩:=HSj5.out.holds a (by rw [HSK.out];omega)
                      rw [← HA.out] at cA
                      obtain ⟨cZ,fZ⟩:=HSj5.out.holds j5 (by rw [HSK.out];omega)
                      rw [← HZ.out] at cZ
                      go_region
                      all_goals
                        have HSf:Hid (Srt w _ blk off (swp dl j5 a)):=HSj5.out.swap_any (i:=j5) (j:=a) (by rw [HSK.out];omega) (by rw [HSK.out];omega) HA.out HZ.out
                        clear cA fA cZ fZ
                        go_wp2_with fail
                        go_ret2
                        rw [HE.out]
                        exact ⟨rfl,HSf.out⟩
                  · have HSL2:Hid (i5 < j5):=part_scans_lt ltInt a i j dl (by omega) Hi53.out Hj53.out (by omega)
                    have hlt3:i5 < j5:=HSL2.out
                    have HE:Hid (partLoop ltInt a (i5+1) (j5 - 1) (swp dl i5 j5)=RS):=by show _=_;rw [← HO.out,part_go ltInt a i j dl Hi53.out Hj53.out hgt2]
                    have m1:(0:Int)≤(i5:Int):=by omega
                    have m2:(i5:Int) < (D:Int):=by omega
                    have m3:(0:Int)≤(j5:Int):=by omega
                    have m4:(j5:Int) < (D:Int):=by omega
                    obtain ⟨X3,hX3⟩:∃ X3,X3=dl[i5]!:=⟨_,rfl⟩
                    have HX3:=Lib.hid hX3;clear hX3
                    obtain ⟨Y3,hY3⟩:∃ Y3,Y3=dl[j5]!:=⟨_,rfl⟩
                    have HY3:=Lib.hid hY3;clear hY3
                    go_wp2_with fail
                    obtain ⟨cX,fX⟩:=HSj5.out.holds i5 (by rw [HSK.out];omega)
                    rw [← HX3.out] at cX
                    obtain ⟨cY,fY⟩:=HSj5.out.holds j5 (by rw [HSK.out];omega)
                    rw [← HY3.out] at cY
                    go_region
                    all_goals
                      go_wp2_with fail
                      go_roundw
                      case rel=>exact ⟨i5+1,j5 - 1,_,by go_num,by congr 1;omega,by omega,by omega,by omega,by rw [size_swp];exact HSK.out,HSj5.out.swap_any (by rw [HSK.out];omega) (by rw [HSK.out];omega) HY3.out HX3.out,HE.out⟩
                      case measure=>(simp [intOf]) <;> omega
end Go.Proofs.YtccbpngehedbaaaGreat

namespace Go.Proofs.YtccbpngehedbaaaGreat
open Go Go.RowKit Go.Sort

/-! The library's sort at []uint32: by some insertions. -/
theorem swap2 {w0 w:World} {blk off:Nat} {d:Array Int} (h:Srt w0 w blk off d) {k:Nat} (hk:k+1 < d.size) {x y:Int} (hx:x=d[k+1]!) (hy:y=d[k]!) :
    Srt w0 ((w.setCell ⟨blk,off+(k+1),none⟩ (.int .u32 y)).setCell ⟨blk,off+k,none⟩ (.int .u32 x)).drew blk off (swp d (k+1) k):=h.swap_any hk (by omega) hy hx
theorem size_shiftDown:∀ (j:Nat) (d:Array Int),(shiftDown ltInt j d).size=d.size
  | 0,d=>by rw [shiftDown]
  | j+1,d=>by
    rw [shiftDown]
    split
    · rfl
    · rw [size_shiftDown j,size_swp]
theorem size_shiftUp (b:Nat):∀ (n j:Nat) (d:Array Int),b - j≤n→(shiftUp ltInt b j d).size=d.size
  | 0,j,d,h=>by rw [shiftUp,if_neg (by omega)]
  | n+1,j,d,h=>by
    rw [shiftUp]
    split
    · split
      · rfl
      · rw [size_shiftUp b n _ _ (by omega),size_swp]
    · rfl
theorem size_fixDown (a k:Nat) (d:Array Int):(fixDown ltInt a k d).size=d.size:=by unfold fixDown;split <;> simp [size_shiftDown]
theorem size_fixUp (b k:Nat) (d:Array Int):(fixUp ltInt b k d).size=d.size:=by
  unfold fixUp;split
  · exact size_shiftUp b _ _ _ (Nat.le_refl _)
  · rfl
set_option maxRecDepth 20000 in
set_option maxHeartbeats 32000000 in
theorem parU (blk off cap a b : Nat) (d : Array Int) (w : World) (hs : Srt w w blk off d) (hab : a < b) (hb : b ≤ d.size) (hsz : d.size ≤ 1000000000) :
    Calls Tryz.prog 145 #[.slice (some ⟨blk,off,none⟩) d.size cap,.int .i64 a,.int .i64 b] w fun e w'=>e=.returned (.bool (partialInsertionSort ltInt d a b).2)∧Srt w w' blk off (partialInsertionSort ltInt d a b).1:=by
  have HS:=Lib.hid hs;clear hs
  obtain ⟨D,hD⟩:∃ D,D=d.size:=⟨_,rfl⟩
  rw [← hD] at hb hsz ⊢
  have HD:=Lib.hid hD;clear hD
  obtain ⟨RS,hRS⟩:∃ RS,RS=partialInsertionSort ltInt d a b:=⟨_,rfl⟩
  rw [← hRS]
  have HRS:=Lib.hid hRS;clear hRS
  go_enter Tryz.func145,Tryz.ntmps145
  go_wp2_with fail
  go_loopw [7,8,9,10] (fun vi vs v9 v10 wr=>∃ (i s:Nat) (dk:Array Int),vi=.int .i64 i∧vs=.int .i64 s∧a+1≤i∧i≤b∧s≤5∧dk.size=D∧Srt w wr blk off dk∧partialIns ltInt a b (5 - s) i dk=RS) (fun _ vs _ _ _=>5 - (intOf vs).toNat)
  case atStart=>exact ⟨a+1,0,d,by go_num,rfl,Nat.le_refl _,by omega,by omega,HD.out.symm,HS.out,HRS.out.symm⟩
  case round =>
    obtain ⟨i,s,dk,rfl,rfl,hi1,hib,hs5,hsk,hSk,hO⟩:=hrel
    have HSq:=Lib.hid hSk;have HO:=Lib.hid hO;have HSK:=Lib.hid hsk;clear hSk hO hsk
    by_cases hs:s < 5
    · have HS5 := Lib.hid hs
      go_upto_block 2 with fail
      go_cut [7] from 13 to 132 (fun s7 wc=>∃ k2:Nat,s7=.int .i64 k2∧a+1≤k2∧k2≤b∧scanSorted ltInt dk b i=k2∧Srt w wc blk off dk)
      case first =>
        go_wp2_with fail
        go_loopw [7] (fun v wr=>∃ k:Nat,v=.int .i64 k∧a+1≤k∧k≤b∧scanSorted ltInt dk b i=scanSorted ltInt dk b k∧Srt w wr blk off dk) (fun v _=>b - (intOf v).toNat)
        case atStart=>exact ⟨i,rfl,hi1,hib,rfl,HSq.out⟩
        case round =>
          obtain ⟨k0,rfl,hk1,hk2,hsc,hSk⟩:=hrel
          have HSC:=Lib.hid hsc;have HSi:=Lib.hid hSk;clear hsc hSk
          obtain ⟨k,rfl⟩:∃ k,k0=k+1:=⟨k0 - 1,by omega⟩
          by_cases hlt:k+1 < b
          · have d1:decide ((k:Int)+1 < (b:Int))=true:=decide_eq_true (by omega)
            have j1:(0:Int)≤(k:Int):=by omega
            have j2:(k:Int) < (D:Int):=by omega
            have j3:(0:Int)≤(k:Int)+1:=by omega
            have j4:(k:Int)+1 < (D:Int):=by omega
            obtain ⟨X,hX⟩:∃ X,X=dk[k+1]!:=⟨_,rfl⟩
            have HX:=Lib.hid hX;clear hX
            obtain ⟨Y,hY⟩:∃ Y,Y=dk[k]!:=⟨_,rfl⟩
            have HY:=Lib.hid hY;clear hY
            cases hl:ltInt X Y
            · have HL:=Lib.hid hl
              go_wp2_with fail
              obtain ⟨cX,fX⟩:=HSi.out.holds (k+1) (by rw [HSK.out];omega)
              rw [← HX.out] at cX
              obtain ⟨cY,fY⟩:=HSi.out.holds k (by rw [HSK.out];omega)
              rw [← HY.out] at cY
              have qcX:=fun d os=>cell_regrown cX d os
              have qcY:=fun d os=>cell_regrown cY d os
              refine wp_region_quiet_below (by kernel_rfl) (by kernel_rfl) ?_
              iterate 16 (first | go_big_quiet_step (first
                | (go_at_call 146;exact Calls.regrown_of (less_any _ _ _))) | fail)
              refine wpQuiet_nil ?_
              intro HSeW hw'
              obtain ⟨⟨dq,oq⟩,hw''⟩:=hw'
              have hb3:=below_regrown wr dq oq
              rw [← hw''] at hb3
              clear hw'' qcX qcY cX cY fX fY hl
              have HSe:=Lib.hid (HSi.out.below hb3);clear hb3
              go_wp2_with fail
              go_roundw
              case rel=>exact ⟨k+1+1,by go_num,by omega,by omega,by rw [HSC.out,scanSorted_go ltInt dk b (k+1) hlt (by rw [Nat.add_sub_cancel,← HX.out,← HY.out];exact HL.out)],HSe.out⟩
              case measure=>(simp [intOf]) <;> omega
            · have HL:=Lib.hid hl
              go_wp2_with fail
              obtain ⟨cX,fX⟩:=HSi.out.holds (k+1) (by rw [HSK.out];omega)
              rw [← HX.out] at cX
              obtain ⟨cY,fY⟩:=HSi.out.holds k (by rw [HSK.out];omega)
              rw [← HY.out] at cY
              have qcX:=fun d os=>cell_regrown cX d os
              have qcY:=fun d os=>cell_regrown cY d os
              refine wp_region_quiet_below (by kernel_rfl) (by kernel_rfl) ?_
              iterate 16 (first | go_big_quiet_step (first
                | (go_at_call 146;exact Calls.regrown_of (less_any _ _ _))) | fail)
              refine wpQuiet_nil ?_
              intro HSeW hw'
              obtain ⟨⟨dq,oq⟩,hw''⟩:=hw'
              have hb3:=below_regrown wr dq oq
              rw [← hw''] at hb3
              clear hw'' qcX qcY cX cY fX fY hl
              have HSe:=Lib.hid (HSi.out.below hb3);clear hb3
              go_wp2_with fail
              go_meet
              case rel=>exact ⟨k+1,rfl,by omega,by omega,by rw [HSC.out,scanSorted_stop ltInt dk b (k+1) (.inr (by rw [Nat.add_sub_cancel,← HX.out,← HY.out];exact HL.out))],HSe.out⟩
          · have d1:decide ((k:Int)+1 < (b:Int))=false:=decide_eq_false (by omega)
            go_wp2_with fail
            refine wp_region_quiet_below (by kernel_rfl) (by kernel_rfl) ?_
            iterate 16 (first | go_big_quiet_step (first
              | (go_at_call 146;exact Calls.regrown_of (less_any _ _ _))) | fail)
            refine wpQuiet_nil ?_
            intro HSeW hw'
            obtain ⟨⟨dq,oq⟩,hw''⟩:=hw'
            have hb3:=below_regrown wr dq oq
            rw [← hw''] at hb3
            clear hw''   
            have HSe:=Lib.hid (HSi.out.below hb3);clear hb3
            go_wp2_with fail
            go_meet
            case rel=>exact ⟨k+1,rfl,by omega,by omega,by rw [HSC.out,scanSorted_stop ltInt dk b (k+1) (.inl hlt)],HSe.out⟩
      case rest =>
        obtain ⟨k0,rfl,hk1,hk2,hsc,hSk⟩:=hcut
        have HSC:=Lib.hid hsc;have HSi:=Lib.hid hSk;clear hsc hSk
        by_cases hkb:k0=b
        · subst hkb
          have HE:Hid (RS=(dk,true)):=by show _=_;rw [← HO.out,pi_true ltInt a k0 s i dk HS5.out HSC.out]
          go_wp2_with fail
          go_ret
          exact ⟨by rw [HE.out];rfl,by rw [HE.out];exact HSi.out⟩
        · have hkb2 : ((k0 : Int) == (b : Int)) = false := beq_eq_false_iff_ne.2 (by omega)
          obtain ⟨BA,hBAm,hBA⟩:∃ BA:Nat,BA=b - a∧(b:Int) - (a:Int)=(BA:Int):=⟨_,rfl,by omega⟩
          by_cases h50:BA < 50
          · have HE:Hid (RS=(dk,false)):=by show _=_;rw [← HO.out,pi_short ltInt a b s i dk HS5.out (by rw [HSC.out];exact hkb) (by omega)]
            clear hBAm
            go_wp2_with fail
            go_ret
            exact ⟨by rw [HE.out];rfl,by rw [HE.out];exact HSi.out⟩
          · have HGO:Hid (partialIns ltInt a b (5 - (s+1)) k0 (fixUp ltInt b k0 (fixDown ltInt a k0 (swp dk k0 (k0 - 1))))=RS):=by show _=_;rw [← HO.out,pi_go ltInt a b s i k0 dk HS5.out HSC.out hkb (by omega)]
            have b51:¬ (BA:Int) < 50:=by omega
            clear hBAm
            obtain ⟨k,rfl⟩:∃ k,k0=k+1:=⟨k0 - 1,by omega⟩
            rw [Nat.add_sub_cancel] at HGO
            have j1:(0:Int)≤(k:Int):=by omega
            have j2:(k:Int) < (D:Int):=by omega
            have j3:(0:Int)≤(k:Int)+1:=by omega
            have j4:(k:Int)+1 < (D:Int):=by omega
            obtain ⟨X,hX⟩:∃ X,X=dk[k+1]!:=⟨_,rfl⟩
            have HX:=Lib.hid hX;clear hX
            obtain ⟨Y,hY⟩:∃ Y,Y=dk[k]!:=⟨_,rfl⟩
            have HY:=Lib.hid hY;clear hY
            go_wp2_with fail
            obtain ⟨cX,fX⟩:=HSi.out.holds (k+1) (by rw [HSK.out];omega)
            rw [← HX.out] at cX
            obtain ⟨cY,fY⟩:=HSi.out.holds k (by rw [HSK.out];omega)
            rw [← HY.out] at cY
            go_region
            all_goals
              have HS2:Hid (Srt w _ blk off (swp dk (k+1) k)):=swap2 HSi.out (by rw [HSK.out];omega) HX.out HY.out
              obtain ⟨d2,hd2⟩:∃ d2,d2=swp dk (k+1) k:=⟨_,rfl⟩
              have HSK2:Hid (d2.size=D):=by show _=_;rw [hd2,size_swp];exact HSK.out
              rw [← hd2] at HS2 HGO
              clear cX cY fX fY hd2
              obtain ⟨KA,hKAm,hKA⟩:∃ KA:Nat,KA=k+1 - a∧(k:Int)+1 - (a:Int)=(KA:Int):=⟨_,rfl,by omega⟩
              have HKA:=Lib.hid hKAm;clear hKAm
              go_upto_if 61 with fail
              go_cut [9] from 13 to 132 (fun s9 wc=>Srt w wc blk off (fixDown ltInt a (k+1) d2))
              case first =>
                by_cases h2:2≤KA
                · have HFD:Hid (fixDown ltInt a (k+1) d2=shiftDown ltInt k d2):=by
                    show _=_
                    have:=HKA.out
                    unfold fixDown
                    rw [if_pos (by omega),Nat.add_sub_cancel]
                  go_wp2_with fail
                  go_loopw [9] (fun v wr=>∃ (j:Nat) (dj:Array Int),v=.int .i64 j∧j≤k∧dj.size=D∧Srt w wr blk off dj∧shiftDown ltInt j dj=shiftDown ltInt k d2) (fun v _=>(intOf v).toNat)
                  case atStart=>exact ⟨k,d2,by first | rfl | (congr 1;omega),Nat.le_refl _,HSK2.out,HS2.out,rfl⟩
                  case round =>
                    obtain ⟨j,dj,rfl,hjk,hsj,hSj,hI⟩:=hrel
                    have HSj:=Lib.hid hSj;have HI:=Lib.hid hI;have HSJ:=Lib.hid hsj;clear hSj hI hsj
                    cases j with
                    | zero =>
                      have HF:Hid (dj=fixDown ltInt a (k+1) d2):=by show _=_;rw [HFD.out,← HI.out,shiftDown_stop ltInt 0 dj (.inl rfl)]
                      go_wp2_with fail
                      go_meet
                      case rel=>rw [← HF.out];exact HSj.out
                    | succ l =>
                      have l1:(0:Int)≤(l:Int):=by omega
                      have l2:(l:Int) < (D:Int):=by omega
                      have l3:(0:Int)≤(l:Int)+1:=by omega
                      have l4:(l:Int)+1 < (D:Int):=by omega
                      obtain ⟨U,hU⟩:∃ U,U=dj[l+1]!:=⟨_,rfl⟩
                      have HU:=Lib.hid hU;clear hU
                      obtain ⟨V,hV⟩:∃ V,V=dj[l]!:=⟨_,rfl⟩
                      have HV:=Lib.hid hV;clear hV
                      cases hl:ltInt U V
                      · have HF:Hid (dj=fixDown ltInt a (k+1) d2):=by show _=_;rw [HFD.out,← HI.out,shiftDown_stop ltInt (l+1) dj (.inr (by rw [Nat.add_sub_cancel,← HU.out,← HV.out];exact hl))]
                        go_wp2_with fail
                        obtain ⟨cX,fX⟩:=HSj.out.holds (l+1) (by rw [HSJ.out];omega)
                        rw [← HU.out] at cX
                        obtain ⟨cY,fY⟩:=HSj.out.holds l (by rw [HSJ.out];omega)
                        rw [← HV.out] at cY
                        have qcX:=fun d os=>cell_regrown cX d os
                        have qcY:=fun d os=>cell_regrown cY d os
                        refine wp_region_quiet_below (by kernel_rfl) (by kernel_rfl) ?_
                        iterate 11 (first | go_big_quiet_step (first
                          | (go_at_call 146;exact Calls.regrown_of (less_any _ _ _))) | fail)
                        refine wpQuiet_nil ?_
                        intro HSeW hw'
                        obtain ⟨⟨dq,oq⟩,hw''⟩:=hw'
                        have hb3:=below_regrown wr dq oq
                        rw [← hw''] at hb3
                        clear hw'' qcX qcY cX cY fX fY hl
                        have HSe:=Lib.hid (HSj.out.below hb3);clear hb3
                        go_wp2_with fail
                        go_meet
                        case rel=>rw [← HF.out];exact HSe.out
                      · have HF:Hid (shiftDown ltInt l (swp dj (l+1) l)=shiftDown ltInt k d2):=by show _=_;rw [← HI.out,shiftDown_go ltInt (l+1) dj (by omega) (by rw [Nat.add_sub_cancel,← HU.out,← HV.out];exact hl),Nat.add_sub_cancel]
                        go_wp2_with fail
                        obtain ⟨cX,fX⟩:=HSj.out.holds (l+1) (by rw [HSJ.out];omega)
                        rw [← HU.out] at cX
                        obtain ⟨cY,fY⟩:=HSj.out.holds l (by rw [HSJ.out];omega)
                        rw [← HV.out] at cY
                        have qcX:=fun d os=>cell_regrown cX d os
                        have qcY:=fun d os=>cell_regrown cY d os
                        refine wp_region_quiet_below (by kernel_rfl) (by kernel_rfl) ?_
                        iterate 11 (first | go_big_quiet_step (first
                          | (go_at_call 146;exact Calls.regrown_of (less_any _ _ _))) | fail)
                        refine wpQuiet_nil ?_
                        intro HSeW hw'
                        obtain ⟨⟨dq,oq⟩,hw''⟩:=hw'
                        have hb3:=below_regrown wr dq oq
                        rw [← hw''] at hb3
                        clear hw'' qcX qcY cX cY fX fY hl
                        have HSe:=Lib.hid (HSj.out.below hb3);clear hb3
                        obtain ⟨cX,fX⟩:=HSe.out.holds (l+1) (by rw [HSJ.out];omega)
                        rw [← HU.out] at cX
                        obtain ⟨cY,fY⟩:=HSe.out.holds l (by rw [HSJ.out];omega)
                        rw [← HV.out] at cY
                        go_wp2_with fail
                        go_region
                        all_goals
                          go_wp2_with fail
                          go_roundw
                          case rel=>exact ⟨l,_,by go_num,by omega,by rw [size_swp];exact HSJ.out,swap2 HSe.out (by rw [HSJ.out];omega) HU.out HV.out,HF.out⟩
                          case measure=>(simp [intOf]) <;> omega
                · have HFD:Hid (fixDown ltInt a (k+1) d2=d2):=by
                    show _=_
                    have:=HKA.out
                    unfold fixDown
                    rw [if_neg (by omega)]
                  go_wp2_with fail
                  go_meet
                  case rel=>rw [HFD.out];exact HS2.out
              case rest =>
                have HS3:=Lib.hid hcut;clear hcut
                obtain ⟨d3,hd3⟩:∃ d3,d3=fixDown ltInt a (k+1) d2:=⟨_,rfl⟩
                have HSK3:Hid (d3.size=D):=by show _=_;rw [hd3,size_fixDown];exact HSK2.out
                rw [← hd3] at HS3 HGO
                clear hd3
                obtain ⟨BK,hBKm,hBK⟩:∃ BK:Nat,BK=b - (k+1)∧(b:Int) - ((k:Int)+1)=(BK:Int):=⟨_,rfl,by omega⟩
                have HBK:=Lib.hid hBKm;clear hBKm
                by_cases h2:2≤BK
                · have HFD:Hid (fixUp ltInt b (k+1) d3=shiftUp ltInt b (k+1+1) d3):=by
                    show _=_
                    have:=HBK.out
                    unfold fixUp
                    rw [if_pos (by omega)]
                  go_wp2_with fail
                  go_loopw [10] (fun v wr=>∃ (j:Nat) (dj:Array Int),v=.int .i64 j∧k+1+1≤j∧j≤b∧dj.size=D∧Srt w wr blk off dj∧shiftUp ltInt b j dj=shiftUp ltInt b (k+1+1) d3) (fun v _=>b - (intOf v).toNat)
                  case atStart=>exact ⟨k+1+1,d3,by go_num,Nat.le_refl _,by have:=HBK.out;omega,HSK3.out,HS3.out,rfl⟩
                  case round =>
                    obtain ⟨j0,dj,rfl,hjk,hjb,hsj,hSj,hI⟩:=hrel
                    have HSj:=Lib.hid hSj;have HI:=Lib.hid hI;have HSJ:=Lib.hid hsj;clear hSj hI hsj
                    obtain ⟨l,rfl⟩:∃ l,j0=l+1:=⟨j0 - 1,by omega⟩
                    by_cases hlb:l+1 < b
                    · have hlb2:(l:Int)+1 < (b:Int):=by omega
                      have l1:(0:Int)≤(l:Int):=by omega
                      have l2:(l:Int) < (D:Int):=by omega
                      have l3:(0:Int)≤(l:Int)+1:=by omega
                      have l4:(l:Int)+1 < (D:Int):=by omega
                      obtain ⟨U,hU⟩:∃ U,U=dj[l+1]!:=⟨_,rfl⟩
                      have HU:=Lib.hid hU;clear hU
                      obtain ⟨V,hV⟩:∃ V,V=dj[l]!:=⟨_,rfl⟩
                      have HV:=Lib.hid hV;clear hV
                      cases hl:ltInt U V
                      · have HF:Hid (dj=fixUp ltInt b (k+1) d3):=by show _=_;rw [HFD.out,← HI.out,shiftUp_stop ltInt b (l+1) dj (.inr (by rw [Nat.add_sub_cancel,← HU.out,← HV.out];exact hl))]
                        go_wp2_with fail
                        obtain ⟨cX,fX⟩:=HSj.out.holds (l+1) (by rw [HSJ.out];omega)
                        rw [← HU.out] at cX
                        obtain ⟨cY,fY⟩:=HSj.out.holds l (by rw [HSJ.out];omega)
                        rw [← HV.out] at cY
                        have qcX:=fun d os=>cell_regrown cX d os
                        have qcY:=fun d os=>cell_regrown cY d os
                        refine wp_region_quiet_below (by kernel_rfl) (by kernel_rfl) ?_
                        iterate 11 (first | go_big_quiet_step (first
                          | (go_at_call 146;exact Calls.regrown_of (less_any _ _ _))) | fail)
                        refine wpQuiet_nil ?_
                        intro HSeW hw'
                        obtain ⟨⟨dq,oq⟩,hw''⟩:=hw'
                        have hb3:=below_regrown wr dq oq
                        rw [← hw''] at hb3
                        clear hw'' qcX qcY cX cY fX fY hl
                        have HSe:=Lib.hid (HSj.out.below hb3);clear hb3
                        go_wp2_with fail
                        go_roundw
                        case rel=>exact ⟨k+1,s+1,fixUp ltInt b (k+1) d3,rfl,by go_num,by omega,by omega,by omega,by rw [size_fixUp];exact HSK3.out,by rw [← HF.out];exact HSe.out,HGO.out⟩
                        case measure=>(simp [intOf]) <;> omega
                      · have HF:Hid (shiftUp ltInt b (l+1+1) (swp dj (l+1) l)=shiftUp ltInt b (k+1+1) d3):=by show _=_;rw [← HI.out,shiftUp_go ltInt b (l+1) dj hlb (by rw [Nat.add_sub_cancel,← HU.out,← HV.out];exact hl),Nat.add_sub_cancel]
                        go_wp2_with fail
                        obtain ⟨cX,fX⟩:=HSj.out.holds (l+1) (by rw [HSJ.out];omega)
                        rw [← HU.out] at cX
                        obtain ⟨cY,fY⟩:=HSj.out.holds l (by rw [HSJ.out];omega)
                        rw [← HV.out] at cY
                        have qcX:=fun d os=>cell_regrown cX d os
                        have qcY:=fun d os=>cell_regrown cY d os
                        refine wp_region_quiet_below (by kernel_rfl) (by kernel_rfl) ?_
                        iterate 11 (first | go_big_quiet_step (first
                          | (go_at_call 146;exact Calls.regrown_of (less_any _ _ _))) | fail)
                        refine wpQuiet_nil ?_
                        intro HSeW hw'
                        obtain ⟨⟨dq,oq⟩,hw''⟩:=hw'
                        have hb3:=below_regrown wr dq oq
                        rw [← hw''] at hb3
                        clear hw'' qcX qcY cX cY fX fY hl
                        have HSe:=Lib.hid (HSj.out.below hb3);clear hb3
                        obtain ⟨cX,fX⟩:=HSe.out.holds (l+1) (by rw [HSJ.out];omega)
                        rw [← HU.out] at cX
                        obtain ⟨cY,fY⟩:=HSe.out.holds l (by rw [HSJ.out];omega)
                        rw [← HV.out] at cY
                        go_wp2_with fail
                        go_region
                        all_goals
                          go_wp2_with fail
                          go_roundw
                          case rel=>exact ⟨l+1+1,_,by go_num,by omega,by omega,by rw [size_swp];exact HSJ.out,swap2 HSe.out (by rw [HSJ.out];omega) HU.out HV.out,HF.out⟩
                          case measure=>(simp [intOf]) <;> omega
                    · have HF:Hid (dj=fixUp ltInt b (k+1) d3):=by show _=_;rw [HFD.out,← HI.out,shiftUp_stop ltInt b (l+1) dj (.inl hlb)]
                      have hlb2:¬ (l:Int)+1 < (b:Int):=by omega
                      go_wp2_with fail
                      go_roundw
                      case rel=>exact ⟨k+1,s+1,fixUp ltInt b (k+1) d3,rfl,by go_num,by omega,by omega,by omega,by rw [size_fixUp];exact HSK3.out,by rw [← HF.out];exact HSj.out,HGO.out⟩
                      case measure=>(simp [intOf]) <;> omega
                · have HFD:Hid (fixUp ltInt b (k+1) d3=d3):=by
                    show _=_
                    have:=HBK.out
                    unfold fixUp
                    rw [if_neg (by omega)]
                  go_wp2_with fail
                  go_roundw
                  case rel=>exact ⟨k+1,s+1,fixUp ltInt b (k+1) d3,rfl,by go_num,by omega,by omega,by omega,by rw [size_fixUp];exact HSK3.out,by rw [HFD.out];exact HS3.out,HGO.out⟩
                  case measure=>(simp [intOf]) <;> omega
    · have hs2:s=5:=by omega
      subst hs2
      have HE:Hid (RS=(dk,false)):=by show _=_;rw [← HO.out];exact pi_end ltInt a b i dk
      go_wp2_with fail
      go_ret
      exact ⟨by rw [HE.out];rfl,by rw [HE.out];exact HSq.out⟩
end Go.Proofs.YtccbpngehedbaaaGreat

