import Derived.Test.YtccbpngehedbaaaGreatJr
import Derived.Sort.Walk13a
import Derived.Test.YtccbpngehedbaaaGreatJk
import Derived.Sort.AssemblyPlain
import Derived.Lib.OwnBridge
import Derived.Test.YtccbpngehedbaaaGreatJo
namespace Go.Proofs.YtccbpngehedbaaaGreat
open Go Go.RowKit Go.Sort

/-! The library's sort at []uint32: the whole. -/
theorem swoU:SWO ltInt:=swo_ltInt
theorem insU_at (blk off cap a b D:Nat) (d:Array Int) (w0 w:World) (hD:d.size=D) (hs:Srt w0 w blk off d) (hab:a≤b) (hb:b≤D) (hsz:D≤1000000000) :
    Calls Tryz.prog 140 #[.slice (some ⟨blk,off,none⟩) D cap,.int .i64 a,.int .i64 b] w fun e w'=>e=.returned (.tuple #[])∧Srt w0 w' blk off (insertionSort ltInt d a b):=by
  subst hD;exact (insU blk off cap a b d w hs.start hab hb hsz).mono fun e w' ⟨h1,h2⟩=>⟨h1,hs.trans h2⟩
theorem heapU_at (blk off cap a b D:Nat) (d:Array Int) (w0 w:World) (hD:d.size=D) (hs:Srt w0 w blk off d) (hab:a < b) (hb:b≤D) (hsz:D≤1000000000) :
    Calls Tryz.prog 141 #[.slice (some ⟨blk,off,none⟩) D cap,.int .i64 a,.int .i64 b] w fun e w'=>e=.returned (.tuple #[])∧Srt w0 w' blk off (heapSort ltInt d a b):=by
  subst hD;exact (heapU blk off cap a b d w hs.start hab hb hsz).mono fun e w' ⟨h1,h2⟩=>⟨h1,hs.trans h2⟩
theorem revU_at (blk off cap a b D:Nat) (d:Array Int) (w0 w:World) (hD:d.size=D) (hs:Srt w0 w blk off d) (hab:a < b) (hb:b≤D) (hsz:D≤1000000000) :
    Calls Tryz.prog 144 #[.slice (some ⟨blk,off,none⟩) D cap,.int .i64 a,.int .i64 b] w fun e w'=>e=.returned (.tuple #[])∧Srt w0 w' blk off (reverseRange d a b):=by
  subst hD;exact (revU blk off cap a b d w hs.start hab hb hsz).mono fun e w' ⟨h1,h2⟩=>⟨h1,hs.trans h2⟩
theorem breakU_at (blk off cap a b D:Nat) (d:Array Int) (w0 w:World) (hD:d.size=D) (hs:Srt w0 w blk off d) (h8:8≤b - a) (hb:b≤D) (hsz:D≤1000000000) :
    Calls Tryz.prog 142 #[.slice (some ⟨blk,off,none⟩) D cap,.int .i64 a,.int .i64 b] w fun e w'=>e=.returned (.tuple #[])∧Srt w0 w' blk off (breakPatterns d a b) :=
  (breakU blk off cap a b D d w hD hs.start h8 hb hsz).mono fun _e _w' ⟨h1,h2⟩=>⟨h1,hs.trans h2⟩
theorem chooseU_at (blk off cap a b D:Nat) (d:Array Int) (w0 w:World) (hD:d.size=D) (hs:Srt w0 w blk off d) (h12:12 < b - a) (hb:b≤D) (hsz:D≤1000000000) {c:Nat × Hint} (hc:c=choosePivot ltInt d a b) :
    Calls Tryz.prog 143 #[.slice (some ⟨blk,off,none⟩) D cap,.int .i64 a,.int .i64 b] w fun e w'=>e=.returned (.tuple #[.int .i64 (c.1:Nat),.int .i64 (hintN c.2)])∧Srt w0 w' blk off d:=by
  subst hc;exact (chooseU blk off cap a b D d w hD hs.start h12 hb hsz).mono fun e w' ⟨h1,h2⟩=>⟨h1,hs.trans h2⟩
theorem parU_at (blk off cap a b D:Nat) (d:Array Int) (w0 w:World) (hD:d.size=D) (hs:Srt w0 w blk off d) (hab:a < b) (hb:b≤D) (hsz:D≤1000000000) {c:Array Int × Bool} (hc:c=partialInsertionSort ltInt d a b) :
    Calls Tryz.prog 145 #[.slice (some ⟨blk,off,none⟩) D cap,.int .i64 a,.int .i64 b] w fun e w'=>e=.returned (.bool c.2)∧Srt w0 w' blk off c.1:=by
  subst hD hc;exact (parU blk off cap a b d w hs.start hab hb hsz).mono fun e w' ⟨h1,h2⟩=>⟨h1,hs.trans h2⟩
theorem peqU_at (blk off cap a b pv D:Nat) (d:Array Int) (w0 w:World) (hD:d.size=D) (hs:Srt w0 w blk off d) (hb:b≤D) (hsz:D≤1000000000) (hp1:a < pv) (hp2:pv < b) {mid:Nat} {d4:Array Int} (hc:partitionEqual ltInt d a b pv=(mid,d4)) :
    Calls Tryz.prog 147 #[.slice (some ⟨blk,off,none⟩) D cap,.int .i64 a,.int .i64 b,.int .i64 pv] w fun e w'=>e=.returned (.int .i64 (mid:Nat))∧Srt w0 w' blk off d4:=by
  subst hD
  have h:=peqU blk off cap a b pv d w hs.start hb hsz hp1 hp2
  rw [hc] at h
  exact h.mono fun e w' ⟨h1,h2⟩=>⟨h1,hs.trans h2⟩
theorem partU_at (blk off cap a b pv D:Nat) (d:Array Int) (w0 w:World) (hD:d.size=D) (hs:Srt w0 w blk off d) (hb:b≤D) (hsz:D≤1000000000) (hp1:a < pv) (hp2:pv < b) {mid:Nat} {ap:Bool} {d4:Array Int} (hc:partition ltInt d a b pv=(mid,ap,d4)) :
    Calls Tryz.prog 148 #[.slice (some ⟨blk,off,none⟩) D cap,.int .i64 a,.int .i64 b,.int .i64 pv] w fun e w'=>e=.returned (.tuple #[.int .i64 (mid:Nat),.bool ap])∧Srt w0 w' blk off d4:=by
  subst hD
  have h:=partU blk off cap a b pv d w hs.start hb hsz hp1 hp2
  rw [hc] at h
  exact h.mono fun e w' ⟨h1,h2⟩=>⟨h1,hs.trans h2⟩
theorem hintN_two (h:Hint):(hintN h=2) ↔ h=.decreasing:=by cases h <;> simp [hintN]
set_option maxRecDepth 100000 in
set_option maxHeartbeats 32000000 in
theorem pdqU : ∀ (Nn blk off cap a b limit D : Nat) (d : Array Int) (w0 w : World), b - a < Nn → d.size = D → Srt w0 w blk off d → a ≤ b → b ≤ D → D ≤ 1000000000 → limit ≤ 1000000000 → Go.Sort.Below ltInt a b d →
    Calls Tryz.prog 118 #[.slice (some ⟨blk,off,none⟩) D cap,.int .i64 a,.int .i64 b,.int .i64 limit] w fun e w'=>e=.returned (.tuple #[])∧Srt w0 w' blk off (pdq ltInt d a b limit true true):=by
  intro Nn
  induction Nn with
  | zero=>intro _ _ _ _ _ _ _ _ _ _ h;exact absurd h (Nat.not_lt_zero _)
  | succ Nn ih =>
    intro blk off cap a b limit D d w0 w hN hD hs hab hb hsz hlimit hBel0
    have HS:=Lib.hid hs;have HD:=Lib.hid hD;have HB0:=Lib.hid hBel0;have IH:=Lib.hid ih
    obtain ⟨RES,hRES⟩:∃ RES,RES=pdq ltInt d a b limit true true:=⟨_,rfl⟩
    rw [← hRES]
    have HRES:=Lib.hid hRES
    clear hs hD hBel0 ih hRES
    go_enter Tryz.func118,Tryz.ntmps118
    go_wp2_with fail
    go_loopw [1,2,3,8,9] (fun s1 s2 s3 s8 s9 wr=>∃ (x y lim:Nat) (wb wp:Bool) (dk:Array Int),s1=.int .i64 x∧s2=.int .i64 y∧s3=.int .i64 lim∧s8=.bool wb∧s9=.bool wp ∧
      x≤y∧y≤D∧y - x≤b - a∧lim≤1000000000∧dk.size=D∧Go.Sort.Below ltInt x y dk∧Srt w0 wr blk off dk∧pdq ltInt dk x y lim wb wp=RES) (fun s1 s2 _ _ _ _=>(intOf s2).toNat - (intOf s1).toNat)
    case atStart=>exact ⟨a,b,limit,true,true,d,rfl,rfl,rfl,rfl,rfl,hab,hb,Nat.le_refl _,hlimit,HD.out,HB0.out,HS.out,HRES.out.symm⟩
    case round =>
      obtain ⟨x,y,lim,wb,wp,dk,rfl,rfl,rfl,rfl,rfl,hxy,hyD,hyx,hlm,hsk,hBk,hSk,hO⟩:=hrel
      have HSq:=Lib.hid hSk;have HO:=Lib.hid hO;have HSK:=Lib.hid hsk;have HBk:=Lib.hid hBk
      clear hSk hO hsk hBk HS HD HB0 HRES
      obtain ⟨L,hLm,hL⟩:∃ L:Nat,L=y - x∧(y:Int) - (x:Int)=(L:Int):=⟨_,rfl,by omega⟩
      have HLM:=Lib.hid hLm
      by_cases h12:L≤12
      · have h12i:(L:Int)≤12:=by omega
        have HE:Hid (insertionSort ltInt dk x y=RES):=by show _=_;rw [← HO.out,pdq_small (by omega)]
        clear hLm
        go_wp2_with fail
        refine (insU_at blk off cap x y D dk w0 wr HSK.out HSq.out hxy hyD hsz).mono ?_
        rintro e w5 ⟨rfl,h5⟩
        have H5:=Lib.hid h5;clear h5
        go_wp2_with fail
        refine bodyPost_ret (results_none rfl _ _ _) rfl ?_
        exact ⟨rfl,by rw [← HE.out];exact H5.out⟩
      · have h12i : ¬ (L : Int) ≤ 12 := by omega
        have h12n:¬ y - x≤12:=by omega
        have hxy2:x < y:=by omega
        by_cases hl0:lim=0
        · subst hl0
          have HE:Hid (heapSort ltInt dk x y=RES):=by show _=_;rw [← HO.out,pdq_heap h12n rfl]
          clear hLm
          go_wp2_with fail
          refine (heapU_at blk off cap x y D dk w0 wr HSK.out HSq.out hxy2 hyD hsz).mono ?_
          rintro e w5 ⟨rfl,h5⟩
          have H5:=Lib.hid h5;clear h5
          go_wp2_with fail
          refine bodyPost_ret (results_none rfl _ _ _) rfl ?_
          exact ⟨rfl,by rw [← HE.out];exact H5.out⟩
        · have hl0i : ((lim : Int) == 0) = false := beq_eq_false_iff_ne.2 (by omega)
          have hl0j:¬ (lim:Int)=0:=by omega
          obtain ⟨R,hR⟩:∃ R,R=rd ltInt dk x y lim wb wp:=⟨_,rfl⟩
          have HF:=Lib.hid (rd_facts (limit:=lim) (wb:=wb) (wp:=wp) swoU (partialInsertionSort_holds (lt:=ltInt)) (reverseRange_holds (α:=Int)) hxy2 (show y≤dk.size by rw [HSK.out];exact hyD) HBk.out)
          rw [← hR] at HF
          have G1:Hid (wb=false→R.d1=breakPatterns dk x y∧R.lim=lim - 1):=fun h=>by subst h hR;exact rd_false
          have G2:Hid (wb=true→R.d1=dk∧R.lim=lim):=fun h=>by subst h hR;exact rd_true
          have G3:Hid (R.c=choosePivot ltInt R.d1 x y):=by show _=_;subst hR;exact rd_c
          have G4:Hid (R.c.2=.decreasing→R.d2=reverseRange R.d1 x y∧R.pivot=(y - 1) - (R.c.1 - x)∧R.hint=.increasing):=fun h=>by subst hR;exact rd_dec h
          have G5:Hid (R.c.2 ≠ .decreasing→R.d2=R.d1∧R.pivot=R.c.1∧R.hint=R.c.2):=fun h=>by subst hR;exact rd_not h
          have G6:Hid ((wb && wp && decide (R.hint=.increasing))=true→R.pi=partialInsertionSort ltInt R.d2 x y):=fun h=>by subst hR;exact rd_pi_yes h
          have G7:Hid ((wb && wp && decide (R.hint=.increasing))=false→R.pi=(R.d2,false)):=fun h=>by subst hR;exact rd_pi_no h
          have G8:Hid (R.pi.2=true→R.pi.1=RES):=fun h=>by rw [← HO.out];subst hR;exact (pdq_done h12n hl0 h).symm
          have GL:Hid (R.lim≤lim):=by show _≤_;subst hR;exact rd_lim_le
          have E1:Hid (R.pi.2=false→(decide (x > 0) && !ltInt R.pi.1[x - 1]! R.pi.1[R.pivot]!)=true→∀ mid d4,partitionEqual ltInt R.pi.1 x y R.pivot=(mid,d4)→x < mid∧mid≤y→pdq ltInt d4 mid y R.lim wb wp=RES):=fun h1 h2 mid d4 hx h3=>by
            rw [← HO.out];subst hR;rw [pdq_eq h12n hl0 h1 h2 (by rw [hx];exact h3),hx]
          have E2:Hid (R.pi.2=false→(decide (x > 0) && !ltInt R.pi.1[x - 1]! R.pi.1[R.pivot]!)=false→∀ mid ap d4,partition ltInt R.pi.1 x y R.pivot=(mid,ap,d4)→x≤mid∧mid < y→mid - x < y - mid →
              pdq ltInt (pdq ltInt d4 x mid R.lim true true) (mid+1) y R.lim (decide (mid - x ≥ (y - x) / 8)) ap=RES):=fun h1 h2 mid ap d4 hx h3 h4=>by
            rw [← HO.out];subst hR;rw [pdq_left h12n hl0 h1 h2 (by rw [hx];exact h3) (by rw [hx];exact h4),hx]
          have E3:Hid (R.pi.2=false→(decide (x > 0) && !ltInt R.pi.1[x - 1]! R.pi.1[R.pivot]!)=false→∀ mid ap d4,partition ltInt R.pi.1 x y R.pivot=(mid,ap,d4)→x≤mid∧mid < y→¬ mid - x < y - mid →
              pdq ltInt (pdq ltInt d4 (mid+1) y R.lim true true) x mid R.lim (decide (y - mid ≥ (y - x) / 8)) ap=RES):=fun h1 h2 mid ap d4 hx h3 h4=>by
            rw [← HO.out];subst hR;rw [pdq_right h12n hl0 h1 h2 (by rw [hx];exact h3) (by rw [hx];exact h4),hx]
          clear hR
          have HC12:Hid (12 < y - x):=by show _ < _;omega
          have HPVT:Hid (x < R.c.1∧R.c.1+1 < y∧x < R.pivot∧R.pivot < y):=by
            show _∧_
            obtain ⟨c1,c2⟩:=choose_P R.d1 (a:=x) (b:=y) HC12.out
            rw [← G3.out] at c1 c2
            by_cases hd:R.c.2=.decreasing
            · have h:=(G4.out hd).2.1;omega
            · have h:=(G5.out hd).2.1;omega
          have HZ1:Hid (R.d1.size=D):=HF.out.1.trans HSK.out
          have HZ2:Hid (R.d2.size=D):=HF.out.2.2.2.1.trans HSK.out
          have HZ3:Hid (R.pi.1.size=D):=HF.out.2.2.2.2.2.2.1.trans HSK.out
          have HBL3:Hid (Go.Sort.Below ltInt x y R.pi.1):=HF.out.2.2.2.2.2.2.2
          clear HF
          go_upto_if 35 with fail
          go_cut [3] from 19 to 133 (fun s3 wc=>s3=.int .i64 (R.lim:Nat)∧Srt w0 wc blk off R.d1)
          case first =>
            cases wb
            · go_wp2_with fail
              refine (breakU_at blk off cap x y D dk w0 wr HSK.out HSq.out (by omega) hyD hsz).mono ?_
              rintro e w5 ⟨rfl,h5⟩
              have H5:=Lib.hid h5;clear h5
              go_wp2_with fail
              go_meet
              case rel=>exact ⟨by rw [(G1.out (by trivial)).2];congr 1;omega,by rw [(G1.out (by trivial)).1];exact H5.out⟩
            · go_wp2_with fail
              go_meet
              case rel=>exact ⟨by rw [(G2.out (by trivial)).2],by rw [(G2.out (by trivial)).1];exact HSq.out⟩
          case rest =>
            obtain ⟨rfl,hc1⟩:=hcut
            have HS1:=Lib.hid hc1;clear hc1
            have hlim2:R.lim≤1000000000:=Nat.le_trans GL.out hlm
            go_upto_if 50 with (go_at_call 143;refine (chooseU_at blk off cap x y D R.d1 w0 _ HZ1.out HS1.out HC12.out hyD hsz G3.out).mono ?_;rintro e w6 ⟨rfl,h6⟩;have H6:=Lib.hid h6;clear h6)
            go_cut [11,12] from 19 to 133 (fun s11 s12 wc=>s11=.int .i64 (R.pivot:Nat)∧s12=.int .i64 (hintN R.hint)∧Srt w0 wc blk off R.d2)
            case first =>
              by_cases hd:R.c.2=.decreasing
              · have hcode:hintN R.c.2=2:=(hintN_two _).2 hd
                obtain ⟨q1,q2,q3,q4⟩:=HPVT.out
                obtain ⟨g1,g2,g3⟩:=G4.out hd
                have HG1:=Lib.hid g1;have HG2:=Lib.hid g2;have HG3:=Lib.hid g3;clear g1 g2 g3
                go_wp2_with fail
                refine (revU_at blk off cap x y D R.d1 w0 _ HZ1.out H6.out hxy2 hyD hsz).mono ?_
                rintro e w7 ⟨rfl,h7⟩
                have H7:=Lib.hid h7;clear h7
                go_wp2_with fail
                go_meet
                case rel=>exact ⟨by have h2:=HG2.out;congr 1;omega,by rw [HG3.out];rfl,by rw [HG1.out];exact H7.out⟩
              · have hcode:¬ hintN R.c.2=2:=fun h=>hd ((hintN_two _).1 h)
                obtain ⟨g1,g2,g3⟩:=G5.out hd
                have HG1:=Lib.hid g1;have HG2:=Lib.hid g2;have HG3:=Lib.hid g3;clear g1 g2 g3
                go_wp2_with fail
                go_meet
                case rel=>exact ⟨by rw [HG2.out],by rw [HG3.out],by rw [HG1.out];exact H6.out⟩
            case rest =>
              obtain ⟨rfl,rfl,hc2⟩:=hcut
              have HS2:=Lib.hid hc2;clear hc2
              go_upto_region 15 with fail
              go_cut [12,68] from 19 to 133 (fun s12 s68 wx=>s12=.int .i64 (hintN R.hint)∧s68=.bool (wb && wp && decide (R.hint=.increasing))∧Srt w0 wx blk off R.d2)
              case first =>
                cases wb <;> cases wp <;> cases hh3:R.hint <;>
                  (have hcode3:=congrArg hintN hh3
                   simp only [hintN] at hcode3
                   go_wp2_with fail
                   go_meet
                   case rel=>exact ⟨by simp [hh3,hintN],by simp [hh3,hintN],HS2.out⟩)
              case rest =>
                obtain ⟨rfl,rfl,hc3⟩:=hcut
                have HS3:=Lib.hid hc3;clear hc3
                go_upto_if 68 with fail
                go_cut [] from 19 to 133 (fun wx=>R.pi.2=false∧Srt w0 wx blk off R.pi.1)
                case first =>
                  cases h68:(wb && wp && decide (R.hint=.increasing))
                  · have HPI:=Lib.hid (G7.out h68)
                    go_wp2_with fail
                    go_meet
                    case rel=>exact ⟨by rw [HPI.out],by rw [HPI.out];exact HS3.out⟩
                  · have HPI:=Lib.hid (G6.out h68)
                    have hp:=parU_at blk off cap x y D R.d2 w0 _ HZ2.out HS3.out hxy2 hyD hsz HPI.out
                    cases hp2:R.pi.2
                    · rw [hp2] at hp
                      have HPP:=Lib.hid hp;have HP2:=Lib.hid hp2;clear hp hp2
                      go_wp2_with fail
                      refine HPP.out.mono ?_
                      rintro e w7 ⟨rfl,h7⟩
                      have H7:=Lib.hid h7;clear h7
                      go_wp2_with fail
                      go_meet
                      case rel=>exact ⟨HP2.out,H7.out⟩
                    · rw [hp2] at hp
                      have HPP:=Lib.hid hp;have HE:=Lib.hid (G8.out hp2);clear hp hp2
                      go_wp2_with fail
                      refine HPP.out.mono ?_
                      rintro e w7 ⟨rfl,h7⟩
                      have H7:=Lib.hid h7;clear h7
                      go_wp2_with fail
                      refine bodyPost_ret (results_none rfl _ _ _) rfl ?_
                      exact ⟨rfl,by rw [← HE.out];exact H7.out⟩
                case rest =>
                  obtain ⟨hc4,hc5⟩:=hcut
                  have HP2:=Lib.hid hc4;have HS4:=Lib.hid hc5;clear hc4 hc5
                  have hb3:y≤R.pi.1.size:=by rw [HZ3.out];exact hyD
                  obtain ⟨q1,q2,q3,q4⟩:=HPVT.out
                  go_upto_region 17 with fail
                  go_cut [87] from 19 to 133 (fun s87 wx=>s87=.bool (decide (x > 0) && !ltInt R.pi.1[x - 1]! R.pi.1[R.pivot]!)∧Srt w0 wx blk off R.pi.1)
                  case first =>
                    have j3:(0:Int)≤(R.pivot:Int):=by omega
                    have j4:(R.pivot:Int) < (D:Int):=by omega
                    by_cases hx0:x > 0
                    · have d1:decide ((x:Int) > 0)=true:=decide_eq_true (by omega)
                      obtain ⟨X,hXm,hX⟩:∃ X:Nat,X=x - 1∧(x:Int) - 1=(X:Int):=⟨_,rfl,by omega⟩
                      have j1:(0:Int)≤(X:Int):=by omega
                      have j2:(X:Int) < (D:Int):=by omega
                      have HXM:Hid (X=x - 1):=hXm
                      clear hXm
                      obtain ⟨V,hV⟩:∃ V,V=R.pi.1[X]!:=⟨_,rfl⟩
                      have HV:=Lib.hid hV;clear hV
                      obtain ⟨W,hW⟩:∃ W,W=R.pi.1[R.pivot]!:=⟨_,rfl⟩
                      have HW:=Lib.hid hW;clear hW
                      cases hl:ltInt V W
                      · have HPT:Hid ((decide (x > 0) && !ltInt R.pi.1[x - 1]! R.pi.1[R.pivot]!)=true):=by show _=_;rw [HV.out,HW.out,HXM.out] at hl;simp [hl,hx0]
                        have HL:=Lib.hid hl
                        go_wp2_with fail
                        obtain ⟨cV,fV⟩:=HS4.out.holds X (by rw [HZ3.out];omega)
                        rw [← HV.out] at cV
                        obtain ⟨cW,fW⟩:=HS4.out.holds R.pivot (by rw [HZ3.out];omega)
                        rw [← HW.out] at cW
                        have qcV:=fun d os=>cell_regrown cV d os
                        have qcW:=fun d os=>cell_regrown cW d os
                        refine wp_region_quiet_below (by kernel_rfl) (by kernel_rfl) ?_
                        iterate 15 (first | go_big_quiet_step (first
                          | (go_at_call 146;exact Calls.regrown_of (less_any _ _ _))) | fail)
                        refine wpQuiet_nil ?_
                        intro HSeW hw'
                        obtain ⟨⟨dq,oq⟩,hw''⟩:=hw'
                        have hb3:=below_regrown wc dq oq
                        rw [← hw''] at hb3
                        clear hw'' qcV qcW cV cW fV fW hl
                        have HSe:=Lib.hid (HS4.out.below hb3);clear hb3
                        go_wp2_with fail
                        go_meet
                        case rel=>exact ⟨by rw [HPT.out],HSe.out⟩
                      · have HPT:Hid ((decide (x > 0) && !ltInt R.pi.1[x - 1]! R.pi.1[R.pivot]!)=false):=by show _=_;rw [HV.out,HW.out,HXM.out] at hl;simp [hl,hx0]
                        have HL:=Lib.hid hl
                        go_wp2_with fail
                        obtain ⟨cV,fV⟩:=HS4.out.holds X (by rw [HZ3.out];omega)
                        rw [← HV.out] at cV
                        obtain ⟨cW,fW⟩:=HS4.out.holds R.pivot (by rw [HZ3.out];omega)
                        rw [← HW.out] at cW
                        have qcV:=fun d os=>cell_regrown cV d os
                        have qcW:=fun d os=>cell_regrown cW d os
                        refine wp_region_quiet_below (by kernel_rfl) (by kernel_rfl) ?_
                        iterate 15 (first | go_big_quiet_step (first
                          | (go_at_call 146;exact Calls.regrown_of (less_any _ _ _))) | fail)
                        refine wpQuiet_nil ?_
                        intro HSeW hw'
                        obtain ⟨⟨dq,oq⟩,hw''⟩:=hw'
                        have hb3:=below_regrown wc dq oq
                        rw [← hw''] at hb3
                        clear hw'' qcV qcW cV cW fV fW hl
                        have HSe:=Lib.hid (HS4.out.below hb3);clear hb3
                        go_wp2_with fail
                        go_meet
                        case rel=>exact ⟨by rw [HPT.out],HSe.out⟩
                    · have d1:decide ((x:Int) > 0)=false:=decide_eq_false (by omega)
                      have HPT:Hid ((decide (x > 0) && !ltInt R.pi.1[x - 1]! R.pi.1[R.pivot]!)=false):=by show _=_;simp [hx0]
                      go_wp2_with fail
                      refine wp_region_quiet_below (by kernel_rfl) (by kernel_rfl) ?_
                      iterate 15 (first | go_big_quiet_step (first
                        | (go_at_call 146;exact Calls.regrown_of (less_any _ _ _))) | fail)
                      refine wpQuiet_nil ?_
                      intro HSeW hw'
                      obtain ⟨⟨dq,oq⟩,hw''⟩:=hw'
                      have hb3:=below_regrown wc dq oq
                      rw [← hw''] at hb3
                      clear hw''   
                      have HSe:=Lib.hid (HS4.out.below hb3);clear hb3
                      go_wp2_with fail
                      go_meet
                      case rel=>exact ⟨by rw [HPT.out],HSe.out⟩
                  case rest =>
                    obtain ⟨rfl,hc6⟩:=hcut
                    have HS6:=Lib.hid hc6;clear hc6
                    cases h87:(decide (x > 0) && !ltInt R.pi.1[x - 1]! R.pi.1[R.pivot]!)
                    · obtain ⟨mid,ap,d4,hx⟩:∃ mid ap d4,partition ltInt R.pi.1 x y R.pivot=(mid,ap,d4):=⟨(partition ltInt R.pi.1 x y R.pivot).1,(partition ltInt R.pi.1 x y R.pivot).2.1,(partition ltInt R.pi.1 x y R.pivot).2.2,rfl⟩
                      obtain ⟨r1,r2,r3,r4,r5,r6,r7⟩:=round_part swoU (partition_holds ltInt) (Nat.le_of_lt q3) q4 hb3 HBL3.out hx
                      have HX:=Lib.hid hx;have R3:Hid (d4.size=D):=r3.trans HZ3.out
                      have R4:=Lib.hid r4;have R5:=Lib.hid r5;have R6:=Lib.hid r6;have R7:=Lib.hid r7
                      clear hx r3 r4 r5 r6 r7
                      have F2:=Lib.hid (fun h4=>E2.out HP2.out h87 mid ap d4 HX.out ⟨r1,r2⟩ h4)
                      have F3:=Lib.hid (fun h4=>E3.out HP2.out h87 mid ap d4 HX.out ⟨r1,r2⟩ h4)
                      have H87:=Lib.hid h87;clear h87
                      go_upto_if 113 with (go_at_call 148;refine (partU_at blk off cap x y R.pivot D R.pi.1 w0 _ HZ3.out HS6.out hyD hsz q3 q4 HX.out).mono ?_;rintro e w7 ⟨rfl,h7⟩;have H7:=Lib.hid h7;clear h7)
                      by_cases h4:mid - x < y - mid
                      · have h4z:(mid:Int) - (x:Int) < (y:Int) - (mid:Int):=by omega
                        obtain ⟨p1,p2⟩:=pdq_sorts ltInt swoU d4 x mid R.lim true true r1 (by rw [R3.out];omega) R4.out
                        obtain ⟨f1,_⟩:=R6.out _ p1 p2
                        have hih:=IH.out blk off cap x mid R.lim D d4 w0 _ (by omega) R3.out H7.out r1 (by omega) hsz hlim2 R4.out
                        have F:=Lib.hid (F2.out h4)
                        obtain ⟨dL,hdL⟩:∃ dL,dL=pdq ltInt d4 x mid R.lim true true:=⟨_,rfl⟩
                        rw [← hdL] at p1 f1 hih F
                        have HIH:=Lib.hid hih;have HF1:=Lib.hid f1;have HZL:Hid (dL.size=D):=p1.1.trans R3.out
                        clear hih f1 p1 p2 hdL F2 F3 R4 R5 R6 R7
                        go_wp2_with fail
                        refine HIH.out.mono ?_
                        rintro e w8 ⟨rfl,h8⟩
                        have H8:=Lib.hid h8;clear h8
                        go_wp2_with fail
                        go_roundw
                        case rel=>exact ⟨mid+1,y,R.lim,decide (mid - x ≥ (y - x) / 8),ap,dL,by go_num,rfl,rfl,congrArg Value.bool (decide_eq_decide.2 ⟨fun h=>by omega,fun h=>by omega⟩),rfl,by omega,hyD,by omega,hlim2,HZL.out,HF1.out,H8.out,F.out⟩
                        case measure=>(simp [intOf]) <;> omega
                      · have h4z:¬ ((mid:Int) - (x:Int) < (y:Int) - (mid:Int)):=by omega
                        obtain ⟨p1,p2⟩:=pdq_sorts ltInt swoU d4 (mid+1) y R.lim true true (by omega) (by rw [R3.out];exact hyD) R5.out
                        obtain ⟨f1,_⟩:=R7.out _ p1 p2
                        have hih:=IH.out blk off cap (mid+1) y R.lim D d4 w0 _ (by omega) R3.out H7.out (by omega) hyD hsz hlim2 R5.out
                        have F:=Lib.hid (F3.out h4)
                        obtain ⟨dL,hdL⟩:∃ dL,dL=pdq ltInt d4 (mid+1) y R.lim true true:=⟨_,rfl⟩
                        rw [← hdL] at p1 f1 hih F
                        have HIH:=Lib.hid hih;have HF1:=Lib.hid f1;have HZL:Hid (dL.size=D):=p1.1.trans R3.out
                        have hm1:((mid+1:Nat):Int)=(mid:Int)+1:=by omega
                        rw [hm1] at HIH
                        clear hih f1 p1 p2 hdL F2 F3 R4 R5 R6 R7 hm1
                        go_wp2_with fail
                        refine HIH.out.mono ?_
                        rintro e w8 ⟨rfl,h8⟩
                        have H8:=Lib.hid h8;clear h8
                        go_wp2_with fail
                        go_roundw
                        case rel=>exact ⟨x,mid,R.lim,decide (y - mid ≥ (y - x) / 8),ap,dL,rfl,rfl,rfl,congrArg Value.bool (decide_eq_decide.2 ⟨fun h=>by omega,fun h=>by omega⟩),rfl,r1,by omega,by omega,hlim2,HZL.out,HF1.out,H8.out,F.out⟩
                        case measure=>(simp [intOf]) <;> omega
                    · have h87':=h87
                      simp only [Bool.and_eq_true,decide_eq_true_eq,Bool.not_eq_true'] at h87'
                      obtain ⟨mid,d4,hx⟩:∃ mid d4,partitionEqual ltInt R.pi.1 x y R.pivot=(mid,d4):=⟨(partitionEqual ltInt R.pi.1 x y R.pivot).1,(partitionEqual ltInt R.pi.1 x y R.pivot).2,rfl⟩
                      obtain ⟨r1,r2,r3,r4,_⟩:=round_eq swoU (partitionEqual_holds ltInt) h87'.1 (Nat.le_of_lt q3) q4 hb3 HBL3.out h87'.2 hx
                      have HX:=Lib.hid hx;have R3:Hid (d4.size=D):=r3.trans HZ3.out
                      have R4:=Lib.hid r4
                      have F:=Lib.hid (E1.out HP2.out h87 mid d4 HX.out ⟨r1,r2⟩)
                      have H87:=Lib.hid h87;clear h87 h87' hx r3 r4
                      go_wp2_with fail
                      refine (peqU_at blk off cap x y R.pivot D R.pi.1 w0 _ HZ3.out HS6.out hyD hsz q3 q4 HX.out).mono ?_
                      rintro e w7 ⟨rfl,h7⟩
                      have H7:=Lib.hid h7;clear h7
                      go_wp2_with fail
                      go_roundw
                      case rel=>exact ⟨mid,y,R.lim,wb,wp,d4,rfl,rfl,rfl,rfl,rfl,r2,hyD,by omega,hlim2,R3.out,R4.out,H7.out,F.out⟩
                      case measure=>(simp [intOf]) <;> omega
end Go.Proofs.YtccbpngehedbaaaGreat

namespace Go.Proofs.YtccbpngehedbaaaGreat
open Go Go.RowKit Go.Sort

/-! The library's sort at []uint32: slices.Sort, and of no element. -/
set_option maxRecDepth 100000 in
set_option maxHeartbeats 4000000 in
theorem sortU (blk off cap D:Nat) (d:Array Int) (w:World) (hD:d.size=D) (hs:Srt w w blk off d) (hsz:D≤1000000000) :
    Calls Tryz.prog 87 #[.slice (some ⟨blk,off,none⟩) D cap] w fun e w'=>e=.returned (.tuple #[])∧Srt w w' blk off (Go.Sort.sort ltInt d):=by
  have HS:=Lib.hid hs;have HD:=Lib.hid hD
  have HE:Hid (Go.Sort.sort ltInt d=pdq ltInt d 0 D (bitsLen D) true true):=by show _=_;rw [← hD];rfl
  obtain ⟨RES,hR⟩:∃ RES,RES=Go.Sort.sort ltInt d:=⟨_,rfl⟩
  rw [← hR] at HE ⊢
  clear hs hD hR
  have hk:bitsLen D≤62:=(bitsLen_le_iff D 62).2 (by omega)
  go_enter Tryz.func87,Tryz.ntmps87
  go_wp2_with (first
    | (go_at_call 119;refine (lenU D hsz _).mono ?_;rintro e w' ⟨rfl,rfl⟩)
    | (go_at_call 118;refine (pdqU (D+1) blk off cap 0 D (bitsLen D) D d _ _ (by omega) HD.out HS.out (Nat.zero_le _) (Nat.le_refl _) hsz (by omega) (Or.inl rfl)).mono ?_;rintro e w' ⟨rfl,h⟩;have H:=Lib.hid h;clear h))
  go_end0
  exact ⟨rfl,by rw [HE.out];exact H.out⟩
set_option maxRecDepth 100000 in
theorem insU_nil (w:World) :
    Calls Tryz.prog 140 #[.slice none 0 0,.int .i64 0,.int .i64 0] w fun e w'=>e=.returned (.tuple #[])∧w'=w:=by
  go_enter Tryz.func140,Tryz.ntmps140
  go_wp2
  refine wp_loop_rounds 1 ?_
  rw [rounds_succ]
  go_wp2
  go_end0
  exact ⟨rfl,rfl⟩
set_option maxRecDepth 100000 in
theorem pdqU_nil (w:World) :
    Calls Tryz.prog 118 #[.slice none 0 0,.int .i64 0,.int .i64 0,.int .i64 0] w fun e w'=>e=.returned (.tuple #[])∧w'=w:=by
  go_enter Tryz.func118,Tryz.ntmps118
  go_wp2
  refine wp_loop_rounds 1 ?_
  rw [rounds_succ]
  go_wp2_with (first | (go_at_call 140;refine (insU_nil _).mono ?_;rintro e w' ⟨rfl,rfl⟩))
  refine bodyPost_ret (results_none rfl _ _ _) rfl ?_
  exact ⟨rfl,rfl⟩
set_option maxRecDepth 100000 in
theorem sortU_none (w:World):Calls Tryz.prog 87 #[.slice none 0 0] w fun e w'=>e=.returned (.tuple #[])∧w'=w:=by
  have hLen:∀ w,Calls Tryz.prog 119 #[.int .u64 0] w fun e w'=>e=.returned (.int .i64 0)∧w'=w:=fun w=>lenU 0 (by omega) w
  go_enter Tryz.func87,Tryz.ntmps87
  go_wp2_with (first
    | (go_at_call 119;refine (hLen _).mono ?_;rintro e w' ⟨rfl,rfl⟩)
    | (go_at_call 118;refine (pdqU_nil _).mono ?_;rintro e w' ⟨rfl,rfl⟩))
  go_end0
  exact ⟨rfl,rfl⟩
theorem sortU_nil (w:World):Calls Tryz.prog 87 #[.slice none 0 0] w fun e w'=>e=.returned (.tuple #[])∧w.grownBy w' none :=
  (sortU_none w).mono fun e w' ⟨h1,h2⟩=>⟨h1,by subst h2;exact ⟨rfl,rfl,rfl,Nat.le_refl _,fun _ _ _=>rfl⟩⟩
/-- The numbers as the sort reads them. -/
def intsN (N:List Nat):List Int:=N.map fun (n:Nat)=>(n:Int)
theorem u32V_ints (N:List Nat):(intsN N).map (Value.int .u32)=u32V N:=by simp [intsN,u32V,Function.comp_def]
theorem sorted_ints (N:List Nat):∃ N',N'.Perm N∧N'.Pairwise (·≤·)∧Go.Sort.sort ltInt (intsN N).toArray=(intsN N').toArray:=by
  have h:=sortInt (intsN N)
  have hp:((intsN N).mergeSort fun x y=>decide (x≤y)).Perm (intsN N):=List.mergeSort_perm _ _
  have hs:((intsN N).mergeSort fun x y=>decide (x≤y)).Pairwise (fun x y=>(fun x y=>decide (x≤y)) x y=true) :=
    List.pairwise_mergeSort (fun a b c h1 h2=>by simp only [decide_eq_true_eq] at *;omega) (fun a b=>by simp only [Bool.or_eq_true,decide_eq_true_eq];omega) _
  obtain ⟨T,hT⟩:∃ T,T=(intsN N).mergeSort fun x y=>decide (x≤y):=⟨_,rfl⟩
  rw [← hT] at h hp hs
  have hnn:∀ t ∈ T,0≤t:=fun t ht=>by
    obtain ⟨n,_,rfl⟩:=List.mem_map.1 (hp.mem_iff.1 ht);omega
  have hback:intsN (T.map Int.toNat)=T:=by
    simp only [intsN,List.map_map]
    conv=>rhs;rw [← List.map_id T]
    exact List.map_congr_left fun t ht=>by have:=hnn t ht;simp;omega
  refine ⟨T.map Int.toNat,?_,?_,?_⟩
  · have:=hp.map Int.toNat
    simpa [intsN,Function.comp_def] using this
  · rw [List.pairwise_map]
    exact hs.imp fun h=>by have:=of_decide_eq_true h;omega
  · rw [hback,← h]
theorem sortU_any (B g cap:Nat) (N:List Nat) (w:World) (hown:w.ownsRow B 22 1 (.slice (some ⟨g,0,none⟩) N.length cap) N.length (u32V N)) (hl:N.length≤1000000000) (_hn:∀ n ∈ N,n < 4294967296) :
    Calls Tryz.prog 87 #[.slice (some ⟨g,0,none⟩) N.length cap] w fun e w'=>e=.returned (.tuple #[])∧∃ N',N'.Perm N∧N'.Pairwise (·≤·)∧w'.ownsRow B 22 1 (.slice (some ⟨g,0,none⟩) N.length cap) N.length (u32V N')∧w.grownBy w' (some g):=by
  have hown':=hown
  rw [← u32V_ints] at hown'
  obtain ⟨_,_,e0,_,hlt,_,_,_,hH⟩:=Lib.holds_of_ownsRow hown' (by intro h;cases h)
  cases e0
  rcases hown.2 with ⟨e0,_⟩ | ⟨g',cap',cur,e0,hb,hg,hnc,hm,hsz,ht⟩
  · cases e0
  cases e0
  have hsrt:Srt w w g 0 (intsN N).toArray:=⟨fun j hj=>hH j hj,⟨rfl,rfl,rfl,Nat.le_refl _,fun _ _ _=>rfl⟩,cur,cur,_,_,hg,hg,rfl⟩
  refine (sortU g 0 cap N.length (intsN N).toArray w (by simp [intsN]) hsrt hl).mono ?_
  rintro e w' ⟨rfl,hS⟩
  obtain ⟨N',hp,hs,he⟩:=sorted_ints N
  rw [he] at hS
  refine ⟨rfl,N',hp,hs,?_,hS.grown⟩
  obtain ⟨cs,cs',e,fr,a1,a2,a3⟩:=hS.shape
  rw [hg] at a1
  cases a1
  have hlen:N'.length=N.length:=hp.length_eq
  refine ⟨by simp [u32V,hlen],.inr ⟨g,cap,cs',rfl,hb,a2,hnc,hm,by rw [a3];exact hsz,?_⟩⟩
  apply List.ext_getElem?
  intro j
  rw [List.getElem?_take,Array.getElem?_toList]
  by_cases hj:j < N.length
  · have h1:=(hS.holds j (by simp [intsN];omega)).1
    simp only [World.cell?,a2,Nat.zero_add,Option.isSome_none,Bool.false_eq_true,if_false] at h1
    rw [if_pos (by omega),h1]
    simp [u32V,intsN,getElem!_pos,show j < N'.length by omega]
  · rw [if_neg (by omega)]
    rw [List.getElem?_eq_none (by simp [u32V];omega)]
end Go.Proofs.YtccbpngehedbaaaGreat

namespace Go.Proofs.YtccbpngehedbaaaGreat
/-! The library's sort at []uint32: sortU_any, sortU_nil lie in Tm. -/
end Go.Proofs.YtccbpngehedbaaaGreat

