import Derived.Test.YtccbpngehedbaaaGreatJ6
import Derived.Test.YtccbpngehedbaaaGreatJ3
import Derived.Test.YtccbpngehedbaaaGreatJu
import Derived.Test.YtccbpngehedbaaaGreatJy
import Derived.Deep.RegionHeldLaw
namespace Go.Proofs.YtccbpngehedbaaaGreat
open Go Go.RowKit Go.Sort
set_option linter.unusedVariables false

/-! The law's 'same'. -/
theorem same_true8 (a b:Option Addr) (c d:Nat) (N:List Nat) (w:World) (ha:Rd w w.heap.size a (u32V N)) (hb:Rd w w.heap.size b (u32V N)) (hl:N.length≤1000000000) :
    Calls Tryz.prog 38 #[.slice a N.length c,.slice b N.length d] w fun e w'=>e=.returned (.bool true)∧Below w.heap.size w w':=by
  refine (sames_any a b c d N N w ha hb hl hl).mono fun e w' h=>?_
  simpa using h
/-- What the two logs are, where there is a log. -/
def LgQ (W:World) (p:Nat) (v:Option Addr) (Ls:List RS):Prop:=∃ q T g,v=some ⟨q,0,none⟩∧(logKit kit).At W T p q g∧g.Small∧g.all=bodR Ls∧g.segs.length=Ls.length∧g.over=false∧Ls.length≤1000∧∀ x ∈ Ls,x.L.length≤1000
structure BQ (w W:World) (bb p:Nat) (S R:Nat→Prop) (m:FSm) (v fa:Option Addr) (fc:Nat) (K M:Int) (sa:Option Addr) (sc:Nat) (Ls:List RS) (o:Bool):Prop where
  fs:FsL W S R p m
  box:W.heap[bb]?=some (.cells #[.pointer (some ⟨p,0,none⟩),.pointer v,.slice fa m.files.length fc,.int .i64 m.fuse,.bool m.down,.int .i64 K,.int .i64 M,.slice sa Ls.length sc,.bool false,.bool o] 37)
  x:RLAt W m fa fc sa sc Ls
  lg:o=true→LgQ W p v Ls
  bel:Below w.heap.size w W
theorem logAt_low {W W':World} {T:Nat→Prop} {p q:Nat} {g:LgM} (h:(logKit kit).At W T p q g) (hb:Below W.heap.size W W'):(logKit kit).At W' T p q g:=(logKit kit).move h hb.size fun k hk=>hb.block k ((logKit kit).low h k hk)
section
variable {w W W':World} {bb p:Nat} {S R:Nat→Prop} {m:FSm} {v fa:Option Addr} {fc:Nat} {K M:Int} {sa:Option Addr} {sc:Nat} {Ls:List RS} {o:Bool}
theorem LgQ.below (h:LgQ W p v Ls) (hb:Below W.heap.size W W'):LgQ W' p v Ls:=by
  obtain ⟨q,T,g,h1,h2,h3⟩:=h
  exact ⟨q,T,g,h1,(logKit kit).move h2 hb.size fun k hk=>hb.block k ((logKit kit).low h2 k hk),h3⟩
theorem BQ.below (h:BQ w W bb p S R m v fa fc K M sa sc Ls o) (hb:Below W.heap.size W W'):BQ w W' bb p S R m v fa fc K M sa sc Ls o :=
  ⟨kit.below (show kit.Fs W S R p m from h.fs) hb,(hb.block bb (Array.getElem?_eq_some_iff.1 h.box).1).trans h.box,h.x.below hb,fun ho=>(h.lg ho).below hb,bel2 h.bel hb⟩
theorem BQ.cells (h:BQ w W bb p S R m v fa fc K M sa sc Ls o):W.cell? ⟨bb,0,none⟩=some (.pointer (some ⟨p,0,none⟩))∧W.cell? ⟨bb,1,none⟩=some (.pointer v)∧W.cell? ⟨bb,2,none⟩=some (.slice fa m.files.length fc)∧W.cell? ⟨bb,3,none⟩=some (.int .i64 m.fuse)∧W.cell? ⟨bb,4,none⟩=some (.bool m.down)∧W.cell? ⟨bb,5,none⟩=some (.int .i64 K)∧W.cell? ⟨bb,6,none⟩=some (.int .i64 M)∧W.cell? ⟨bb,7,none⟩=some (.slice sa Ls.length sc)∧W.cell? ⟨bb,8,none⟩=some (.bool false)∧W.cell? ⟨bb,9,none⟩=some (.bool o):=by
  have:=h.box
  simp [World.cell?,this]
end
set_option maxRecDepth 20000 in
set_option maxHeartbeats 8000000 in
theorem same8_any (w : World) (p : Nat) (S R : Nat → Prop) (m : FSm) (v fa : Option Addr) (fc : Nat) (K M : Int) (sa : Option Addr) (sc : Nat) (Ls : List RS) (o : Bool) (hF : FsL w S R p m) (hb : Bnd m) (hnum : NumOk m) (hx : RLAt w m fa fc sa sc Ls) (hlg : o = true → LgQ w p v Ls) :
    Calls Tryz.prog 14 #[.agg (bthA p v fa m.files.length fc m.fuse m.down K M sa Ls.length sc o)] w fun e w'=>e=.returned (.bool true)∧Below w.heap.size w w':=by
  have HB:=Lib.hid hb;have HNUM:=Lib.hid hnum
  have HLF:Hid (m.files.length≤1000000000):=by show _≤_;have:=hb.1;omega
  have HLN:Hid (∀ lo,(numsF lo m.files).length≤1000000000):=fun lo=>by have h1:=hb.1;have h2:=numsF_le lo m.files;omega
  obtain ⟨bb,hbb⟩:∃ bb,bb=w.heap.size:=⟨_,rfl⟩
  obtain ⟨W,hW⟩:∃ W,W=w.alloc (.cells #[.pointer (some ⟨p,0,none⟩),.pointer v,.slice fa m.files.length fc,.int .i64 m.fuse,.bool m.down,.int .i64 K,.int .i64 M,.slice sa Ls.length sc,.bool false,.bool o] 37):=⟨_,rfl⟩
  have hbW:Below w.heap.size w W:=by rw [hW];exact box1 _ _
  have HQ0:Hid (BQ w W bb p S R m v fa fc K M sa sc Ls o):=⟨kit.below (show kit.Fs w S R p m from hF) hbW,by rw [hW,hbb];exact heap_alloc_new _ _,hx.below hbW,fun ho=>(hlg ho).below hbW,hbW⟩
  have HQd:=Lib.hid (HQ0.out.below (drew1 W))
  clear hF hb hnum hx hlg hbW
  have hdd:(m.down != m.down)=false:=by simp
  unfold bthA
  go_enter Tryz.func14,Tryz.ntmps14
  go_wp2_with fail
  rw [← hW,← hbb]
  clear hW hbb
  go_region_held_law (fun w'=>w'.cell? ⟨bb,0,none⟩=some (.pointer (some ⟨p,0,none⟩))∧w'.cell? ⟨bb,1,none⟩=some (.pointer v)∧w'.cell? ⟨bb,2,none⟩=some (.slice fa m.files.length fc)∧w'.cell? ⟨bb,3,none⟩=some (.int .i64 m.fuse)∧w'.cell? ⟨bb,4,none⟩=some (.bool m.down)∧w'.cell? ⟨bb,5,none⟩=some (.int .i64 K)∧w'.cell? ⟨bb,6,none⟩=some (.int .i64 M)∧w'.cell? ⟨bb,7,none⟩=some (.slice sa Ls.length sc)∧w'.cell? ⟨bb,8,none⟩=some (.bool false)∧w'.cell? ⟨bb,9,none⟩=some (.bool o))
    (first | exact HQ7.out.cells | exact HQ6.out.cells | exact HQ5.out.cells | exact HQ4.out.cells | exact HQ3.out.cells | exact HQ2.out.cells | exact HQ1.out.cells | exact HQd.out.cells | exact HQ0.out.cells)
    (first
      | (go_at_call 20
         refine (down_any _ S R p m HQd.out.fs).mono ?_
         rintro e w1 ⟨rfl,hw1⟩
         have HQ1:Hid (BQ w w1 bb p S R m v fa fc K M sa sc Ls o):=by show BQ _ _ _ _ _ _ _ _ _ _ _ _ _ _ _ _;rw [hw1];exact HQd.out
         clear hw1)
      | (go_at_call 31
         refine (list_any w1 S R p m HQ1.out.fs HLF.out).mono ?_
         rintro e w2 ⟨a2,c2,rfl,_,_,hr2,_,hb2⟩
         have HQ2:=Lib.hid (HQ1.out.below hb2)
         have HR2:=Lib.hid hr2
         clear hb2 hr2)
      | (go_at_call 35
         refine (list_fs fa fc m.files m.fuse m.down w2 HQ2.out.x.2.2.1 HLF.out).mono ?_
         rintro e w3 ⟨a3,c3,rfl,_,_,hr3,_,hb3⟩
         have HQ3:=Lib.hid (HQ2.out.below hb3)
         have HR3:=Lib.hid hr3
         have HR23:=Lib.hid ((HR2.out.below hb3).more hb3.size)
         clear hr3 hb3)
      | (go_at_call 38
         with_reducible (show Calls Tryz.prog 38 #[.slice a2 _ c2,.slice a3 _ c3] _ _)
         refine (same_true8 a2 a3 c2 c3 _ w3 HR23.out HR3.out (HLN.out _)).mono ?_
         rintro e w4 ⟨rfl,hb4⟩
         have HQ4:=Lib.hid (HQ3.out.below hb4)
         clear hb4)
      | (go_at_call 26
         refine (unsafe_any w4 S R p m HQ4.out.fs HLF.out).mono ?_
         rintro e w5 ⟨a5,c5,rfl,_,_,hr5,_,hb5⟩
         have HQ5:=Lib.hid (HQ4.out.below hb5)
         have HR5:=Lib.hid hr5
         clear hb5 hr5)
      | (go_at_call 39
         refine (unsafe_fs fa fc m.files m.fuse m.down w5 HQ5.out.x.2.2.1 HLF.out).mono ?_
         rintro e w6 ⟨a6,c6,rfl,_,_,hr6,_,hb6⟩
         have HQ6:=Lib.hid (HQ5.out.below hb6)
         have HR6:=Lib.hid hr6
         have HR56:=Lib.hid ((HR5.out.below hb6).more hb6.size)
         clear hr6 hb6)
      | (go_at_call 38
         refine (same_true8 a5 a6 c5 c6 _ w6 HR56.out HR6.out (HLN.out _)).mono ?_
         rintro e w7 ⟨rfl,hb7⟩
         have HQ7:=Lib.hid (HQ6.out.below hb7)
         clear hb7))
  have HQ:=HQ7
  clear HQ7 HQ6 HQ5 HQ4 HQ3 HQ2 HQ1 HQd HQ0 HR6 HR56 HR5 HR23 HR3 HR2 hdd
  obtain ⟨c0,_,_,_,_,_,_,_,_,_⟩:=HQ.out.cells
  go_wp2_with fail
  refine (list_any w7 S R p m HQ.out.fs HLF.out).mono ?_
  rintro e w8 ⟨a8,c8,rfl,_,_,hr8,_,hb8⟩
  have HQ8:=Lib.hid (HQ.out.below hb8)
  obtain ⟨N,hN⟩:∃ N,N=numsF false m.files:=⟨_,rfl⟩
  rw [← hN] at hr8 ⊢
  have hnl:N.length≤1000000000:=by rw [hN];exact HLN.out false
  have HNX:Hid (∀ x ∈ N,x < 4294967296):=fun x hx=>HNUM.out.nums (by rw [← hN];exact hx)
  obtain ⟨n,hn⟩:∃ n,n=N.length:=⟨_,rfl⟩
  have HNL:=Lib.hid hn;have HR8:=Lib.hid hr8
  rw [← hn] at hnl ⊢
  clear hN hr8 hb8 hn c0 HQ
  go_wp2_with fail
  go_loopw [43] (fun i wr=>∃ j:Nat,j≤n∧i=.int .i64 (j:Int)∧BQ w wr bb p S R m v fa fc K M sa sc Ls o∧Rd wr wr.heap.size a8 (u32V N)) (fun i _=>n - (intOf i).toNat)
  case atStart=>exact ⟨0,Nat.zero_le _,rfl,HQ8.out,HR8.out⟩
  case round =>
    clear HQ8 HR8
    obtain ⟨j,hj,rfl,hq,hr⟩:=hrel
    have HQ:=Lib.hid hq;have HR:=Lib.hid hr
    clear hq hr
    by_cases hlt:j < n
    · have hjN:j < N.length:=by rw [← HNL.out];exact hlt
      obtain ⟨b,off,ha8,hbl,q⟩:=u32_cell HR.out hjN
      have HA8:=Lib.hid ha8
      subst ha8
      obtain ⟨x,hx⟩:∃ x,x=N[j]:=⟨_,rfl⟩
      rw [← hx] at q
      have hx32:x < 4294967296:=HNX.out x (by rw [hx];exact List.getElem_mem hjN)
      have i1:(0:Int)≤(j:Int):=by omega
      have i2:(j:Int) < (n:Int):=by omega
      have HLT:=Lib.hid hlt
      obtain ⟨c0,_,c2,c3,c4,_,_,_,_,_⟩:=HQ.out.cells
      have HCR:=Lib.hid (readK_any wr S R p m x HQ.out.fs HB.out hx32)
      clear hx hlt
      go_wp2_with fail
      clear c0 c2 c3 c4 q
      refine HCR.out.mono ?_
      rintro e w2 ⟨ra,rc,rfl,_,_,hnew,hb2⟩
      have HQ2:=Lib.hid (HQ.out.below hb2);have HR2:=Lib.hid ((HR.out.below hb2).more hb2.size)
      have HNEW:=Lib.hid hnew.rdb
      obtain ⟨c0,_,c2,c3,c4,_,_,_,_,_⟩:=HQ2.out.cells
      have HRF:=Lib.hid (read_fs fa fc m x w2 HQ2.out.x.2.2.1 HLF.out)
      clear hnew hb2 HCR
      go_wp2_with fail
      clear c0 c2 c3 c4
      refine HRF.out.mono ?_
      rintro e w3 ⟨rfl,hb3⟩
      have HQ3:=Lib.hid (HQ2.out.below hb3);have HR3:=Lib.hid ((HR2.out.below hb3).more hb3.size)
      have hcv:=run_string_rd (P:=Tryz.prog) w3 38 9 5 Tryz.underlying38 Tryz.underlying5 Tryz.underlying9 (readF m x).1.size rc (HNEW.out.below hb3) (by rw [Array.length_toList];rfl)
      rw [bs_of] at hcv
      clear hb3 HRF HNEW
      generalize readF m x=bf at *
      obtain ⟨B,ef⟩:=bf
      simp only at hcv ⊢
      go_wp2_with fail
      go_roundw
      case rel=>exact ⟨j+1,HLT.out,by go_num,HQ3.out,HR3.out⟩
      case measure=>have:=HLT.out;simp [intOf];omega
    · have hlt':¬ (j:Int) < (n:Int):=by omega
      clear hlt
      go_wp2_with fail
      cases o
      case false =>
        obtain ⟨_,_,_,_,_,_,_,_,_,c9⟩:=(HQ.out.below (drew1 wr)).cells
        go_region
        go_wp2_with fail
        go_ret
        exact ⟨rfl,bel2 HQ.out.bel (drew1 wr)⟩
      case true =>
        obtain ⟨q,T,g,hv,hat,hsm,hall,hsl,hov,hl,hl2⟩:=HQ.out.lg rfl
        have HL:=Lib.hid hl;have HL2:=Lib.hid hl2
        subst hv
        have HAd:=Lib.hid (logAt_low hat (drew1 wr))
        have HSM:=Lib.hid hsm;have HALL:=Lib.hid hall;have HSL:=Lib.hid hsl;have HOV:=Lib.hid hov
        have HQd:=Lib.hid (HQ.out.below (drew1 wr))
        have HQ0:=HQ
        have HBN:Hid ((bodR Ls).length≤1000000):=by
          show _≤_
          have h1:=bodR_len HL2.out Ls.length
          rw [List.take_length] at h1
          exact Nat.le_trans h1 (Nat.mul_le_mul_right 1000 HL.out)
        have hee:((Ls.length:Int) == (Ls.length:Int))=true:=by simp
        clear hat hsm hall hsl hov hl hl2 HQ
        go_region_held_law (fun w'=>w'.cell? ⟨bb,0,none⟩=some (.pointer (some ⟨p,0,none⟩))∧w'.cell? ⟨bb,1,none⟩=some (.pointer (some ⟨q,0,none⟩))∧w'.cell? ⟨bb,2,none⟩=some (.slice fa m.files.length fc)∧w'.cell? ⟨bb,3,none⟩=some (.int .i64 m.fuse)∧w'.cell? ⟨bb,4,none⟩=some (.bool m.down)∧w'.cell? ⟨bb,5,none⟩=some (.int .i64 K)∧w'.cell? ⟨bb,6,none⟩=some (.int .i64 M)∧w'.cell? ⟨bb,7,none⟩=some (.slice sa Ls.length sc)∧w'.cell? ⟨bb,8,none⟩=some (.bool false)∧w'.cell? ⟨bb,9,none⟩=some (.bool true))
          (first | exact HQ5.out.cells | exact HQ4.out.cells | exact HQ3.out.cells | exact HQ2.out.cells | exact HQ1.out.cells | exact HQd.out.cells | exact HQ0.out.cells)
          (first
            | (go_at_call 22
               refine ((logKit kit).bodies _ T p q g HAd.out HSM.out).mono ?_
               rintro e w1 ⟨a1,c1,xs,rfl,_,_,hr1,hby,hxb,hb1⟩
               have HQ1:=Lib.hid (HQd.out.below hb1);have HA1:=Lib.hid (logAt_low HAd.out hb1)
               have HR1:=Lib.hid hr1;have HBY:=Lib.hid hby;have HXB:=Lib.hid hxb
               clear hb1 hr1 hby hxb)
            | (go_at_call 42
               refine (bodiesR_any fa m.files.length fc m.fuse m.down K M sa sc Ls.length false Ls w1 rfl HQ1.out.x.2.2.2.2.2.1 HQ1.out.x.2.2.2.2.2.2 HL.out HL2.out).mono ?_
               rintro e w2 ⟨a2,c2,rfl,_,_,hr2,hb2⟩
               have HQ2:=Lib.hid (HQ1.out.below hb2);have HA2:=Lib.hid (logAt_low HA1.out hb2)
               have HR2:=Lib.hid hr2;have HR12:=Lib.hid ((HR1.out.below hb2).more hb2.size);have HBY2:Hid (∀ x ∈ xs,ByArg w2 x):=fun x hx=>⟨((HBY.out x hx).1.below hb2).more hb2.size,(HBY.out x hx).2⟩
               clear hb2 hr2)
            | (go_at_call 23
               refine (sameBy_any a1 a2 xs.length (bodR Ls).length c1 c2 xs (bodR Ls) w2 rfl (by rw [← HALL.out,← HXB.out,List.length_map]) HR12.out HR2.out (by rw [← HALL.out,HXB.out]) HBY2.out (by rw [show xs.length=(bodR Ls).length by rw [← HALL.out,← HXB.out,List.length_map]];have:=HBN.out;omega)).mono ?_
               rintro e w3 ⟨rfl,hb3⟩
               have HQ3:=Lib.hid (HQ2.out.below hb3);have HA3:=Lib.hid (logAt_low HA2.out hb3)
               clear hb3)
            | (go_at_call 21
               refine ((logKit kit).segs w3 T p q g HA3.out).mono ?_
               rw [HSL.out]
               rintro e w4 ⟨rfl,hb4⟩
               have HQ4:=Lib.hid (HQ3.out.below hb4);have HA4:=Lib.hid (logAt_low HA3.out hb4)
               clear hb4)
            | (go_at_call 43
               refine ((logKit kit).over w4 T p q g HA4.out).mono ?_
               rw [HOV.out]
               rintro e w5 ⟨rfl,hb5⟩
               have HQ5:=Lib.hid (HQ4.out.below hb5)
               clear hb5))
        go_wp2_with fail
        go_ret
        exact ⟨rfl,HQ5.out.bel⟩
end Go.Proofs.YtccbpngehedbaaaGreat

namespace Go.Proofs.YtccbpngehedbaaaGreat
open Go Go.RowKit Go.Sort
set_option linter.unusedVariables false

/-! SeglogOpens. -/
set_option maxRecDepth 20000 in
set_option maxHeartbeats 8000000 in
theorem law_opens8 (f : Nat) (a0 : Option Addr) (c0 : Nat) (L : List By) (K M : Int) (w : World) (hf : f < 4294967296) (hL : Rd w w.heap.size a0 (flatG By.l L)) (hby : ∀ x ∈ L, ByArg w x) (k1 : -9223372036854775808 ≤ K) (k2 : K ≤ 9223372036854775807) (k3 : -9223372036854775808 ≤ M) (k4 : M ≤ 9223372036854775807) (n : Nat) (hn : n = L.length) :
    Calls Tryz.prog 3 #[.int .u32 (f:Int),.slice a0 n c0,.agg #[.int .i64 K,.int .i64 M]] w fun e w'=>e=.returned (.bool true)∧Below w.heap.size w w':=by
  have HL:=Lib.hid hL;have HBY:=Lib.hid hby;have HN:=Lib.hid hn
  have HK:=Lib.hid (show (-9223372036854775808≤K∧K≤9223372036854775807)∧-9223372036854775808≤M∧M≤9223372036854775807 from ⟨⟨k1,k2⟩,k3,k4⟩)
  obtain ⟨w1,hw1⟩:∃ w1,w1=w.alloc (.cells #[.int .i64 K,.int .i64 M] 24):=⟨_,rfl⟩
  have HB1:Hid (Below w.heap.size w w1):=by show Below _ _ _;rw [hw1];exact box1 _ _
  have HX1:Hid (w1.heap[w.heap.size]?=some (.cells #[.int .i64 K,.int .i64 M] 24)):=by show _=_;rw [hw1];exact heap_alloc_new _ _
  have HS1:Hid (w1.heap.size=w.heap.size+1):=by show _=_;rw [hw1];simp
  clear hL hby hn k1 k2 k3 k4
  by_cases hbig:(6:Int) < (n:Int)
  · go_enter Tryz.func3,Tryz.ntmps3
    go_wp2_with fail
    rw [← hw1]
    clear hw1
    refine (fixed8_any kit (logKit kit) w1).mono ?_
    rintro e w2 ⟨rfl,hb2⟩
    go_wp2_with fail
    go_ret
    exact ⟨rfl,bel2 HB1.out hb2⟩
  · have hn6 : n ≤ 6 := by omega
    go_enter Tryz.func3,Tryz.ntmps3
    go_wp2_with fail
    rw [← hw1]
    clear hw1
    refine (kit.new w1).mono ?_
    rintro e w2 ⟨p,S,R,rfl,hF,hS,hR,hb2⟩
    have HF:=Lib.hid hF;have HSS:=Lib.hid hS;have HB2:=Lib.hid hb2
    clear hF hS hR hb2
    go_wp2_with fail
    refine (new_fs w2).mono ?_
    rintro e w3 ⟨rfl,hb3⟩
    have HB3:=Lib.hid hb3
    obtain ⟨bb,hbb⟩:∃ bb,bb=w3.heap.size:=⟨_,rfl⟩
    obtain ⟨w4,hw4⟩:∃ w4,w4=w3.alloc (.cells #[.pointer (some ⟨p,0,none⟩),.pointer none,.slice none 0 0,.int .i64 (-1),.bool false,.int .i64 0,.int .i64 0,.slice none 0 0,.bool false,.bool false] 37):=⟨_,rfl⟩
    have HI:Hid (OI w1 w4 bb p S R newF newF none 0 0):=by
      show OI _ _ _ _ _ _ _ _ _ _ _
      have hlow:=kit.low HF.out
      have hsz:=hb3.size
      have hb4:Below w2.heap.size w2 w4:=by rw [hw4];exact bel2 hb3 (box1 _ _)
      refine ⟨kit.below HF.out hb4,by rw [hw4,hbb];exact heap_alloc_new _ _,⟨fun e=>by have:=hlow.1 _ e;omega,fun e=>by have:=hlow.2 _ e;omega⟩,⟨by have:=HB2.out.size;omega,by rw [hw4,hbb];simp⟩,fun h0=>by simp [newF,flF,flatG] at h0,⟨by simp [newF],Nat.zero_le _⟩,?_,?_,fun x hx=>by simp [newF] at hx,rfl,rfl,HSS.out,bel2 HB2.out hb4⟩
      · exact ⟨by simp [newF],fun x hx=>by simp [newF] at hx⟩
      · exact ⟨by simp [newF],fun x hx=>by simp [newF] at hx⟩
    clear hb3
    unfold fsv
    go_upto_region 4 with fail
    rw [← hbb,← hw4]
    clear hw4 hbb
    obtain ⟨c0,_,_,_,_,_,_⟩:=HI.out.c
    go_wp2_with fail
    clear c0
    go_loopw [25] (fun i wr=>∃ (j:Nat) (m:FSm) (S5 R5:Nat→Prop) (fa:Option Addr) (fc:Nat),j≤n∧i=.int .i64 (j:Int)∧OI w1 wr bb p S5 R5 m m fa fc (2 * j)) (fun i _=>n - (intOf i).toNat)
    case atStart=>exact ⟨0,newF,S,R,none,0,Nat.zero_le _,rfl,HI.out⟩
    case round =>
      obtain ⟨j,m,S5,R5,fa,fc,hj,rfl,hi⟩:=hrel
      have HJ:=Lib.hid hi
      clear hi
      by_cases hlt:j < n
      · have hjL:j < L.length:=by rw [← HN.out];exact hlt
        have hrd:Rd wr w.heap.size a0 (flatG By.l L):=rd_blocks (rd_blocks HL.out fun k hk=>HB1.out.block k hk) fun k hk=>HJ.out.bel.block k (by rw [HS1.out];omega)
        obtain ⟨b,off,ha0,hbl,hcell⟩:=Rd.elemG (enc:=By.l) (m:=1) (fun _=>rfl) (by omega) hrd hjL
        have HA0:=Lib.hid ha0
        subst ha0
        have q0:=hcell 0 (.slice L[j].a L[j].b.length L[j].c) rfl
        obtain ⟨x,hx⟩:∃ x,x=L[j]:=⟨_,rfl⟩
        rw [← hx] at q0
        obtain ⟨hxr,hxl,hxc⟩:=HBY.out x (by rw [hx];exact List.getElem_mem hjL)
        have HXR:=Lib.hid hxr;have HXL:=Lib.hid hxl;have HXC:=Lib.hid hxc
        have i1:(0:Int)≤(j:Int):=by omega
        have i2:(j:Int) < (n:Int):=by omega
        have HLT:=Lib.hid hlt
        rw [Nat.mul_one,Nat.add_zero] at q0
        obtain ⟨xn,hxn⟩:∃ xn,xn=x.b.length:=⟨_,rfl⟩
        rw [← hxn] at q0
        have HXN:=Lib.hid hxn
        clear hcell hrd hx hxr hxl hxc hlt hxn
        by_cases hbg:(2000:Int) < (xn:Int)
        · go_wp2_with fail
          refine (fixed8_any kit (logKit kit) wr).mono ?_
          rintro e w5 ⟨rfl,hb5⟩
          go_wp2_with fail
          go_ret
          exact ⟨rfl,bel2 HB1.out ((HJ.out.below hb5).bel)⟩
        · have hx2:xn≤2000:=by omega
          obtain ⟨n0,hn0⟩:∃ n0,n0=(f+j) % 4294967296:=⟨_,rfl⟩
          have e1:(j:Int) % 4294967296=(j:Int):=by omega
          have e2:((f:Int)+(j:Int)) % 4294967296=(n0:Int):=by omega
          have hn32:n0 < 4294967296:=by omega
          have HBN:Hid (Bnd m):=HJ.out.lim.bnd (by omega)
          obtain ⟨c0,_,_,_,_,_,_⟩:=HJ.out.c
          clear hn0
          go_wp2_with fail
          refine (kit.create wr S5 R5 p m n0 HJ.out.fs HBN.out hn32).mono ?_
          rintro e w5 ⟨S6,R6,rfl,hF5,hd5⟩
          have HJ5:=Lib.hid ((HJ.out.more (Nat.le_succ (2 * j))).did hF5 hd5 (lim_create HJ.out.lim n0) (num_create HJ.out.num hn32) (fuse_create HJ.out.fu n0))
          clear c0 hF5 hd5
          obtain ⟨c0,_,_,_,_,_,_⟩:=HJ5.out.c
          obtain ⟨m5,ec5,hm5⟩:∃ m5 ec5,createF m n0=(m5,ec5):=⟨_,_,rfl⟩
          have HM5:=Lib.hid hm5
          rw [hm5] at HJ5 ⊢
          dsimp only at HJ5
          have HRX:Hid (∀ v:World,Below w1.heap.size w1 v→Rd v w.heap.size x.a (bV x.b)):=fun v hv=>rd_blocks (rd_blocks HXR.out fun k hk=>HB1.out.block k hk) fun k hk=>hv.block k (by rw [HS1.out];omega)
          have hca:=kit.append w5 S6 R6 p m5 n0 x.a x.c x.b HJ5.out.fs (HJ5.out.lim.bnd (by omega)) hn32 (RdN.of (HRX.out w5 HJ5.out.bel) (by have:=HJ5.out.bel.size;have:=HS1.out;omega) fun k hk=>by have:=HJ5.out.hs k hk;have:=HS1.out;omega) (by have:=HXN.out;omega) HXL.out HXC.out
          rw [← HXN.out] at hca
          have HCA:=Lib.hid hca
          clear hm5 hca
          go_wp2_with fail
          clear c0
          refine HCA.out.mono ?_
          rintro e w6 ⟨S7,R7,rfl,hF6,hd6⟩
          have HJ6:=Lib.hid ((HJ5.out.more (Nat.le_succ (2 * j+1))).did hF6 hd6 (lim_append HJ5.out.lim n0 (bs x.b) (by rw [bs_size];have:=HXN.out;omega)) (num_append HJ5.out.num hn32 _) (fuse_append HJ5.out.fu n0 _))
          clear HCA hF6 hd6
          obtain ⟨c0,c2,c3,c4,_,_,_⟩:=HJ6.out.c
          go_wp2_with fail
          clear c0 c2 c3 c4
          refine (create_fs fa fc m n0 w6 HJ6.out.x.rd (by have:=HJ6.out.lim2.1;omega) HJ6.out.f1.1 HJ6.out.f1.2 (by rw [HJ6.out.fu2];decide) (by rw [HJ6.out.fu2];decide)).mono ?_
          rintro e w7 ⟨fa7,fc7,rfl,g1,g2,g3,g4,gb⟩
          have HJ7:=Lib.hid (HJ6.out.ref g1 g2 g3 g4 gb ((lim_create HJ.out.lim n0).more (Nat.le_succ _)) (fuse_create HJ.out.fu n0))
          obtain ⟨_,y0,y1,y2,z0,z1,z2⟩:=(HJ6.out.below gb).c
          rw [HM5.out] at HJ7 ⊢
          clear g1 g2 g3 g4 gb
          dsimp only at HJ7
          obtain ⟨w8,hw8⟩:∃ v,v=((w7.setCell ⟨bb,2,none⟩ (.slice fa7 m5.files.length fc7)).setCell ⟨bb,3,none⟩ (.int .i64 m5.fuse)).setCell ⟨bb,4,none⟩ (.bool m5.down):=⟨_,rfl⟩
          have HJ8:Hid (OI w1 w8 bb p S7 R7 (appendF m5 n0 (bs x.b)).1 m5 fa7 fc7 (2 * j+2)):=by show OI _ _ _ _ _ _ _ _ _ _ _;rw [hw8];exact HJ7.out
          unfold fsv
          go_upto_region 15 with fail
          rw [← hw8]
          clear hw8 y0 y1 y2 z0 z1 z2 HJ7
          have hcv:=run_string_rd (P:=Tryz.prog) w8 38 9 5 Tryz.underlying38 Tryz.underlying5 Tryz.underlying9 xn x.c (HRX.out w8 HJ8.out.bel) HXN.out
          obtain ⟨_,c2,c3,c4,_,_,_⟩:=HJ8.out.c
          go_wp2_with fail
          clear c2 c3 c4 hcv
          refine (append_fs fa7 fc7 m5 n0 (bs x.b) (by have h1:=(HJ8.out.lim2.get n0).1;rw [bs_size];have:=HXN.out;omega) w8 HJ8.out.x.rd (by have:=HJ8.out.lim2.1;omega) HJ8.out.f1.1 HJ8.out.f1.2 (by rw [HJ8.out.fu2];decide) (by rw [HJ8.out.fu2];decide)).mono ?_
          rintro e w9 ⟨fa9,fc9,rfl,g1,g2,g3,g4,gb⟩
          have HJ9:=Lib.hid (HJ8.out.ref g1 g2 g3 g4 gb HJ8.out.lim HJ8.out.fu)
          obtain ⟨_,y0,y1,y2,z0,z1,z2⟩:=(HJ8.out.below gb).c
          obtain ⟨m9,ec9,hm9⟩:∃ m9 ec9,appendF m5 n0 (bs x.b)=(m9,ec9):=⟨_,_,rfl⟩
          rw [hm9] at HJ9 ⊢
          clear g1 g2 g3 g4 gb hm9
          dsimp only at HJ9
          obtain ⟨w10,hw10⟩:∃ v,v=((w9.setCell ⟨bb,2,none⟩ (.slice fa9 m9.files.length fc9)).setCell ⟨bb,3,none⟩ (.int .i64 m9.fuse)).setCell ⟨bb,4,none⟩ (.bool m9.down):=⟨_,rfl⟩
          have HJ10:Hid (OI w1 w10 bb p S7 R7 m9 m9 fa9 fc9 (2 * j+2)):=by show OI _ _ _ _ _ _ _ _ _ _ _;rw [hw10];exact HJ9.out
          unfold fsv
          go_upto_region 16 with fail
          rw [← hw10]
          clear hw10 y0 y1 y2 z0 z1 z2 HJ9
          go_wp2_with fail
          go_roundw
          case rel=>exact ⟨j+1,m9,S7,R7,fa9,fc9,HLT.out,by go_num,HJ10.out⟩
          case measure=>have:=HLT.out;simp [intOf];omega
      · have hlt':¬ (j:Int) < (n:Int):=by omega
        clear hlt
        obtain ⟨p0,p1⟩:wr.cell? ⟨w.heap.size,0,none⟩=some (.int .i64 K)∧wr.cell? ⟨w.heap.size,1,none⟩=some (.int .i64 M):=by
          have:=(HJ.out.bel.block w.heap.size (by rw [HS1.out];omega)).trans HX1.out
          simp [World.cell?,this]
        have HRG:Hid (wr.rangeAt bb 0 [.pointer (some ⟨p,0,none⟩),.pointer none,.slice fa m.files.length fc,.int .i64 m.fuse,.bool m.down,.int .i64 0,.int .i64 0,.slice none 0 0,.bool false,.bool false]):=fun j u hu=>by
          rw [Nat.zero_add];have:=HJ.out.box;simp [World.cell?,this,hu]
        go_wp2_with (refine wpList_load_mid rfl 37 (.tmp 7) rfl bb 0 rfl [.pointer (some ⟨p,0,none⟩),.pointer none,.slice fa m.files.length fc,.int .i64 m.fuse,.bool m.down,.int .i64 0,.int .i64 0,.slice none 0 0,.bool false,.bool false] _ HRG.out Tryz.underlying37 rfl size_both ?_)
        have hfit:FitR m:=⟨⟨⟨2 * j,by omega,HJ.out.lim⟩,HJ.out.num⟩,by rw [HJ.out.fu];decide,by rw [HJ.out.fu];decide⟩
        obtain ⟨r,hr⟩:∃ r,openF m K M=r:=⟨_,rfl⟩
        have HR:=Lib.hid hr
        refine (reopen_any kit (logKit kit) wr S5 R5 p m K M fa fc HJ.out.fs (HJ.out.x.off (Off.refl _ _) fun k hk=>.inl (.inl hk)) HJ.out.f1.1 HJ.out.f1.2 hfit HK.out.1.1 HK.out.1.2 HK.out.2.1 HK.out.2.2 r hr).mono ?_
        rintro e w5 ⟨S6,R6,v,fa5,sa5,fc5,sc5,Ls,rfl,hF5,hd5,hx5,hz5⟩
        have hlim:=lim_openF HJ.out.lim K M
        have hnum:=(num_openF HJ.out.num K M).1
        rw [hr] at hlim hnum
        have HLIM:=Lib.hid hlim;have HNUM:=Lib.hid hnum;have HF5:=Lib.hid hF5;have HD5:=Lib.hid hd5;have HX5:=Lib.hid hx5;have HZ5:=Lib.hid hz5
        obtain ⟨c5,m5,L5⟩:=r
        obtain ⟨o5,ho5⟩:∃ o5,o5=decide (c5=0):=⟨_,rfl⟩
        dsimp only at HLIM HNUM HF5 HX5 HZ5 ⊢
        rw [← ho5]
        have HO5:=Lib.hid ho5
        have hbox5:=(hd5.off.block bb HJ.out.hb.2 HJ.out.nb.1).trans HJ.out.box
        have HBX5:=Lib.hid hbox5
        have HT5:Hid (w5.there bb 0 10):=by
          intro t ht
          have h:=HBX5.out
          have hj':∃ u,(#[.pointer (some ⟨p,0,none⟩),.pointer none,.slice fa m.files.length fc,.int .i64 m.fuse,.bool m.down,.int .i64 0,.int .i64 0,.slice none 0 0,.bool false,.bool false]:Array Value)[t]?=some u:=⟨_,Array.getElem?_eq_getElem (by simpa using ht)⟩
          obtain ⟨u,hu⟩:=hj'
          simp [World.cell?,World.frozen?,h,hu]
        clear hlim hnum hF5 hd5 hx5 hz5 hbox5 ho5 hfit hr p0 p1
        unfold bthA
        go_wp2_with (refine wpList_store_mid rfl 37 (.tmp 7) (.tmp 77) rfl bb 0 #[.pointer (some ⟨p, 0, none⟩), .pointer v, .slice fa5 m5.files.length fc5, .int .i64 m5.fuse, .bool m5.down, .int .i64 K, .int .i64 M, .slice sa5 Ls.length sc5, .bool false, .bool o5] ?hx ?hy ?ht ?hi ?h1 ?h
                     case hx=>rfl
                     case hy=>rfl
                     case ht=>exact HT5.out
                     case hi=>exact size_both
                     case h1=>simp [Value.oneCell'])
        obtain ⟨w6,hw6⟩:∃ w6,w6=w5.setCells bb 0 [.pointer (some ⟨p,0,none⟩),.pointer v,.slice fa5 m5.files.length fc5,.int .i64 m5.fuse,.bool m5.down,.int .i64 K,.int .i64 M,.slice sa5 Ls.length sc5,.bool false,.bool o5]:=⟨_,rfl⟩
        rw [← hw6]
        have ho6:Off (fun k=>k=bb) w5 w6:=by rw [hw6];exact off_cells _ _
        have HX6:Hid (RLAt w6 m5 fa5 fc5 sa5 sc5 Ls):=by show RLAt _ _ _ _ _ _ _;rw [hw6];exact HX5.out.cells (noKey_of HBX5.out (by simp)) 0 _
        have HBX6:Hid (w6.heap[bb]?=some (.cells #[.pointer (some ⟨p,0,none⟩),.pointer v,.slice fa5 m5.files.length fc5,.int .i64 m5.fuse,.bool m5.down,.int .i64 K,.int .i64 M,.slice sa5 Ls.length sc5,.bool false,.bool o5] 37)):=by
          show _=_
          rw [hw6]
          have:=HBX5.out
          simp [World.setCells,World.setCell,Array.getElem?_modify,this]
        have hne:∀ k,S6 k∨R6 k→k < w5.heap.size∧k ≠ bb:=fun k hk=>by
          have h1:=kit.low HF5.out;have h2:=HD5.out;have h3:=HJ.out.nb;have h4:=HJ.out.hb
          rcases hk with e | e
          · refine ⟨h1.1 k e,fun e2=>?_⟩
            subst e2
            rcases h2.s _ e with e | e
            · exact h3.1 e
            · omega
          · refine ⟨h1.2 k e,fun e2=>?_⟩
            subst e2
            rcases h2.r _ e with e | e | e
            · exact h3.2 e
            · exact h3.1 e
            · omega
        have HF6:Hid (kit.Fs w6 S6 R6 p m5):=kit.move HF5.out ho6.size fun k hk=>ho6.block k (hne k hk).1 (hne k hk).2
        have HLQ6:Hid (o5=true→LgQ w6 p v Ls):=fun ho=>by
          have hc:c5=0:=by rw [HO5.out] at ho;simpa using ho
          obtain ⟨hmap,_,q,T,hv,hat,hT,_⟩:=HZ5.out hc
          have hr:=HR.out
          have hfine:=open_fine (m:=m) (keep:=K) (room:=M) (by rw [hr];exact hc)
          have hsmall:=open_small (m:=m) (keep:=K) (room:=M) ⟨hfine.1.1,hfine.1.2.1⟩ hfine.1.2.2
          rw [hr] at hfine hsmall
          have hll:L5.length=Ls.length:=by rw [← hmap,List.length_map]
          refine ⟨q,T,_,hv,(logKit kit).move hat ho6.size fun k hk=>ho6.block k ((logKit kit).low hat k hk) fun e=>?_,hsmall,?_,hll,rfl,?_,fun x hx=>?_⟩
          · have:=hT k hk;have:=HJ.out.hb;omega
          · show L5.flatMap SgM.L=bodR Ls
            rw [← hmap];unfold bodR;rw [List.flatMap_map];rfl
          · have:=hfine.2.1;have:L5.length≤32:=this;omega
          · have:=hfine.2.2 x.sg (by show x.sg ∈ L5;rw [← hmap];exact List.mem_map_of_mem hx)
            have:x.L.length≤16:=this
            omega
        have HB6:Hid (Below w.heap.size w w6):=by
          have h1:=HJ.out.bel;have h2:=HB1.out;have h3:=HD5.out;have h4:=HS1.out
          have o1:Below w.heap.size w wr:=bel2 h2 h1
          refine ⟨ho6.os.trans (h3.off.os.trans o1.os),ho6.tape.trans (h3.off.tape.trans o1.tape),ho6.output.trans (h3.off.output.trans o1.output),Nat.le_trans o1.size (Nat.le_trans h3.off.size ho6.size),fun k hk=>?_⟩
          have h5:=o1.size;have h6:=h3.off.size;have h7:=HJ.out.hb
          exact (ho6.block k (by omega) (by omega)).trans ((h3.off.block k (by omega) fun e=>by have:=HJ.out.hs k e;omega).trans (o1.block k hk))
        clear hw6 ho6 hne
        refine (fixed8_any kit (logKit kit) w6).mono ?_
        rintro e w7 ⟨rfl,hb7⟩
        have HB7:=Lib.hid hb7
        obtain ⟨d0,d1,d2,d3,d4,d5,d6,d7,d8,d9⟩:w7.cell? ⟨bb,0,none⟩=some (.pointer (some ⟨p,0,none⟩))∧w7.cell? ⟨bb,1,none⟩=some (.pointer v)∧w7.cell? ⟨bb,2,none⟩=some (.slice fa5 m5.files.length fc5)∧w7.cell? ⟨bb,3,none⟩=some (.int .i64 m5.fuse)∧w7.cell? ⟨bb,4,none⟩=some (.bool m5.down)∧w7.cell? ⟨bb,5,none⟩=some (.int .i64 K)∧w7.cell? ⟨bb,6,none⟩=some (.int .i64 M)∧w7.cell? ⟨bb,7,none⟩=some (.slice sa5 Ls.length sc5)∧w7.cell? ⟨bb,8,none⟩=some (.bool false)∧w7.cell? ⟨bb,9,none⟩=some (.bool o5):=by
          have:=(hb7.block bb (Array.getElem?_eq_some_iff.1 HBX6.out).1).trans HBX6.out
          simp [World.cell?,this]
        clear hb7
        go_wp2_with fail
        refine (same8_any w7 p S6 R6 m5 v fa5 fc5 K M sa5 sc5 Ls o5 (kit.below HF6.out HB7.out) (HLIM.out.bnd (by omega)) HNUM.out (HX6.out.below HB7.out) fun ho=>(HLQ6.out ho).below HB7.out).mono ?_
        rintro e w8 ⟨rfl,hb8⟩
        go_wp2_with fail
        go_ret
        exact ⟨rfl,bel2 (bel2 HB6.out HB7.out) hb8⟩
end Go.Proofs.YtccbpngehedbaaaGreat

