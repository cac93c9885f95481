import Derived.Test.YtccbpngehedbaaaGreatJ1
import Derived.Test.YtccbpngehedbaaaGreatJa
import Derived.Test.YtccbpngehedbaaaGreatJk
import Derived.Test.YtccbpngehedbaaaGreatJ2
import Derived.Test.YtccbpngehedbaaaGreatJh
namespace Go.Proofs.YtccbpngehedbaaaGreat
open Go Go.RowKit Go.Sort

/-! The law's ops on a log, walked. -/
end Go.Proofs.YtccbpngehedbaaaGreat

namespace Go.Proofs.YtccbpngehedbaaaGreat
open Go.ChangeShapes Go.WideShapes Go.ChangeAt Go.RowKit Go.Deep Go.Joins

/-! How the law's ops, and fates, are opened. -/
deriving instance Inhabited for Ft
deriving instance Inhabited for OpM
section
variable {H:Type} {enc:TypeId × Value→H} {w:World} {base:Nat} {spare:Nat→Bool} {held:Bool}
end
end Go.Proofs.YtccbpngehedbaaaGreat

namespace Go.Proofs.YtccbpngehedbaaaGreat
open Go Go.RowKit Go.Sort

/-! The law SeglogAgain. -/
theorem flat_by (xs:List By):flatG By.l xs=xs.map By.v:=by
  induction xs with
  | nil=>rfl
  | cons x R ih=>rw [flatG_cons,ih];rfl
set_option maxHeartbeats 1000000 in
theorem sameBy_any (a1 a2 : Option Addr) (n1 n2 c1 c2 : Nat) (xs : List By) (L : List (List UInt8)) (w : World) (h1 : n1 = xs.length) (h2 : n2 = xs.length) (hr1 : Rd w w.heap.size a1 (flatG By.l xs)) (hr2 : Rd w w.heap.size a2 (sV L)) (hL : L = xs.map By.b) (hb : ∀ x ∈ xs, ByArg w x) (hl : xs.length ≤ 1000000000000) :
    Calls Tryz.prog 23 #[.slice a1 n1 c1,.slice a2 n2 c2] w fun e w'=>e=.returned (.bool true)∧Below w.heap.size w w':=by
  subst hL
  rw [flat_by] at hr1
  have H1:=Lib.hid h1;have H2:=Lib.hid h2;have R1:=Lib.hid hr1;have R2:=Lib.hid hr2;have HB:=Lib.hid hb
  have hn:n1=n2:=by omega
  have hn1:n1≤1000000000000:=by omega
  clear hl
  clear h1 h2 hr1 hr2 hb
  subst hn
  go_enter Tryz.func23,Tryz.ntmps23
  go_wp2_with fail
  go_loopw [13] (fun i wr=>∃ k:Nat,k≤n1∧i=.int .i64 k∧Below w.heap.size w wr) (fun i _=>n1 - (intOf i).toNat)
  case atStart=>exact ⟨0,Nat.zero_le _,rfl,Below.refl _ _⟩
  case round =>
    obtain ⟨k,hk,rfl,hb⟩:=hrel
    by_cases hlt:k < n1
    · have hkx:k < xs.length:=by rw [← H1.out];exact hlt
      obtain ⟨b1,o1,rfl,hb1,hc1⟩:=R1.out (by rw [List.length_map];omega)
      obtain ⟨b2,o2,rfl,hb2,hc2⟩:=R2.out (by rw [sV_length,List.length_map];omega)
      obtain ⟨x,hx⟩:∃ x,xs[k]=x:=⟨_,rfl⟩
      have hxm:x ∈ xs:=by rw [← hx];exact List.getElem_mem _
      have hbx:=HB.out x hxm
      have q1:wr.cell? ⟨b1,o1+k,none⟩=some (.slice x.a x.b.length x.c):=by
        rw [hb.cell (p:=⟨b1,o1+k,none⟩) hb1];exact hc1 k _ (by rw [List.getElem?_map,List.getElem?_eq_getElem hkx,hx];rfl)
      have q2:wr.cell? ⟨b2,o2+k,none⟩=some (.string (bs x.b)):=by
        rw [hb.cell (p:=⟨b2,o2+k,none⟩) hb2];exact hc2 k _ (by rw [sV,List.getElem?_map,List.getElem?_map,List.getElem?_eq_getElem hkx,hx];rfl)
      have hrd:=hbx.1.below hb
      have cv:=run_string_rd (P:=Tryz.prog) wr 38 9 5 Tryz.underlying38 Tryz.underlying5 Tryz.underlying9 (l:=x.b) x.b.length x.c (hrd.more hb.size) rfl
      have cv2:=run_string_rd (P:=Tryz.prog) wr.drew 38 9 5 Tryz.underlying38 Tryz.underlying5 Tryz.underlying9 (l:=x.b) x.b.length x.c ((hrd.more hb.size).below (Below_drew (Below.refl wr.heap.size wr))) rfl
      have HBW:=Lib.hid hb
      have HLT:=Lib.hid hlt
      have HBD:=Lib.hid (Below_drew hb)
      clear hc1 hc2 hbx hrd hx hxm hb
      go_wp2_with fail
      go_region
      clear cv cv2 q1 q2
      go_wp2_with fail
      go_roundw
      case rel=>exact ⟨k+1,HLT.out,by go_num,HBD.out⟩
      case measure=>have:=HLT.out;simp [intOf];omega
    · have:k=n1:=by omega
      subst this
      go_wp2_with fail
      go_ret
      exact ⟨rfl,hb⟩
theorem segB_is {b:List UInt8} {k:Nat} {x:List UInt8} (h:x ∈ segB b k):isB x=true:=by
  unfold segB bodiesF at h
  exact List.all_eq_true.1 List.all_takeWhile x h
theorem open_small {m : FSm} {keep room : Int} (k : 1 ≤ keep ∧ keep ≤ 16) (r : 1 ≤ room ∧ room ≤ 32) : (⟨keep.toNat, room.toNat, (openF m keep room).2.2, false⟩ : LgM).Small := by
  have hseg:∀ s ∈ (openF m keep room).2.2,∃ n,s=sgOf m keep.toNat n:=fun s hs=>by
    have hm:∀ n,s ∈ (mendF m keep.toNat n).2.2→∃ n,s=sgOf m keep.toNat n:=fun n hs=>by
      unfold mendF at hs
      repeat' split at hs
      all_goals first
        | (simp at hs;done)
        | (simp at hs;exact ⟨n,hs⟩)
    unfold openF at hs
    split at hs
    · cases hs
    split at hs
    · cases hs
    split at hs
    · cases hs
    split at hs
    · cases hs
    split at hs
    · cases hs
    split at hs
    · cases hs
    rcases List.mem_append.1 hs with hs | hs
    · obtain ⟨n,_,rfl⟩:=List.mem_map.1 hs;exact ⟨n,rfl⟩
    · exact hm _ hs
  have hlen:(openF m keep room).2.2.length≤32:=by
    have hm:∀ n,(mendF m keep.toNat n).2.2.length≤1:=fun n=>by
      unfold mendF
      repeat' split
      all_goals simp
    unfold openF
    split
    · exact Nat.zero_le _
    split
    · exact Nat.zero_le _
    split
    · exact Nat.zero_le _
    rename_i h3
    split
    · exact Nat.zero_le _
    split
    · exact Nat.zero_le _
    split
    · exact Nat.zero_le _
    rename_i n hn
    obtain ⟨A,hA⟩:=List.getLast?_eq_some_iff.1 hn
    show (List.map _ _ ++ _).length≤32
    rw [List.length_append,List.length_map]
    have:=hm n
    rw [hA,List.length_append] at h3
    rw [hA,List.dropLast_concat]
    simp at h3
    omega
  refine ⟨fun b hb=>?_,?_⟩
  · obtain ⟨s,hs,hb⟩:=List.mem_flatMap.1 hb
    obtain ⟨n,rfl⟩:=hseg s hs
    have:=isB_small (segB_is hb)
    omega
  · have hf:∀ (A:List SgM),(∀ s ∈ A,s.L.length≤16)→(A.flatMap SgM.L).length≤A.length * 16:=fun A=>by
      induction A with
      | nil=>intro _;simp
      | cons s A ih =>
        intro h
        rw [List.flatMap_cons,List.length_append,List.length_cons]
        have:=ih fun x hx=>h x (List.mem_cons_of_mem _ hx)
        have:=h s (List.mem_cons_self ..)
        omega
    have:=hf _ fun s hs=>by
      obtain ⟨n,rfl⟩:=hseg s hs
      have:=seg_few (byF m n) keep.toNat
      show (segB _ _).length≤16
      omega
    refine Nat.le_trans this ?_
    omega
/-- A file system of the law's own. -/
structure FL (F:FsKit) (w0:World) (B:Nat) (w:World) (p k:Nat) (m:FSm) (S R:Nat→Prop):Prop where
  fs:F.Fs w S R p m
  lim:Lim k m
  num:NumOk m
  bel:Below B w0 w
  hB:B≤w.heap.size
  hs:∀ j,S j→B≤j
end Go.Proofs.YtccbpngehedbaaaGreat

namespace Go.Proofs.YtccbpngehedbaaaGreat
open Go Go.RowKit Go.Sort

/-! The law SeglogAgain, walked. -/
end Go.Proofs.YtccbpngehedbaaaGreat

