import Derived.Test.YtccbpngehedbaaaGreatRows
import Derived.Test.YtccbpngehedbaaaGreatJa
import Derived.Deep.RegionWith
import Derived.ProofKit
import Derived.OpenShut
import Derived.ShutString
import Derived.ChangeOld
import Derived.Deep.Slices
import Derived.Deep.Fields
import Derived.ChangeSame
import Derived.Lib.SmallJoins
import Derived.Laws.StructEq
import Derived.Deep.DeepCutAuto
namespace Go.Proofs.YtccbpngehedbaaaGreat
open Go.RowKit
set_option maxRecDepth 20000
def inN (b:Int):Bool:=(b == 45) || (b == 46) || (b == 95) || (decide (97≤b) && decide (b≤122)) || (decide (48≤b) && decide (b≤57))

set_option maxHeartbeats 400000 in
theorem inNames_any (b:Int) (w:World) :
    Calls Tryz.prog 172 #[.int .u8 b] w fun e w'=>e=.returned (.bool (inN b))∧w=w':=by
  by_cases h1:b=45
  · subst h1
    go_enter Tryz.func172,Tryz.ntmps172
    go_wp2
    go_ret
    exact ⟨rfl,rfl⟩
  by_cases h2:b=46
  · subst h2
    go_enter Tryz.func172,Tryz.ntmps172
    go_wp2
    go_ret
    exact ⟨rfl,rfl⟩
  by_cases h3:b=95
  · subst h3
    go_enter Tryz.func172,Tryz.ntmps172
    go_wp2
    go_ret
    exact ⟨rfl,rfl⟩
  by_cases h4:97≤b <;> by_cases h5:b≤122 <;> by_cases h6:48≤b <;> by_cases h7:b≤57
  all_goals
    try omega
  all_goals
    go_enter Tryz.func172,Tryz.ntmps172
    go_wp2
    go_ret
    exact ⟨ret_bool (by simp [inN,h1,h2,h3] <;> omega),rfl⟩

theorem take_snoc (s:ByteArray) (k:Nat) (h:k < s.size):s.data.toList.take (k+1)=s.data.toList.take k ++ [s[k]]:=by
  rw [List.take_succ_eq_append_getElem (by simpa using h)];rfl
def allN (l:List UInt8):Bool:=l.all fun c=>inN c.toNat
theorem allN_snoc (l:List UInt8) (c:UInt8):allN (l ++ [c])=(allN l && inN c.toNat):=by simp [allN]
theorem allN_false {l l':List UInt8} (h:allN l=false):allN (l ++ l')=false:=by
  simp only [allN,List.all_append] at *;rw [h];rfl
def nameB (s:ByteArray):Bool:=decide (1≤s.size) && decide (s.size≤16) && allN s.data.toList

set_option maxHeartbeats 400000 in
theorem name_any (s : ByteArray) (w : World) (hs : s.size ≤ maxLen) :
    Calls Tryz.prog 162 #[.string s] w fun e w'=>e=.returned (.bool (nameB s))∧w=w':=by
  unfold maxLen at hs
  by_cases h1:s.size < 1
  · go_enter Tryz.func162,Tryz.ntmps162
    go_wp2
    go_ret
    exact ⟨by simp [nameB];omega,rfl⟩
  by_cases h2:16 < s.size
  · go_enter Tryz.func162,Tryz.ntmps162
    go_wp2
    go_ret
    exact ⟨by simp [nameB];omega,rfl⟩
  go_enter Tryz.func162,Tryz.ntmps162
  go_wp2
  go_loop [14] (fun i=>∃ k:Nat,k≤s.size∧i=.int .i64 k∧allN (s.data.toList.take k)=true) (fun i=>s.size - (intOf i).toNat)
  case atStart=>exact ⟨0,Nat.zero_le _,rfl,rfl⟩
  case round =>
    obtain ⟨k,hk,rfl,ha⟩:=hrel
    have HA:=Lib.hid ha;clear ha
    by_cases hlt:k < s.size
    · have hsn:=take_snoc s k hlt
      have HS:Hid (allN (s.data.toList.take (k+1))=inN s[k].toNat):=by
        show _=_;rw [hsn,allN_snoc,HA.out];rfl
      clear hsn
      by_cases hin:inN (s[k].toNat:Int)=true
      · go_wp2_with (go_at_call 172;refine (inNames_any _ _).mono ?_;rintro e w' ⟨rfl,rfl⟩)
        go_round
        case rel=>exact ⟨k+1,by omega,by go_num,by rw [HS.out];exact hin⟩
        case measure=>simp [intOf];omega
      · have hin':inN (s[k].toNat:Int)=false:=by simpa using hin
        clear hin
        go_wp2_with (go_at_call 172;refine (inNames_any _ _).mono ?_;rintro e w' ⟨rfl,rfl⟩)
        go_ret
        refine ⟨?_,rfl⟩
        have:allN s.data.toList=false:=by
          rw [← List.take_append_drop (k+1) s.data.toList]
          exact allN_false (by rw [HS.out];exact hin')
        simp [nameB,this]
    · have:k=s.size:=by omega
      subst this
      go_wp2
      go_ret
      refine ⟨?_,rfl⟩
      have h:=HA.out
      rw [List.take_of_length_le (by simp)] at h
      simp [nameB,h];omega

/-- The document's signs. -/
def signs:ByteArray:=⟨#[97,98,99,100,101,102,103,104,105,106,107,108,109,110,111,112,113,114,115,116,117,118,119,120,121,122,48,49,50,51,52,53,54,55,56,57,45,46,95]⟩
theorem signs_size:signs.size=39:=by decide
def among (l:List UInt8) (c:UInt8):Bool:=l.any fun x=>x == c
theorem among_fin:∀ n:Fin 256,among signs.data.toList ⟨⟨n⟩⟩=inN ((n:Nat):Int):=by decide +kernel
theorem among_signs (c:UInt8):among signs.data.toList c=inN (c.toNat:Int):=by
  obtain ⟨⟨n⟩⟩:=c;exact among_fin n
theorem among_snoc (l:List UInt8) (c x:UInt8):among (l ++ [c]) x=(among l x || c == x):=by simp [among]

theorem toList_empty {s:ByteArray} (h:s.size < 1):s.toList=[]:=by
  rw [ByteArray.toList_eq];have:s.data.toList.length=s.size:=by simp
  exact List.length_eq_zero_iff.1 (by omega)
theorem toList_not {s:ByteArray} (h:¬ s.size < 1):s.toList.isEmpty=false∧¬ s.toList=[]:=by
  rw [ByteArray.toList_eq];have:s.data.toList.length=s.size:=by simp
  have:¬ s.data.toList=[]:=fun e=>by rw [e] at this;simp at this;omega
  exact ⟨by simpa using this,this⟩

set_option maxHeartbeats 1000000 in
theorem refName_any (s : ByteArray) (w : World) (hs : s.size ≤ maxLen) :
    Calls Tryz.prog 139 #[.string s] w fun e w'=>e=.returned (.bool (nameB s))∧Below w.heap.size w w':=by
  unfold maxLen at hs
  by_cases h1:s.size < 1
  · have h0:=toList_empty h1
    go_enter Tryz.func139,Tryz.ntmps139
    go_wp2
    go_ret
    exact ⟨ret_bool (by simp [nameB];omega),Below.refl _ _⟩
  have ⟨h0,h00⟩:=toList_not h1
  by_cases h2:16 < s.size
  · go_enter Tryz.func139,Tryz.ntmps139
    go_wp2
    go_ret
    exact ⟨ret_bool (by simp [nameB];omega),Below.refl _ _⟩
  go_enter Tryz.func139,Tryz.ntmps139
  go_wp2
  rw [show (ByteArray.mk #[97,98,99,100,101,102,103,104,105,106,107,108,109,110,111,112,113,114,115,116,117,118,119,120,121,122,48,49,50,51,52,53,54,55,56,57,45,46,95])=signs from rfl]
  have hss:=signs_size
  have HSS:=Lib.hid hss;clear hss
  have hsg0:signs.size≤39:=by rw [HSS.out];decide
  have hsg1:39≤signs.size:=by rw [HSS.out];decide
  go_loopw [4] (fun i wr=>∃ k:Nat,k≤s.size∧i=.int .i64 k∧allN (s.data.toList.take k)=true∧Below w.heap.size w wr) (fun i _=>s.size - (intOf i).toNat)
  case atStart=>exact ⟨0,Nat.zero_le _,rfl,rfl,Below.refl _ _⟩
  case round =>
    obtain ⟨k,hk,rfl,ha,hb⟩:=hrel
    have HA:=Lib.hid ha;clear ha
    by_cases hlt:k < s.size
    · go_wp2
      go_loopw [5,6] (fun t i wr=>∃ j:Nat,j≤signs.size∧i=.int .i64 j∧t=.bool (among (signs.data.toList.take j) s[k])∧Below w.heap.size w wr) (fun _ i _=>signs.size - (intOf i).toNat)
      case atStart=>exact ⟨0,Nat.zero_le _,rfl,rfl,hb⟩
      case round =>
        obtain ⟨j,hj,rfl,rfl,hb⟩:=hrel
        by_cases hjl:j < signs.size
        · have i1:(0:Int)≤(j:Int):=by omega
          have i2:(j:Int) < (signs.size:Int):=by omega
          have i3:(0:Int)≤(k:Int):=by omega
          have i4:(k:Int) < (s.size:Int):=by omega
          have hts:=take_snoc signs j hjl
          have HS:Hid (among (signs.data.toList.take (j+1)) s[k]=(among (signs.data.toList.take j) s[k] || signs[j] == s[k])):=by
            show _=_;rw [hts,among_snoc]
          clear hts
          by_cases heq:(signs[j].toNat:Int)=(s[k].toNat:Int)
          · have hE:Hid ((signs[j] == s[k])=true):=by
              show _=_;rw [beq_iff_eq];exact UInt8.toNat_inj.1 (by omega)
            have he2:((signs[j].toNat:Int) == (s[k].toNat:Int))=true:=by simpa using heq
            clear heq
            go_wp2
            go_quiet (fail)
            go_wp2
            go_roundw
            case rel=>exact ⟨j+1,by omega,by go_num,by rw [HS.out,hE.out];simp,Below_drewN hb _⟩
            case measure=>simp [intOf];omega
          · have hE:Hid ((signs[j] == s[k])=false):=by
              show _=_;rw [beq_eq_false_iff_ne];intro e;exact heq (by rw [e])
            have he2:((signs[j].toNat:Int) == (s[k].toNat:Int))=false:=by simpa using heq
            clear heq
            go_wp2
            go_quiet (fail)
            go_wp2
            go_roundw
            case rel=>exact ⟨j+1,by omega,by go_num,by rw [HS.out,hE.out];simp,Below_drewN hb _⟩
            case measure=>simp [intOf];omega
        · have hjj:j=signs.size:=by omega
          have HJ:Hid (among (signs.data.toList.take j) s[k]=inN (s[k].toNat:Int)):=by
            show _=_;rw [List.take_of_length_le (by simp;omega)];exact among_signs _
          clear hjj
          have hsn:=take_snoc s k hlt
          have HS:Hid (allN (s.data.toList.take (k+1))=inN s[k].toNat):=by
            show _=_;rw [hsn,allN_snoc,HA.out];rfl
          clear hsn
          rw [HJ.out]
          by_cases hin:inN (s[k].toNat:Int)=true
          · go_wp2
            go_roundw
            case rel=>exact ⟨k+1,by omega,by go_num,by rw [HS.out];exact hin,hb⟩
            case measure=>simp [intOf];omega
          · have hin':inN (s[k].toNat:Int)=false:=by simpa using hin
            clear hin
            go_wp2
            go_ret
            refine ⟨ret_bool ?_,hb⟩
            have:allN s.data.toList=false:=by
              rw [← List.take_append_drop (k+1) s.data.toList]
              exact allN_false (by rw [HS.out];exact hin')
            simp [nameB,this]
    · have:k=s.size:=by omega
      subst this
      go_wp2
      go_ret
      refine ⟨ret_bool ?_,hb⟩
      have h:=HA.out
      rw [List.take_of_length_le (by simp)] at h
      simp [nameB,h];omega
end Go.Proofs.YtccbpngehedbaaaGreat

namespace Go.Proofs.YtccbpngehedbaaaGreat
open Go.RowKit

set_option maxRecDepth 20000
structure Sp where
  trace:Int
  id:Int
  parent:Int
  kind:Int
  host:ByteArray
  name:ByteArray
  start:Int
  dur:Int
def Sp.c (s:Sp):Array Value:=#[.int .u64 s.trace,.int .u64 s.id,.int .u64 s.parent,.int .u8 s.kind,.string s.host,.string s.name,.int .i64 s.start,.int .i64 s.dur]
def Sp.v (s:Sp):Value:=.agg #[.int .u64 s.trace,.int .u64 s.id,.int .u64 s.parent,.int .u8 s.kind,.string s.host,.string s.name,.int .i64 s.start,.int .i64 s.dur]

/-- Block n holds the span s. -/
def Box (w:World) (n:Nat) (s:Sp):Prop:=n < w.heap.size∧∀ i,i < 8→w.cell? ⟨n,i,none⟩=s.c[i]?
theorem Box.below {w w':World} {n:Nat} {s:Sp} (h:Box w n s) {B:Nat} (hb:Below B w w') (hB:n < B):Box w' n s :=
  ⟨Nat.lt_of_lt_of_le h.1 hb.size,fun i hi=>by rw [hb.cell (p:=⟨n,i,none⟩) hB];exact h.2 i hi⟩
theorem Box.all {w:World} {n:Nat} {s:Sp} (h:Box w n s) :
    w.cell? ⟨n,0,none⟩=some (.int .u64 s.trace)∧w.cell? ⟨n,1,none⟩=some (.int .u64 s.id)∧w.cell? ⟨n,2,none⟩=some (.int .u64 s.parent)∧w.cell? ⟨n,3,none⟩=some (.int .u8 s.kind)
    ∧ w.cell? ⟨n,4,none⟩=some (.string s.host)∧w.cell? ⟨n,5,none⟩=some (.string s.name)∧w.cell? ⟨n,6,none⟩=some (.int .i64 s.start)∧w.cell? ⟨n,7,none⟩=some (.int .i64 s.dur) :=
  ⟨h.2 0 (by omega),h.2 1 (by omega),h.2 2 (by omega),h.2 3 (by omega),h.2 4 (by omega),h.2 5 (by omega),h.2 6 (by omega),h.2 7 (by omega)⟩
theorem Box.new (w:World) (s:Sp) (t:TypeId):Box (w.alloc (.cells s.c t)) w.heap.size s:=⟨by simp,fun i _=>by simp⟩

end Go.Proofs.YtccbpngehedbaaaGreat

namespace Go.Proofs.YtccbpngehedbaaaGreat
open Go.RowKit Go.Sort

set_option maxRecDepth 20000
def nmB (s:Sp):Bool:=!(s.trace == 0) && !(s.id == 0) && !(s.parent == s.id) && decide (s.kind≤2)
def tmB (s:Sp):Bool:=decide (0≤s.start) && decide (s.start < 1125899906842624) && decide (0≤s.dur) && decide (s.dur≤1125899906842624)
def mayB (s:Sp):Bool:=nmB s && tmB s && nameB s.host && nameB s.name

set_option maxHeartbeats 1000000 in
theorem numbersMay_any (s:Sp) (w:World):Calls Tryz.prog 160 #[s.v] w fun e w'=>e=.returned (.bool (nmB s))∧Below w.heap.size w w':=by
  unfold Sp.v
  by_cases h1:s.trace=0
  · go_enter Tryz.func160,Tryz.ntmps160
    go_wp2
    go_ret
    exact ⟨ret_bool (by simp [nmB,h1]),box1 _ _⟩
  by_cases h2:s.id=0
  · go_enter Tryz.func160,Tryz.ntmps160
    go_wp2
    go_ret
    exact ⟨ret_bool (by simp [nmB,h2]),box1 _ _⟩
  by_cases h3:s.parent=s.id
  · go_enter Tryz.func160,Tryz.ntmps160
    go_wp2
    go_ret
    exact ⟨ret_bool (by simp [nmB,h3]),box1 _ _⟩
  have e3:(s.parent == s.id)=false:=by simpa using h3
  go_enter Tryz.func160,Tryz.ntmps160
  go_wp2
  go_ret
  exact ⟨ret_bool (by simp [nmB,bne]),box1 _ _⟩
set_option maxHeartbeats 1000000 in
theorem timesMay_any (s:Sp) (w:World):Calls Tryz.prog 161 #[s.v] w fun e w'=>e=.returned (.bool (tmB s))∧Below w.heap.size w w':=by
  unfold Sp.v
  by_cases h1:0≤s.start
  case neg =>
    go_enter Tryz.func161,Tryz.ntmps161
    go_wp2
    go_ret
    exact ⟨ret_bool (by simp [tmB];omega),box1 _ _⟩
  by_cases h2:s.start < 1125899906842624
  case neg =>
    go_enter Tryz.func161,Tryz.ntmps161
    go_wp2
    go_ret
    exact ⟨ret_bool (by simp [tmB];omega),box1 _ _⟩
  by_cases h3:0≤s.dur
  case neg =>
    go_enter Tryz.func161,Tryz.ntmps161
    go_wp2
    go_ret
    exact ⟨ret_bool (by simp [tmB];omega),box1 _ _⟩
  go_enter Tryz.func161,Tryz.ntmps161
  go_wp2
  go_ret
  exact ⟨ret_bool (by simp [tmB,h1,h2,h3]),box1 _ _⟩


set_option maxHeartbeats 1000000 in
theorem may_any (s:Sp) (w:World) (hh:s.host.size≤maxLen) (hn:s.name.size≤maxLen):Calls Tryz.prog 132 #[s.v] w fun e w'=>e=.returned (.bool (mayB s))∧Below w.heap.size w w':=by
  unfold Sp.v
  have HH:=Lib.hid hh;have HN:=Lib.hid hn;clear hh hn
  have HB:=Lib.hid (box1 w (.cells s.c 126))
  cases h1:nmB s
  · have HE:Hid (mayB s=false):=by show _=_;simp [mayB,h1]
    go_enter Tryz.func132,Tryz.ntmps132
    go_wp2_with (go_at_call 160;refine (numbersMay_any s _).mono ?_;rintro e w' ⟨rfl,hb⟩)
    go_ret
    exact ⟨ret_bool HE.out.symm,bel2 HB.out hb⟩
  cases h2:tmB s
  · have HE:Hid (mayB s=false):=by show _=_;simp [mayB,h2]
    go_enter Tryz.func132,Tryz.ntmps132
    go_wp2_with (first
      | (go_at_call 160;refine (numbersMay_any s _).mono ?_;rintro e w' ⟨rfl,hb⟩;have hA:=(Box.new w s 126).below hb (by simp);obtain ⟨c0,c1,c2,c3,c4,c5,c6,c7⟩:=hA.all;have HA:=Lib.hid hA;clear hA;have HB1:=Lib.hid hb;clear hb)
      | (go_at_call 161;refine (timesMay_any s _).mono ?_;rintro e w' ⟨rfl,hb2⟩))
    go_ret
    exact ⟨ret_bool HE.out.symm,bel2 (bel2 HB.out HB1.out) hb2⟩
  cases h3:nameB s.host
  · have HE:Hid (mayB s=false):=by show _=_;simp [mayB,h3]
    go_enter Tryz.func132,Tryz.ntmps132
    go_wp2_with (first
      | (go_at_call 160;refine (numbersMay_any s _).mono ?_;rintro e w' ⟨rfl,hb⟩;have hA:=(Box.new w s 126).below hb (by simp);obtain ⟨c0,c1,c2,c3,c4,c5,c6,c7⟩:=hA.all;have HA:=Lib.hid hA;clear hA;have HB1:=Lib.hid hb;clear hb)
      | (go_at_call 161;refine (timesMay_any s _).mono ?_;rintro e w' ⟨rfl,hb2⟩;clear c0 c1 c2 c3 c4 c5 c6 c7;have hA:=HA.out.below hb2 HA.out.1;obtain ⟨_,_,_,_,c4,c5,_,_⟩:=hA.all;clear hA)
      | (go_at_call 162;refine (name_any _ _ HH.out).mono ?_;rintro e w' ⟨rfl,rfl⟩))
    go_ret
    exact ⟨ret_bool HE.out.symm,bel2 (bel2 HB.out HB1.out) hb2⟩
  have HE:Hid (mayB s=nameB s.name):=by show _=_;simp [mayB,h1,h2,h3]
  go_enter Tryz.func132,Tryz.ntmps132
  go_wp2_with (first
      | (go_at_call 160;refine (numbersMay_any s _).mono ?_;rintro e w' ⟨rfl,hb⟩;have hA:=(Box.new w s 126).below hb (by simp);obtain ⟨c0,c1,c2,c3,c4,c5,c6,c7⟩:=hA.all;have HA:=Lib.hid hA;clear hA;have HB1:=Lib.hid hb;clear hb)
      | (go_at_call 161;refine (timesMay_any s _).mono ?_;rintro e w' ⟨rfl,hb2⟩;clear c0 c1 c2 c3 c4 c5 c6 c7;have hA:=HA.out.below hb2 HA.out.1;obtain ⟨_,_,_,_,c4,c5,_,_⟩:=hA.all;clear hA)
      | (go_at_call_of 162 (Value.string s.host);refine (name_any _ _ HH.out).mono ?_;rintro e w' ⟨rfl,rfl⟩)
      | (go_at_call_of 162 (Value.string s.name);refine (name_any _ _ HN.out).mono ?_;rintro e w' ⟨rfl,rfl⟩))
  go_ret
  exact ⟨ret_bool HE.out.symm,bel2 (bel2 HB.out HB1.out) hb2⟩
set_option maxHeartbeats 2000000 in
theorem refMay_any (s : Sp) (w : World) (hh : s.host.size ≤ maxLen) (hn : s.name.size ≤ maxLen) (hk : 0 ≤ s.kind) : Calls Tryz.prog 115 #[s.v] w fun e w' => e = .returned (.bool (mayB s)) ∧ Below w.heap.size w w' := by
  unfold Sp.v
  have HH:=Lib.hid hh;have HN:=Lib.hid hn;clear hh hn
  cases h1:(s.trace == 0)
  case true =>
    have HE:Hid (mayB s=false):=by show _=_;simp [mayB,nmB,h1]
    go_enter Tryz.func115,Tryz.ntmps115
    go_wp2
    go_ret
    exact ⟨ret_bool HE.out.symm,box1 _ _⟩
  cases h2:(s.id == 0)
  case true =>
    have HE:Hid (mayB s=false):=by show _=_;simp [mayB,nmB,h2]
    go_enter Tryz.func115,Tryz.ntmps115
    go_wp2
    go_ret
    exact ⟨ret_bool HE.out.symm,box1 _ _⟩
  cases h3:(s.parent == s.id)
  case true =>
    have HE:Hid (mayB s=false):=by show _=_;simp [mayB,nmB,h3]
    go_enter Tryz.func115,Tryz.ntmps115
    go_wp2
    go_ret
    exact ⟨ret_bool HE.out.symm,box1 _ _⟩
  by_cases h4:2 < s.kind
  · have HE:Hid (mayB s=false):=by
      show _=_
      have:¬ s.kind≤2:=by omega
      simp [mayB,nmB,this]
    have k0:(s.kind == 0)=false:=by simp;omega
    have k1:(s.kind == 1)=false:=by simp;omega
    have k2:(s.kind == 2)=false:=by simp;omega
    have k0':(s.kind != 0)=true:=by simp;omega
    have k1':(s.kind != 1)=true:=by simp;omega
    have k2':(s.kind != 2)=true:=by simp;omega
    go_enter Tryz.func115,Tryz.ntmps115
    go_wp2
    go_ret
    exact ⟨ret_bool HE.out.symm,box1 _ _⟩
  have HM:Hid (mayB s=(tmB s && nameB s.host && nameB s.name)):=by
    show _=_
    have:s.kind≤2:=by omega
    simp [mayB,nmB,h1,h2,h3,this]
  have hkk:s.kind=0∨s.kind=1∨s.kind=2:=by omega
  clear hk h4
  have hkk:((s.kind == 0)=true∧(s.kind != 0)=false)∨((s.kind == 0)=false∧(s.kind != 0)=true∧(s.kind == 1)=true∧(s.kind != 1)=false)∨((s.kind == 0)=false∧(s.kind != 0)=true∧(s.kind == 1)=false∧(s.kind != 1)=true∧(s.kind == 2)=true∧(s.kind != 2)=false):=by
    rcases hkk with h | h | h <;> simp [h]
  by_cases t1:s.start < 0
  · have HE:Hid (mayB s=false):=by
      rw [Hid,HM.out]
      have:tmB s=false:=by simp [tmB];omega
      simp [this]
    rcases hkk with ⟨_,_⟩ | ⟨_,_,_,_⟩ | ⟨_,_,_,_,_,_⟩
    all_goals
      go_enter Tryz.func115,Tryz.ntmps115
      go_wp2
      go_ret
      exact ⟨ret_bool HE.out.symm,box1 _ _⟩
  by_cases t2:1125899906842623 < s.start
  · have HE:Hid (mayB s=false):=by
      rw [Hid,HM.out]
      have:tmB s=false:=by simp [tmB];omega
      simp [this]
    rcases hkk with ⟨_,_⟩ | ⟨_,_,_,_⟩ | ⟨_,_,_,_,_,_⟩
    all_goals
      go_enter Tryz.func115,Tryz.ntmps115
      go_wp2
      go_ret
      exact ⟨ret_bool HE.out.symm,box1 _ _⟩
  by_cases t3:s.dur < 0
  · have HE:Hid (mayB s=false):=by
      rw [Hid,HM.out]
      have:tmB s=false:=by simp [tmB];omega
      simp [this]
    rcases hkk with ⟨_,_⟩ | ⟨_,_,_,_⟩ | ⟨_,_,_,_,_,_⟩
    all_goals
      go_enter Tryz.func115,Tryz.ntmps115
      go_wp2
      go_ret
      exact ⟨ret_bool HE.out.symm,box1 _ _⟩
  by_cases t4:1125899906842624 < s.dur
  · have HE:Hid (mayB s=false):=by
      rw [Hid,HM.out]
      have:tmB s=false:=by simp [tmB];omega
      simp [this]
    rcases hkk with ⟨_,_⟩ | ⟨_,_,_,_⟩ | ⟨_,_,_,_,_,_⟩
    all_goals
      go_enter Tryz.func115,Tryz.ntmps115
      go_wp2
      go_ret
      exact ⟨ret_bool HE.out.symm,box1 _ _⟩
  have HT:Hid (mayB s=(nameB s.host && nameB s.name)):=by
    rw [Hid,HM.out]
    have:tmB s=true:=by simp [tmB];omega
    simp [this]
  cases h5:nameB s.host
  · have HE:Hid (mayB s=false):=by rw [Hid,HT.out,h5];rfl
    rcases hkk with ⟨_,_⟩ | ⟨_,_,_,_⟩ | ⟨_,_,_,_,_,_⟩
    all_goals
      go_enter Tryz.func115,Tryz.ntmps115
      go_wp2_with (go_at_call 139;refine (refName_any _ _ HH.out).mono ?_;rintro e w' ⟨rfl,hb⟩)
      go_ret
      exact ⟨ret_bool HE.out.symm,bel2 (box1 _ _) hb⟩
  · have HE:Hid (mayB s=nameB s.name):=by rw [Hid,HT.out,h5];rfl
    rcases hkk with ⟨_,_⟩ | ⟨_,_,_,_⟩ | ⟨_,_,_,_,_,_⟩
    all_goals
      go_enter Tryz.func115,Tryz.ntmps115
      go_wp2_with (first
        | (go_at_call_of 139 (Value.string s.host);refine (refName_any _ _ HH.out).mono ?_;rintro e w' ⟨rfl,hb⟩;have hA:=(Box.new w s 126).below hb (by simp);obtain ⟨c0,c1,c2,c3,c4,c5,c6,c7⟩:=hA.all;clear hA;have HB1:=Lib.hid hb;clear hb)
        | (go_at_call_of 139 (Value.string s.name);refine (refName_any _ _ HN.out).mono ?_;rintro e w' ⟨rfl,hb2⟩))
      go_ret
      exact ⟨ret_bool HE.out.symm,bel2 (bel2 (box1 _ _) HB1.out) hb2⟩

theorem may_is {s:Sp} {b:Bool} (h:mayB s=b) (w:World) (hh:s.host.size≤maxLen) (hn:s.name.size≤maxLen):Calls Tryz.prog 132 #[s.v] w fun e w'=>e=.returned (.bool b)∧Below w.heap.size w w':=by
  subst h;exact may_any s w hh hn
theorem refMay_is {s:Sp} {b:Bool} (h:mayB s=b) (w:World) (hh:s.host.size≤maxLen) (hn:s.name.size≤maxLen) (hk:0≤s.kind):Calls Tryz.prog 115 #[s.v] w fun e w'=>e=.returned (.bool b)∧Below w.heap.size w w':=by
  subst h;exact refMay_any s w hh hn hk

end Go.Proofs.YtccbpngehedbaaaGreat

namespace Go.Proofs.YtccbpngehedbaaaGreat
open Go.ChangeShapes Go.WideShapes Go.ChangeAt Go.RowKit Go.Deep Go.Joins

set_option maxRecDepth 20000
def U64 (x:Int):Prop:=0≤x∧x < 18446744073709551616
def I64 (x:Int):Prop:=-9223372036854775808≤x∧x < 9223372036854775808
def U8 (x:Int):Prop:=0≤x∧x < 256
structure Sp.Ok (s:Sp):Prop where
  trace:U64 s.trace
  id:U64 s.id
  parent:U64 s.parent
  kind:U8 s.kind
  host:s.host.size≤maxLen
  name:s.name.size≤maxLen
  start:I64 s.start
  dur:I64 s.dur

theorem cells_u8:Tryz.prog.cellsOf 5=1:=by kernel_rfl
section
variable {H:Type} {enc:TypeId × Value→H} {w:World} {base:Nat} {spare:Nat→Bool} {held:Bool}
deriving instance Inhabited for Sp
end
end Go.Proofs.YtccbpngehedbaaaGreat

namespace Go.Proofs.YtccbpngehedbaaaGreat
open Go.RowKit

set_option maxRecDepth 20000
def flatL (L:List Sp):List Value:=L.flatMap fun s=>s.c.toList
theorem c_len (s:Sp):s.c.toList.length=8:=rfl
theorem flatL_nil:flatL []=[]:=rfl
theorem flatL_cons (s:Sp) (L:List Sp):flatL (s :: L)=s.c.toList ++ flatL L:=rfl
theorem flatL_append (L M:List Sp):flatL (L ++ M)=flatL L ++ flatL M:=by simp [flatL]
theorem flatL_length:∀ L:List Sp,(flatL L).length=L.length * 8
  | []=>rfl
  | s :: L=>by rw [flatL_cons,List.length_append,flatL_length L,c_len];simp;omega
theorem flatL_get:∀ (L:List Sp) (i:Nat) (h:i < L.length) (j:Nat),j < 8→(flatL L)[i * 8+j]?=(L[i]).c[j]?
  | [],i,h,_,_=>absurd h (by simp)
  | s :: L,0,_,j,hj=>by
    rw [flatL_cons,List.getElem?_append_left (by rw [c_len];omega)]
    simp
  | s :: L,i+1,h,j,hj=>by
    rw [flatL_cons,List.getElem?_append_right (by rw [c_len];omega),c_len,show (i+1) * 8+j - 8=i * 8+j by omega]
    exact flatL_get L i (by simpa using h) j hj
theorem flatL_one (L:List Sp):∀ u ∈ flatL L,u.oneCell'=true:=by
  intro u hu
  obtain ⟨s,_,h⟩:=List.mem_flatMap.1 hu
  simp [Sp.c] at h
  rcases h with rfl | rfl | rfl | rfl | rfl | rfl | rfl | rfl <;> rfl

/-- One element of what is read. -/
def Elem (w:World) (b o:Nat) (s:Sp):Prop :=
  w.cell? ⟨b,o,none⟩=some (.int .u64 s.trace)∧w.cell? ⟨b,o+1,none⟩=some (.int .u64 s.id)∧w.cell? ⟨b,o+2,none⟩=some (.int .u64 s.parent)∧w.cell? ⟨b,o+3,none⟩=some (.int .u8 s.kind)
    ∧ w.cell? ⟨b,o+4,none⟩=some (.string s.host)∧w.cell? ⟨b,o+5,none⟩=some (.string s.name)∧w.cell? ⟨b,o+6,none⟩=some (.int .i64 s.start)∧w.cell? ⟨b,o+7,none⟩=some (.int .i64 s.dur)
theorem Rd.elem {w:World} {B:Nat} {a:Option Addr} {L:List Sp} (h:Rd w B a (flatL L)) {i:Nat} (hi:i < L.length):∃ b off,a=some ⟨b,off,none⟩∧b < B∧Elem w b (off+i * 8) L[i]:=by
  obtain ⟨b,off,ha,hb,hc⟩:=h (by rw [flatL_length];omega)
  have key:∀ j u,j < 8→(L[i]).c[j]?=some u→w.cell? ⟨b,off+i * 8+j,none⟩=some u:=fun j u hj hu=>by
    have:=hc (i * 8+j) u (by rw [flatL_get L i hi j hj];exact hu)
    rwa [← Nat.add_assoc] at this
  exact ⟨b,off,ha,hb,key 0 _ (by omega) rfl,key 1 _ (by omega) rfl,key 2 _ (by omega) rfl,key 3 _ (by omega) rfl,key 4 _ (by omega) rfl,key 5 _ (by omega) rfl,key 6 _ (by omega) rfl,key 7 _ (by omega) rfl⟩
end Go.Proofs.YtccbpngehedbaaaGreat

namespace Go.Proofs.YtccbpngehedbaaaGreat
open Go.RowKit Go.Sort
set_option maxRecDepth 20000
deriving instance DecidableEq for Sp
end Go.Proofs.YtccbpngehedbaaaGreat

