import Derived.Test.YtkaafjcfcknbpaaWb
import Derived.Test.YtkaafjcfcknbpaaGe
import Derived.Deep.RegionHeldLaw
namespace Go.Proofs.Ytkaafjcfcknbpaa
open Go Go.RowKit Go.Sort

theorem refPut_is (n : Nat) (s : Int) (k : Nat) (hk : cnt s = k) (P : List UInt8) (hP : P = putL n k) (w : World) (hn : n < 18446744073709551616) :
    Calls Try.prog 20 #[.int .u64 (n : Int), .int .i64 s] w fun e w' => e = .returned (.string (bs P)) ∧ Below w.heap.size w w' := by
  subst hk hP; exact refPut_any n s w hn
theorem refPutText_is (s : ByteArray) (P : List UInt8) (hP : P = fldL s.data.toList) (w : World) (hs : s.size ≤ maxLen) :
    Calls Try.prog 60 #[.string s] w fun e w' => e = .returned (.string (bs P)) ∧ Below w.heap.size w w' := by
  subst hP; exact refPutText_any s w hs
end Go.Proofs.Ytkaafjcfcknbpaa

namespace Go.Proofs.Ytkaafjcfcknbpaa
open Go Go.RowKit

theorem mayL_none {L : List Sp} (h : L.length = 0) : mayL L = false := by simp [mayL, h]
theorem mayL_many {L : List Sp} (h : 32 < L.length) : mayL L = false := by
  have : ¬ L.length ≤ 32 := by omega
  simp [mayL, this]
theorem mayL_fit {L : List Sp} (h1 : 1 ≤ L.length) (h2 : L.length ≤ 32) : mayL L = L.all mayB := by simp [mayL, h1, h2]
theorem all_take {L : List Sp} {k : Nat} (h : k < L.length) : (L.take (k + 1)).all mayB = ((L.take k).all mayB && mayB L[k]) := by
  rw [List.take_succ_eq_append_getElem h, List.all_append]; simp
theorem all_not {L : List Sp} {k : Nat} (h : k < L.length) (hk : mayB L[k] = false) : L.all mayB = false := by
  rw [List.all_eq_false]
  exact ⟨L[k], List.getElem_mem _, by simp [hk]⟩
theorem refMay_one {s : Sp} {b : Bool} (h : mayB s = b) (w : World) (ok : s.Ok) : Calls Try.prog 49 #[s.v] w fun e w' => e = .returned (.bool b) ∧ Below w.heap.size w w' := by
  subst h; exact refMay_any s w ok.host ok.name ok.kind.1
end Go.Proofs.Ytkaafjcfcknbpaa

namespace Go.Proofs.Ytkaafjcfcknbpaa
open Go Go.RowKit

theorem ret_stri {x y : ByteArray} {k : IntKind} {a b : Int} (h : x = y) (h2 : a = b) : Ending.returned (.tuple #[.string x, .int k a]) = .returned (.tuple #[.string y, .int k b]) := by rw [h, h2]
theorem flat_take {L : List Sp} {k : Nat} (h : k < L.length) : (L.take (k + 1)).flatMap spanL = (L.take k).flatMap spanL ++ spanL L[k] := by
  rw [List.take_succ_eq_append_getElem h, List.flatMap_append, List.flatMap_cons, List.flatMap_nil, List.append_nil]
/-- The first k spans' bytes behind the head. -/
def partL (L : List Sp) (k : Nat) : List UInt8 := letL ++ putL L.length 2 ++ (L.take k).flatMap spanL
theorem partL_zero (L : List Sp) : partL L 0 = letL ++ putL L.length 2 := by simp [partL]
theorem partL_succ {L : List Sp} {k : Nat} (h : k < L.length) : partL L (k + 1) = partL L k ++ spanL L[k] := by
  unfold partL; rw [flat_take h, List.append_assoc]; simp only [List.append_assoc]
theorem partL_all (L : List Sp) : partL L L.length = batchL L := by unfold partL; rw [List.take_length]; rfl
theorem partL_length {L : List Sp} (h : ∀ s ∈ L, mayB s = true) {k : Nat} (hk : k ≤ L.length) : (partL L k).length = 6 + 75 * k := by
  unfold partL
  rw [List.length_append, List.length_append, putL_length, flat_length (fun s hs => h s (List.mem_of_mem_take hs)), List.length_take, Nat.min_eq_left hk]; rfl
def putStr (L : List Sp) : ByteArray := if mayL L = true then bs (batchL L) else ByteArray.empty
def putErr (L : List Sp) : Int := if mayL L = true then 0 else 1
end Go.Proofs.Ytkaafjcfcknbpaa

namespace Go.Proofs.Ytkaafjcfcknbpaa
open Go Go.RowKit

/-- What is answered: the spans and the error's number. -/
def SpansOut (w : World) (r : Except Nat (List Sp)) (e : Ending) (w' : World) : Prop :=
  ∃ a c, e = .returned (.tuple #[.slice a (lstW r).length c, .int .i64 (errW r : Nat)]) ∧ (lstW r).length ≤ c ∧ c ≤ maxLen ∧ Rd w' w'.heap.size a (flatL (lstW r)) ∧ Below w.heap.size w w'
theorem SpansOut.no {w w' : World} {r : Except Nat (List Sp)} {n : Nat} (h : r = .error n) (hb : Below w.heap.size w w') : SpansOut w r (.returned (.tuple #[.slice none 0 0, .int .i64 (n : Int)])) w' := by
  subst h; exact ⟨none, 0, rfl, Nat.le_refl _, by decide, Rd.nil _ _ _, hb⟩
theorem spansTo_stuck {b : List UInt8} {k e : Nat} (h : spansTo b k = .error e) : ∀ i, spansTo b (k + i) = .error e
  | 0 => h
  | i + 1 => by rw [← Nat.add_assoc, spansTo, spansTo_stuck h i]
theorem spansTo_err {b : List UInt8} {k n e : Nat} {l : List Sp} (h : spansTo b k = .ok l) (hk : k < n) (hs : spanAt b (6 + 75 * k) = .error e) : spansTo b n = .error e := by
  have h1 : spansTo b (k + 1) = .error e := by rw [spansTo, h]; simp only []; rw [hs]
  obtain ⟨i, rfl⟩ : ∃ i, n = k + 1 + i := ⟨n - (k + 1), by omega⟩
  exact spansTo_stuck h1 i
theorem spansTo_next {b : List UInt8} {k : Nat} {l : List Sp} {s : Sp} (h : spansTo b k = .ok l) (hs : spanAt b (6 + 75 * k) = .ok s) : spansTo b (k + 1) = .ok (l ++ [s]) := by
  rw [spansTo, h]; simp only []; rw [hs]
def szs (j : Nat) : Nat := [8, 8, 8, 1, 8, 8].getD j 0
def offs (j : Nat) : Nat := [0, 8, 16, 24, 25, 33, 41].getD j 0
theorem szs_all : ∀ j : Fin 6, szs j ≤ 8 ∧ 1 ≤ szs j ∧ offs (j + 1) = offs j + szs j ∧ offs j + szs j ≤ 41 ∧ cnt (szs j) = szs j := by decide
theorem szs_fact {j : Nat} (h : j < 6) : szs j ≤ 8 ∧ 1 ≤ szs j ∧ offs (j + 1) = offs j + szs j ∧ offs j + szs j ≤ 41 ∧ cnt (szs j) = szs j := szs_all ⟨j, h⟩
def szA : Array Value := #[.int .i64 8, .int .i64 8, .int .i64 8, .int .i64 1, .int .i64 8, .int .i64 8]
theorem szA_get : ∀ j : Fin 6, szA.toList[(j : Nat)]? = some (.int .i64 (szs j : Nat)) := by
  intro j
  match j with
  | ⟨0, _⟩ => rfl
  | ⟨1, _⟩ => rfl
  | ⟨2, _⟩ => rfl
  | ⟨3, _⟩ => rfl
  | ⟨4, _⟩ => rfl
  | ⟨5, _⟩ => rfl
def valL (b : List UInt8) (p j : Nat) : List Value := (List.range j).map fun i => .int .u64 (gN b (p + offs i) (szs i) : Nat)
theorem valL_succ (b : List UInt8) (p j : Nat) : valL b p (j + 1) = valL b p j ++ [.int .u64 (gN b (p + offs j) (szs j) : Nat)] := by
  unfold valL; rw [List.range_succ, List.map_append]; rfl
theorem valL_one (b : List UInt8) (p j : Nat) : ∀ u ∈ valL b p j, u.oneCell' = true := by
  intro u hu; obtain ⟨c, _, rfl⟩ := List.mem_map.1 hu; rfl
theorem info_u64 : (Try.prog.info? 52).map (fun i => (i.zero, i.size, i.bytes)) = some (some (.int .u64 0), 1, 8) := by kernel_rfl
theorem getW_short {b : List UInt8} (h : b.length < 6) : getW b = .error 2 := if_pos h
theorem getW_letters {b : List UInt8} (h : ¬ b.length < 6) (h2 : b.take 4 ≠ letL) : getW b = .error 3 := by unfold getW; rw [if_neg h, if_pos h2]
theorem getW_count {b : List UInt8} (h : ¬ b.length < 6) (h2 : b.take 4 = letL) (h3 : gN b 4 2 = 0 ∨ 32 < gN b 4 2) : getW b = .error 3 := by unfold getW; rw [if_neg h, if_neg (by simp [h2]), if_pos h3]
theorem getW_less {b : List UInt8} (h : ¬ b.length < 6) (h2 : b.take 4 = letL) (h3 : ¬ (gN b 4 2 = 0 ∨ 32 < gN b 4 2)) (h4 : b.length < 6 + 75 * gN b 4 2) : getW b = .error 2 := by unfold getW; rw [if_neg h, if_neg (by simp [h2]), if_neg h3, if_pos h4]
theorem getW_great {b : List UInt8} (h : ¬ b.length < 6) (h2 : b.take 4 = letL) (h3 : ¬ (gN b 4 2 = 0 ∨ 32 < gN b 4 2)) (h5 : 6 + 75 * gN b 4 2 < b.length) : getW b = .error 3 := by unfold getW; rw [if_neg h, if_neg (by simp [h2]), if_neg h3, if_neg (by omega), if_pos h5]
theorem getW_fit {b : List UInt8} (h : ¬ b.length < 6) (h2 : b.take 4 = letL) (h3 : ¬ (gN b 4 2 = 0 ∨ 32 < gN b 4 2)) (h5 : b.length = 6 + 75 * gN b 4 2) : getW b = spansTo b (gN b 4 2) := by unfold getW; rw [if_neg h, if_neg (by simp [h2]), if_neg h3, if_neg (by omega), if_neg (by omega)]
theorem refGet_is (x : ByteArray) (p : Nat) (s : Nat) (w : World) (b : List UInt8) (hb : x.data.toList = b) (hc : cnt s = s) (hs : s ≤ 8) (hp : p + s ≤ b.length) (hl : b.length ≤ 1000000000000) (G : Nat) (hG : gN b p s = G) :
    Calls Try.prog 25 #[.string x, .int .i64 (p : Int), .int .i64 (s : Int)] w fun e w' => e = .returned (.tuple #[.int .u64 (G : Int), .bool true]) ∧ Below w.heap.size w w' := by
  subst hb hG
  have hx : x.size ≤ 1000000000000 := by rw [← data_length]; exact hl
  have h := refGet_any x (p : Int) (s : Int) w hx (by omega) (by omega) (by omega) (by omega)
  rw [getR_yes (by rw [hc]; omega), hc, Int.toNat_natCast] at h
  exact h
theorem spanAt_err {b : List UInt8} {p e : Nat} (h : spanAt b p = .error e) : e ≠ 0 := by
  unfold spanAt at h
  split at h
  · injection h with h; omega
  · injection h with h; omega
  · simp only [] at h
    split at h
    · cases h
    · injection h with h; omega
theorem spansTo_err0 {b : List UInt8} : ∀ {k e : Nat}, spansTo b k = .error e → e ≠ 0
  | 0, _, h => by cases h
  | k + 1, e, h => by
    unfold spansTo at h
    cases h1 : spansTo b k with
    | error x => rw [h1] at h; injection h with h; subst h; exact spansTo_err0 h1
    | ok l =>
      rw [h1] at h
      simp only [] at h
      cases h2 : spanAt b (6 + 75 * k) with
      | error x => rw [h2] at h; injection h with h; subst h; exact spanAt_err h2
      | ok s => rw [h2] at h; cases h
theorem getW_err {b : List UInt8} {e : Nat} (h : getW b = .error e) : e ≠ 0 := by
  unfold getW at h
  split at h
  · injection h with h; omega
  split at h
  · injection h with h; omega
  split at h
  · injection h with h; omega
  split at h
  · injection h with h; omega
  split at h
  · injection h with h; omega
  exact spansTo_err0 h
end Go.Proofs.Ytkaafjcfcknbpaa

namespace Go.Proofs.Ytkaafjcfcknbpaa
open Go Go.RowKit

theorem ret_slii {a : Option Addr} {n c : Nat} {k : IntKind} {x y : Int} (h : x = y) : Ending.returned (.tuple #[.slice a n c, .int k x]) = .returned (.tuple #[.slice a n c, .int k y]) := by rw [h]
theorem refGetText_is (x : ByteArray) (P : Int) (b : List UInt8) (hb : x.data.toList = b) (hl : b.length ≤ 1000000000000) (w : World) (h1 : 0 ≤ P) (h2 : P ≤ 9223372036854775807) (o : Option (List UInt8)) (ho : getT b P = o) :
    Calls Try.prog 48 #[.string x, .int .i64 P] w fun e w' => e = .returned (.tuple #[.string (txt o), .bool o.isSome]) ∧ Below w.heap.size w w' := by
  subst hb ho
  exact refGetText_any x P w (by rw [← data_length]; exact hl) (by omega) h2
theorem info_sp : (Try.prog.info? 54).map (fun i => (i.zero, i.size, i.bytes)) = some (some (⟨0, 0, 0, 0, ByteArray.empty, ByteArray.empty, 0, 0⟩ : Sp).v, 8, 80) := by kernel_rfl
set_option maxRecDepth 100000 in
set_option maxHeartbeats 4000000 in
theorem refGetL_any (t : ByteArray) (b : List UInt8) (htb : t.data.toList = b) (w : World) (hl : b.length ≤ 1000000000000) :
    Calls Try.prog 27 #[.string t] w (SpansOut w (getW b)) := by
  have HTB := Lib.hid htb
  have hsz : t.size = b.length := by rw [← htb, data_length]
  clear htb
  by_cases h6 : b.length < 6
  · have HE := Lib.hid (getW_short h6)
    go_enter Try.func27, Try.ntmps27
    go_wp2_with fail
    go_ret2
    exact SpansOut.no HE.out (Below.refl _ _)
  have HX : Hid (t.extract 0 4 = bs (b.take 4)) := by show _ = _; rw [bs_extract, HTB.out, List.drop_zero]
  have e4 : (ByteArray.mk #[83, 80, 65, 78]).toList = [83, 80, 65, 78] := by rw [ByteArray.toList_eq]
  by_cases h4 : b.take 4 = letL
  case neg =>
    have HE := Lib.hid (getW_letters h6 h4)
    obtain ⟨t1, t2⟩ := str_eq (x := t.extract 0 4) (y := ByteArray.mk #[83, 80, 65, 78]) (b := false) (by
      rw [HX.out]
      have : ¬ bs (b.take 4) = ByteArray.mk #[83, 80, 65, 78] := fun e => h4 (bs_inj e)
      simp [this])
    rw [e4] at t1
    clear t2 e4
    go_enter Try.func27, Try.ntmps27
    go_wp2_with fail
    go_ret2
    exact SpansOut.no HE.out (Below.refl _ _)
  obtain ⟨t1, t2⟩ := str_eq (x := t.extract 0 4) (y := ByteArray.mk #[83, 80, 65, 78]) (b := true) (by
    rw [HX.out, h4]; decide)
  rw [e4] at t1
  clear t2 e4
  obtain ⟨N, hN⟩ : ∃ N, gN b 4 2 = N := ⟨_, rfl⟩
  have hN16 : N < 65536 := by have := gN_lt b 4 2; omega
  by_cases h0 : N = 0
  · have HE := Lib.hid (getW_count h6 h4 (by omega))
    go_enter Try.func27, Try.ntmps27
    go_wp2_with fail
    refine (refGet_is t 4 2 _ b HTB.out rfl (by omega) (by omega) hl N hN).mono ?_; rintro e w2 ⟨rfl, hb2⟩
    have h0' : ((N : Int) == 0) = true := by simp [h0]
    go_wp2_with fail
    go_ret2
    exact SpansOut.no HE.out hb2
  have h0' : ((N : Int) == 0) = false := beq_eq_false_iff_ne.2 (by omega)
  by_cases h32 : 32 < N
  · have HE := Lib.hid (getW_count h6 h4 (by omega))
    go_enter Try.func27, Try.ntmps27
    go_wp2_with fail
    refine (refGet_is t 4 2 _ b HTB.out rfl (by omega) (by omega) hl N hN).mono ?_; rintro e w2 ⟨rfl, hb2⟩
    go_wp2_with fail
    go_ret2
    exact SpansOut.no HE.out hb2
  have hw : IntKind.i64.wrap (N : Int) = (N : Int) := i64_small (by omega)
  by_cases hless : b.length < 6 + 75 * N
  · have HE := Lib.hid (getW_less h6 h4 (by omega) (by omega))
    go_enter Try.func27, Try.ntmps27
    go_wp2_with fail
    refine (refGet_is t 4 2 _ b HTB.out rfl (by omega) (by omega) hl N hN).mono ?_; rintro e w2 ⟨rfl, hb2⟩
    go_wp2_with fail
    go_ret2
    exact SpansOut.no HE.out hb2
  by_cases hgreat : 6 + 75 * N < b.length
  · have HE := Lib.hid (getW_great h6 h4 (by omega) (by omega))
    go_enter Try.func27, Try.ntmps27
    go_wp2_with fail
    refine (refGet_is t 4 2 _ b HTB.out rfl (by omega) (by omega) hl N hN).mono ?_; rintro e w2 ⟨rfl, hb2⟩
    go_wp2_with fail
    go_ret2
    exact SpansOut.no HE.out hb2
  have hlen : b.length = 6 + 75 * N := by omega
  have HE := Lib.hid (getW_fit h6 h4 (by omega) (by omega))
  rw [hN] at HE
  go_enter Try.func27, Try.ntmps27
  go_wp2_with fail
  refine (refGet_is t 4 2 _ b HTB.out rfl (by omega) (by omega) hl N hN).mono ?_; rintro e w2 ⟨rfl, hb2⟩
  have HB2 := Lib.hid hb2; clear hb2
  go_wp2_with fail
  clear t1 HX hN hw h0' h0 hless hgreat h4
  obtain ⟨i0, hi0, hz0, hz1, hz2⟩ := info_parts info_sp
  obtain ⟨j0, hj0, hy0, hy1, hy2⟩ := info_parts info_u64
  have HZ2 := Lib.hid hz2; have HY2 := Lib.hid hy2; clear hz2 hy2
  have HOUT := Lib.hid (World.ownsRow_made (base := w.heap.size) (e := 54) (size := 8) w2 #[] 0 HB2.out.size (by decide) rfl)
  have HBO := Lib.hid (HB2.out.alloc HB2.out.size (.cells #[] 54))
  go_loopw [6, 7] (fun v i wr => ∃ (k p : Nat) (l : List Sp), p = 6 + 75 * k ∧ k ≤ N ∧ i = .int .i64 p ∧ wr.ownsRow w.heap.size 54 8 v k (flatL l) ∧ spansTo b k = .ok l ∧ RowKit.Below w.heap.size w wr) (fun _ i _ => 6 + 75 * N - (intOf i).toNat)
  case atStart => exact ⟨0, 6, [], by omega, Nat.zero_le _, rfl, HOUT.out, rfl, HBO.out⟩
  case round =>
    clear HOUT HBO
    obtain ⟨k, p, l, hp, hk, rfl, hown, hl, hbw⟩ := hrel
    generalize wr = WO at *
    have HO := Lib.hid hown; have HL := Lib.hid hl; have HW := Lib.hid hbw; have HP := Lib.hid hp; clear hown hl hbw
    by_cases hlt : k < N
    · have hpl : p + 75 ≤ b.length := by omega
      have hpn : (p : Int) < 6 + 75 * (N : Int) := by omega
      clear hp
      go_wp2_with fail
      go_loopw [8, 10, 11] (fun v kk i wx => ∃ (j q : Nat), j ≤ 6 ∧ i = .int .i64 j ∧ q = p + offs j ∧ kk = .int .i64 q ∧ wx.ownsRow WO.heap.size 52 1 v j (valL b p j) ∧ wx.ownsRow WO.heap.size 3 1 (.slice (some ⟨WO.heap.size + 1, 0, none⟩) 6 6) 6 szA.toList ∧ Apart (.slice (some ⟨WO.heap.size + 1, 0, none⟩) 6 6) v ∧ RowKit.Below WO.heap.size WO wx) (fun _ _ i _ => 6 - (intOf i).toNat)
      case atStart =>
        refine ⟨0, p, Nat.zero_le _, rfl, rfl, rfl, ?_, ?_, ?_, ?_⟩
        · exact (World.ownsRow_made WO #[] 0 (Nat.le_refl _) (by decide) rfl).alloc _
        · have h := World.ownsRow_lit (base := WO.heap.size) (e := 3) (size := 1) (WO.alloc (.cells #[] 52)) szA 6 (by simp) (by decide) rfl
          rw [World.size_alloc] at h
          exact h
        · exact .inr (.inr (by simp [Value.ownBlock]))
        · exact (box1 WO _).alloc (by simp) _
      case round =>
        obtain ⟨j, q, hj, rfl, hq, rfl, hv, hz, hap, hbx⟩ := hrel
        have HV := Lib.hid hv; have HZ := Lib.hid hz; have HAP := Lib.hid hap; have HBX := Lib.hid hbx; have HQ := Lib.hid hq; clear hv hz hap hbx
        by_cases hj6 : j < 6
        · obtain ⟨s1, s2, s3, s4, s5⟩ := szs_fact hj6
          have hcell := HZ.out.cellAt j (by omega)
          have SZ : Hid (szA.toList[j]? = some (.int .i64 (szs j : Nat))) := szA_get ⟨j, hj6⟩
          rw [SZ.out] at hcell
          have i1 : (0 : Int) ≤ (j : Int) := by omega
          have i2 : (j : Int) < 6 := by omega
          obtain ⟨G, hG⟩ : ∃ G, gN b q (szs j) = G := ⟨_, rfl⟩
          have HVS : Hid (valL b p (j + 1) = valL b p j ++ [.int .u64 (G : Nat)]) := by show _ = _; rw [valL_succ, ← hq, hG]
          have HG := Lib.hid hG; clear hG
          have hqs : q + szs j ≤ b.length := by omega
          have HO3 : Hid (q + szs j = p + offs (j + 1)) := by show _ = _; omega
          have HS5 := Lib.hid s5
          clear s3 s4 s5 hq
          generalize szs j = z at *
          go_wp2_with fail
          refine (refGet_is t q z _ b HTB.out HS5.out s1 hqs hl G HG.out).mono ?_; rintro e w4 ⟨rfl, hb4⟩
          have HV4 := Lib.hid (own_below HV.out hb4); have HZ4 := Lib.hid (own_below HZ.out hb4); have HB4 := Lib.hid (bel2 HBX.out hb4); clear hb4
          go_wp2_with (refine wpList_append_rd _ rfl (.tmp 75) (.tmp 77) 96 rfl WO.heap.size 52 j0 _ 1 8 Try.underlying96 hj0 hy0 hy1 HY2.out rfl (by omega) u8 j _ rfl (HV4.out.alloc _) _ _ 1 1 [.int .u64 (G : Nat)] rfl rfl (lit_rd w4 #[.int .u64 (G : Int)] _) (by intro u hu; rw [List.mem_singleton.1 hu]; rfl) (by unfold maxLen; omega) (by omega) (by have := HB4.out.size; simp; omega) ?_
                       intro v5 w5 hown5 hg5 hblk5
                       have hz5 := (HZ4.out.alloc (.cells #[.int .u64 (G : Int)] 52)).kept hg5 HAP.out.row
                       have hap5 := HAP.out.next (HZ4.out.alloc _) hblk5
                       have hb5 := Below.of_grown (HB4.out.alloc HB4.out.size (.cells #[.int .u64 (G : Int)] 52)) hg5 (by have := HB4.out.size; simp; omega) (fun g h => (own_shape HV4.out h).1)
                       have HO5 := Lib.hid hown5; have HZ5 := Lib.hid hz5; have HAP5 := Lib.hid hap5; have HB5 := Lib.hid hb5; clear hown5 hg5 hblk5 hap5 hb5
                       have hcell5 := hz5.cellAt j (by omega)
                       rw [SZ.out] at hcell5
                       clear hz5)
          go_roundw
          case rel => exact ⟨j + 1, q + z, by omega, by go_num, HO3.out, by go_num, by rw [HVS.out]; exact HO5.out, HZ5.out, HAP5.out, HB5.out⟩
          case measure => simp [intOf]; omega
        · obtain rfl : j = 6 := by omega
          have HQ1 : Hid (q = p + 41) := hq
          have hq2 : q + 34 ≤ b.length := by have := HQ1.out; omega
          clear hq HQ HZ HAP
          obtain ⟨o1, ho1⟩ : ∃ o, getT b (q : Int) = o := ⟨_, rfl⟩
          have HO1 := Lib.hid ho1
          clear ho1
          cases o1 with
          | none =>
            have HR : Hid (spanAt b p = .error 3) := by
              show _ = _
              have h := HO1.out; rw [HQ1.out] at h
              unfold spanAt; rw [h]
            go_wp2_with fail
            refine (refGetText_is t q b HTB.out hl _ (by omega) (by omega) none HO1.out).mono ?_; rintro e w4 ⟨rfl, hb4⟩
            go_wp2_with fail
            go_ret2
            exact SpansOut.no (by rw [HE.out]; exact spansTo_err HL.out hlt (by rw [← HP.out]; exact HR.out)) (bel2 (bel2 HW.out HBX.out) hb4)
          | some H =>
            go_wp2_with fail
            refine (refGetText_is t q b HTB.out hl _ (by omega) (by omega) (some H) HO1.out).mono ?_; rintro e w4 ⟨rfl, hb4⟩
            have HV4 := Lib.hid (own_below HV.out hb4); have HB4 := Lib.hid (bel2 HBX.out hb4); clear hb4
            obtain ⟨o2, ho2⟩ : ∃ o, getT b ((q : Int) + 17) = o := ⟨_, rfl⟩
            have HO2 := Lib.hid ho2
            clear ho2
            have HQ2 : Hid ((q : Int) + 17 = ((p + 58 : Nat) : Int)) := by show _ = _; rw [HQ1.out]; omega
            cases o2 with
            | none =>
              have HR : Hid (spanAt b p = .error 3) := by
                show _ = _
                have h := HO1.out; rw [HQ1.out] at h
                have h2 := HO2.out; rw [HQ2.out] at h2
                unfold spanAt; rw [h, h2]
              go_wp2_with fail
              refine (refGetText_is t _ b HTB.out hl _ (by omega) (by omega) none HO2.out).mono ?_; rintro e w5 ⟨rfl, hb5⟩
              go_wp2_with fail
              go_ret2
              exact SpansOut.no (by rw [HE.out]; exact spansTo_err HL.out hlt (by rw [← HP.out]; exact HR.out)) (bel2 (bel2 HW.out HB4.out) hb5)
            | some M =>
              go_wp2_with fail
              refine (refGetText_is t _ b HTB.out hl _ (by omega) (by omega) (some M) HO2.out).mono ?_; rintro e w5 ⟨rfl, hb5⟩
              have HV5 := Lib.hid (own_below HV4.out hb5); have HB5 := Lib.hid (bel2 HB4.out hb5); clear hb5
              obtain ⟨g, cap8, rfl⟩ : ∃ g cap8, u8 = .slice (some ⟨g, 0, none⟩) 6 cap8 := by
                obtain ⟨a8, c8, rfl, _, _, hx⟩ := own_slice HV5.out
                obtain ⟨g, rfl, _⟩ := hx (by omega)
                exact ⟨g, c8, rfl⟩
              have hgl : g < w5.heap.size := (own_shape HV5.out rfl).2.1
              have cl := fun (i : Nat) (h : i < 6) => HV5.out.cellAt i (by omega)
              obtain ⟨A, hA⟩ : ∃ A, gN b p 8 = A := ⟨_, rfl⟩
              obtain ⟨B, hB⟩ : ∃ B, gN b (p + 8) 8 = B := ⟨_, rfl⟩
              obtain ⟨C, hC⟩ : ∃ C, gN b (p + 16) 8 = C := ⟨_, rfl⟩
              obtain ⟨K, hK⟩ : ∃ K, gN b (p + 24) 1 = K := ⟨_, rfl⟩
              obtain ⟨S, hS⟩ : ∃ S, gN b (p + 25) 8 = S := ⟨_, rfl⟩
              obtain ⟨D, hD⟩ : ∃ D, gN b (p + 33) 8 = D := ⟨_, rfl⟩
              have c0 : w5.cell? ⟨g, 0, none⟩ = some (.int .u64 (A : Int)) := by rw [← hA]; exact cl 0 (by omega)
              have c1 : w5.cell? ⟨g, 1, none⟩ = some (.int .u64 (B : Int)) := by rw [← hB]; exact cl 1 (by omega)
              have c2 : w5.cell? ⟨g, 2, none⟩ = some (.int .u64 (C : Int)) := by rw [← hC]; exact cl 2 (by omega)
              have c3 : w5.cell? ⟨g, 3, none⟩ = some (.int .u64 (K : Int)) := by rw [← hK]; exact cl 3 (by omega)
              have c4 : w5.cell? ⟨g, 4, none⟩ = some (.int .u64 (S : Int)) := by rw [← hS]; exact cl 4 (by omega)
              have c5 : w5.cell? ⟨g, 5, none⟩ = some (.int .u64 (D : Int)) := by rw [← hD]; exact cl 5 (by omega)
              have hKl : K < 256 := by rw [← hK]; exact gN_lt b (p + 24) 1
              have hKw : IntKind.u8.wrap (K : Int) = (K : Int) := IntWalk.u8_in _ ⟨by omega, by omega⟩
              obtain ⟨st, hst⟩ : ∃ st, IntKind.i64.wrap (S : Int) = st := ⟨_, rfl⟩
              obtain ⟨du, hdu⟩ : ∃ du, IntKind.i64.wrap (D : Int) = du := ⟨_, rfl⟩
              have HF : Hid (spanAt b p = if mayB ⟨A, B, C, K, bs H, bs M, st, du⟩ = true then .ok ⟨A, B, C, K, bs H, bs M, st, du⟩ else .error 4) := by
                show _ = _
                have h := HO1.out; rw [HQ1.out] at h
                have h2 := HO2.out; rw [HQ2.out] at h2
                unfold spanAt; rw [h, h2]; simp only []
                rw [hA, hB, hC, hK, hS, hD, hst, hdu]
              have tx1 : txt (some H) = bs H := rfl
              have tx2 : txt (some M) = bs M := rfl
              clear cl hA hB hC hK hS hD
              rw [tx1, tx2]
              clear tx1 tx2
              go_wp2_with fail
              have k0 : ∀ w', RowKit.Below w5.heap.size w5 w' → w'.cell? ⟨g, 0, none⟩ = some (.int .u64 (A : Int)) := fun w' h => (h.cell (p := ⟨g, 0, none⟩) hgl).trans c0
              have k1 : ∀ w', RowKit.Below w5.heap.size w5 w' → w'.cell? ⟨g, 1, none⟩ = some (.int .u64 (B : Int)) := fun w' h => (h.cell (p := ⟨g, 1, none⟩) hgl).trans c1
              have k2 : ∀ w', RowKit.Below w5.heap.size w5 w' → w'.cell? ⟨g, 2, none⟩ = some (.int .u64 (C : Int)) := fun w' h => (h.cell (p := ⟨g, 2, none⟩) hgl).trans c2
              have k3 : ∀ w', RowKit.Below w5.heap.size w5 w' → w'.cell? ⟨g, 3, none⟩ = some (.int .u64 (K : Int)) := fun w' h => (h.cell (p := ⟨g, 3, none⟩) hgl).trans c3
              have k4 : ∀ w', RowKit.Below w5.heap.size w5 w' → w'.cell? ⟨g, 4, none⟩ = some (.int .u64 (S : Int)) := fun w' h => (h.cell (p := ⟨g, 4, none⟩) hgl).trans c4
              have k5 : ∀ w', RowKit.Below w5.heap.size w5 w' → w'.cell? ⟨g, 5, none⟩ = some (.int .u64 (D : Int)) := fun w' h => (h.cell (p := ⟨g, 5, none⟩) hgl).trans c5
              clear c0 c1 c2 c3 c4 c5
              go_region_held_law (fun w' => RowKit.Below w5.heap.size w5 w') (first | assumption | exact Below_drew (Below.refl _ _) | exact (Below_drew (Below.refl _ _)).alloc (by simp) _) (fail)
              clear k0 k1 k2 k3 k4 k5
              clear hst hdu
              have hH := (getT_back (l := b) (h := H) (p := p + 41) (by omega) (by have h := HO1.out; rw [HQ1.out] at h; exact h)).2
              have hM := (getT_back (l := b) (h := M) (p := p + 58) (by omega) (by have h := HO2.out; rw [HQ2.out] at h; exact h)).2
              have HHs : Hid ((bs H).size ≤ maxLen) := by show _ ≤ _; rw [bs_size]; unfold maxLen; omega
              have HMs : Hid ((bs M).size ≤ maxLen) := by show _ ≤ _; rw [bs_size]; unfold maxLen; omega
              clear hH hM hKw
              obtain ⟨X, hX⟩ : ∃ X : Sp, X = ⟨A, B, C, K, bs H, bs M, st, du⟩ := ⟨_, rfl⟩
              have HBX6 := Lib.hid (Box.new w5 X 54)
              have hB6 := (bel2 (box1 w5 (.cells X.c 54)) (Below_drew (Below.refl _ _)))
              rw [hX] at hB6
              have HB6 := Lib.hid hB6
              clear hB6
              have HX := Lib.hid hX
              rw [← hX] at HF
              clear hX
              cases hm : mayB X
              case false =>
                have HR : Hid (spanAt b p = .error 4) := by show _ = _; rw [HF.out, hm]; rfl
                have HM := Lib.hid hm; clear hm
                go_wp2_with fail
                refine (refMay_is (s := ⟨A, B, C, K, bs H, bs M, st, du⟩) (b := false) (by rw [← HX.out]; exact HM.out) _ HHs.out HMs.out (Int.natCast_nonneg _)).mono ?_; rintro e w7 ⟨rfl, hb7⟩
                go_wp2_with fail
                go_ret2
                exact SpansOut.no (by rw [HE.out]; exact spansTo_err HL.out hlt (by rw [← HP.out]; exact HR.out)) (bel2 (bel2 (bel2 HW.out HB5.out) HB6.out) hb7)
              case true =>
                have HR : Hid (spanAt b p = .ok X) := by show _ = _; rw [HF.out, hm]; rfl
                have HM := Lib.hid hm; clear hm
                go_wp2_with fail
                refine (refMay_is (s := ⟨A, B, C, K, bs H, bs M, st, du⟩) (b := true) (by rw [← HX.out]; exact HM.out) _ HHs.out HMs.out (Int.natCast_nonneg _)).mono ?_; rintro e w7 ⟨rfl, hb7⟩
                have hbox : Box w7 w5.heap.size ⟨A, B, C, K, bs H, bs M, st, du⟩ := by
                  have h := HBX6.out
                  rw [HX.out] at h
                  exact Box.below (B := (w5.alloc (.cells (⟨A, B, C, K, bs H, bs M, st, du⟩ : Sp).c 54)).heap.size) h ((Below_drew (Below.refl _ _)).trans hb7) (by simp)
                obtain ⟨d0, d1, d2, d3, d4, d5, d6, d7⟩ := hbox.all
                have HB7 := Lib.hid (bel2 (bel2 HB5.out HB6.out) hb7)
                have HO7 := Lib.hid (own_below HO.out HB7.out)
                have HW7 := Lib.hid (bel2 HW.out HB7.out)
                clear hb7 hbox
                go_wp2_with (refine wpList_append_rd _ rfl (.tmp 129) (.tmp 131) 46 rfl w.heap.size 54 i0 _ 8 80 Try.underlying46 hi0 hz0 hz1 HZ2.out rfl (by omega) u6 k _ rfl (HO7.out.alloc _) _ _ 1 1 (flatL [⟨A, B, C, K, bs H, bs M, st, du⟩]) rfl rfl (lit_rd w7 (⟨A, B, C, K, bs H, bs M, st, du⟩ : Sp).c _) (flatL_one _) (by unfold maxLen; omega) (by omega) (by have := HW7.out.size; simp; omega) ?_
                             intro v8 w8 hown8 hg8 _
                             have hb8 := Below.of_grown (HW7.out.alloc HW7.out.size (.cells (⟨A, B, C, K, bs H, bs M, st, du⟩ : Sp).c 54)) hg8 (by have := HW7.out.size; simp; omega) (fun g h => (own_shape HO7.out h).1)
                             have HO8 := Lib.hid hown8; have HB8 := Lib.hid hb8; clear hown8 hg8 hb8)
                go_roundw
                case rel => exact ⟨k + 1, p + 75, l ++ [⟨A, B, C, K, bs H, bs M, st, du⟩], by rw [HP.out]; omega, by omega, by go_num, by rw [flatL_append]; exact HO8.out, spansTo_next HL.out (by rw [← HP.out, HR.out, HX.out]), HB8.out⟩
                case measure => show 6 + 75 * N - ((p : Int) + 75).toNat < 6 + 75 * N - (p : Int).toNat; omega
    · have : k = N := by omega
      subst this
      obtain ⟨a6, c6, rfl, hx1, hx2, _⟩ := own_slice HO.out
      have hkl : k = l.length := by have h := HO.out.1; rw [flatL_length] at h; omega
      have HX1 := Lib.hid hx1; have HX2 := Lib.hid hx2; have HKL := Lib.hid hkl; clear hx1 hx2 hkl
      go_wp2_with fail
      go_ret2
      rw [HE.out, HL.out]
      exact ⟨a6, c6, by rw [show (lstW (Except.ok (ε := Nat) l)).length = k from HKL.out.symm]; rfl, by show l.length ≤ c6; rw [← HKL.out]; exact HX1.out, HX2.out, Rd.own HO.out, HW.out⟩
/-- What Put answers: the batch's bytes, or none, and the error's number. -/
def putB (L : List Sp) : List UInt8 := if mayL L = true then batchL L else []
def PutOut (w : World) (L : List Sp) (e : Ending) (w' : World) : Prop :=
  ∃ a c, e = .returned (.tuple #[.slice a (putB L).length c, .int .i64 (putErr L)]) ∧ (putB L).length ≤ c ∧ c ≤ maxLen ∧ Rd w' w'.heap.size a (bV (putB L)) ∧ Below w.heap.size w w'
theorem putB_no {L : List Sp} (h : mayL L = false) : putB L = [] ∧ putErr L = 1 ∧ putStr L = ByteArray.empty := by simp [putB, putErr, putStr, h]
theorem putB_yes {L : List Sp} (h : mayL L = true) : putB L = batchL L ∧ putErr L = 0 ∧ putStr L = bs (batchL L) := by simp [putB, putErr, putStr, h]
theorem putStr_bs (L : List Sp) : bs (putB L) = putStr L := by
  cases h : mayL L
  · rw [(putB_no h).1, (putB_no h).2.2]; rfl
  · rw [(putB_yes h).1, (putB_yes h).2.2]
theorem putB_le {L : List Sp} : (putB L).length ≤ 2406 := by
  cases h : mayL L
  · rw [(putB_no h).1]; simp
  · rw [(putB_yes h).1, batchL_length h]; have := (mayL_iff.1 h).2.1; omega
end Go.Proofs.Ytkaafjcfcknbpaa

