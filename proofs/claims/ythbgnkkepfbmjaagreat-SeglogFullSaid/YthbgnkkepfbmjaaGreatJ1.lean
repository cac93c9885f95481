import Derived.Test.YthbgnkkepfbmjaaGreatJz
import Derived.Test.YthbgnkkepfbmjaaGreatJm
import Derived.Deep.DeepCutAuto
import Derived.Test.YthbgnkkepfbmjaaGreatJv
namespace Go.Proofs.YthbgnkkepfbmjaaGreat
open Go Go.RowKit Go.Sort

/-! The bytes that an op appends. -/
def opV (k : Int) (sa : Option Addr) (n sc : Nat) (sz : Int) (fa : Option Addr) (nf fc : Nat) : Value := .agg #[.int .i64 k, .slice sa n sc, .int .i64 sz, .slice fa nf fc]
set_option maxRecDepth 20000 in
set_option maxHeartbeats 1000000 in
theorem opBody_any (k : Int) (sa : Option Addr) (n sc : Nat) (sz : Int) (fa : Option Addr) (nf fc : Nat) (L : List Sp) (w : World) (hn : n = L.length) (hr : Rd w w.heap.size sa (flatL L)) (hl : L.length ≤ 60) (ok : ∀ s ∈ L, s.Ok) :
    Calls Tryz.prog 47 #[opV k sa n sc sz fa nf fc] w fun e w' => ∃ g c, e = .returned (.slice (some ⟨g, 0, none⟩) (putB L).length c) ∧ (putB L).length ≤ c ∧ c ≤ maxLen ∧ w.heap.size ≤ g ∧ g < w'.heap.size ∧ w'.rangeAt g 0 (bV (putB L)) ∧ Below w.heap.size w w' := by
  subst hn
  have HR := Lib.hid hr; have OK := Lib.hid ok
  have hS : putStr L = bs (putB L) := (putStr_bs L).symm
  have HS := Lib.hid hS
  have kb := fun (w : World) (S : ByteArray) => run_bytes_of_string (P := Tryz.prog) w 9 38 5 S Tryz.underlying9 Tryz.underlying38 Tryz.underlying5
  clear hr ok hS
  unfold opV
  go_enter Tryz.func47, Tryz.ntmps47
  go_wp2_with fail
  refine (refPutL_any sa sc L _ ((HR.out.below (box1 w _)).more (box1 w _).size) (by unfold maxLen; omega) OK.out).mono ?_; rintro e w1 ⟨rfl, hb1⟩
  have HB1 := Lib.hid (bel2 (box1 w _) hb1)
  clear hb1
  rw [HS.out]
  obtain ⟨S, hSS⟩ : ∃ S, S = bs (putB L) := ⟨_, rfl⟩
  have HSS := Lib.hid hSS
  rw [← hSS]
  have hsz : S.size ≤ 2406 := by rw [hSS, bs_size]; exact putB_le
  clear hSS
  go_wp2_with fail
  go_ret
  obtain ⟨hra, hth⟩ := alloc_bytes w1 S (grownCap w1 S.size 0 5) ((bytesRow S (grownCap w1 S.size 0 5)).size, (bytesRow S (grownCap w1 S.size 0 5)).size + 1) (by unfold bytesRow; simp)
  have hSl : S.size = (putB L).length := by rw [HSS.out, bs_size]
  have hSd : S.data.toList = putB L := by rw [HSS.out, bs_toList]
  refine ⟨w1.heap.size, grownCap w1 S.size 0 5, by rw [← hSl]; rfl, by rw [← hSl]; exact grownCap_ge _ _ _ _, grownCap_le_maxLen _ _ _ _ (by unfold maxLen; omega), HB1.out.size, by simp, ?_, Below_drew (HB1.out.alloc HB1.out.size _)⟩
  rw [← hSd]
  exact (World.rangeAt_drew _ _ _ _).2 hra
end Go.Proofs.YthbgnkkepfbmjaaGreat

namespace Go.Proofs.YthbgnkkepfbmjaaGreat
open Go Go.RowKit Go.Sort

/-! The law's ops, and whether they are more than is gone through. -/
structure OpM where
  kind : Int
  sa : Option Addr
  sc : Nat
  sp : List Sp
  size : Int
  fa : Option Addr
  fc : Nat
  ft : List Ft
def OpM.l (x : OpM) : List Value := [.int .i64 x.kind, .slice x.sa x.sp.length x.sc, .int .i64 x.size, .slice x.fa x.ft.length x.fc]
theorem OpM.len (x : OpM) : x.l.length = 4 := rfl
/-- What an op's spans are, in a world. -/
def OpAt (w : World) (x : OpM) : Prop := Rd w w.heap.size x.sa (flatL x.sp) ∧ x.sp.length ≤ x.sc ∧ x.sc ≤ maxLen ∧ (∀ s ∈ x.sp, s.Ok) ∧ x.ft.length ≤ x.fc ∧ x.fc ≤ maxLen
theorem OpAt.below {w w' : World} {x : OpM} (h : OpAt w x) (hb : Below w.heap.size w w') : OpAt w' x := ⟨(h.1.below hb).more hb.size, h.2⟩
def great8 (x : OpM) : Bool := greatB x.sp || (decide (4 < x.sp.length) || decide (40 < x.ft.length))
def greatO (L : List OpM) : Bool := decide (60 < L.length) || L.any great8
theorem great8_le {x : OpM} (h : great8 x = false) : greatB x.sp = false ∧ x.sp.length ≤ 4 ∧ x.ft.length ≤ 40 := by
  simp [great8] at h; exact ⟨h.1, h.2.1, h.2.2⟩
theorem greatO_no {L : List OpM} (h : greatO L = false) : L.length ≤ 60 ∧ ∀ x ∈ L, great8 x = false := by
  simp only [greatO, Bool.or_eq_false_iff, decide_eq_false_iff_not] at h
  refine ⟨by omega, fun x hx => ?_⟩
  cases hg : great8 x
  · rfl
  · have : L.any great8 = true := List.any_eq_true.2 ⟨x, hx, hg⟩
    rw [h.2] at this; cases this
theorem any8_take {L : List OpM} {k : Nat} (h : k < L.length) : (L.take (k + 1)).any great8 = ((L.take k).any great8 || great8 L[k]) := by
  rw [← List.take_append_getElem h, List.any_append]; simp
theorem op_elem {w : World} {B : Nat} {a : Option Addr} {L : List OpM} (h : Rd w B a (flatG OpM.l L)) {i : Nat} (hi : i < L.length) : ∃ b off, a = some ⟨b, off, none⟩ ∧ b < B ∧
    w.cell? ⟨b, off + i * 4, none⟩ = some (.int .i64 L[i].kind) ∧ w.cell? ⟨b, off + i * 4 + 1, none⟩ = some (.slice L[i].sa L[i].sp.length L[i].sc) ∧ w.cell? ⟨b, off + i * 4 + 2, none⟩ = some (.int .i64 L[i].size) ∧ w.cell? ⟨b, off + i * 4 + 3, none⟩ = some (.slice L[i].fa L[i].ft.length L[i].fc) := by
  obtain ⟨b, off, ha, hb, hc⟩ := Rd.elemG (enc := OpM.l) (m := 4) (fun _ => rfl) (by omega) h hi
  exact ⟨b, off, ha, hb, hc 0 _ rfl, hc 1 _ rfl, hc 2 _ rfl, hc 3 _ rfl⟩
theorem great7_is {L : List Sp} {b : Bool} (h : greatB L = b) (a : Option Addr) (n c : Nat) (w : World) (hn : n = L.length) (hr : Rd w w.heap.size a (flatL L)) (hl : L.length ≤ maxLen) (ok : ∀ s ∈ L, s.Ok) :
    Calls Tryz.prog 44 #[.slice a n c] w fun e w' => e = .returned (.bool b) ∧ Below w.heap.size w w' := by
  subst hn; exact great_is h a c w hr hl ok
set_option maxRecDepth 20000 in
set_option maxHeartbeats 2000000 in
theorem greatO_any (a : Option Addr) (n c : Nat) (L : List OpM) (w : World) (hn : n = L.length) (hr : Rd w w.heap.size a (flatG OpM.l L)) (hat : ∀ x ∈ L, OpAt w x) (hl : n ≤ maxLen) :
    Calls Tryz.prog 15 #[.slice a n c] w fun e w' => e = .returned (.bool (greatO L)) ∧ Below w.heap.size w w' := by
  have HN := Lib.hid hn; have HR := Lib.hid hr; have HAT := Lib.hid hat
  unfold maxLen at hl
  clear hn hr hat
  by_cases hlong : 60 < n
  · have HE : Hid (greatO L = true) := by show _ = _; unfold greatO; rw [decide_eq_true (by rw [← HN.out]; exact hlong), Bool.true_or]
    go_enter Tryz.func15, Tryz.ntmps15
    go_wp2_with fail
    go_ret
    exact ⟨ret_bool HE.out.symm, Below.refl _ _⟩
  have HE : Hid (greatO L = L.any great8) := by show _ = _; unfold greatO; rw [decide_eq_false (by rw [← HN.out]; exact hlong), Bool.false_or]
  go_enter Tryz.func15, Tryz.ntmps15
  go_wp2_with fail
  go_loopw [10] (fun i wr => ∃ j : Nat, j ≤ n ∧ i = .int .i64 j ∧ (L.take j).any great8 = false ∧ Below w.heap.size w wr) (fun i _ => n - (intOf i).toNat)
  case atStart => exact ⟨0, Nat.zero_le _, rfl, rfl, Below.refl _ _⟩
  case round =>
    obtain ⟨j, hj, rfl, hany, hb⟩ := hrel
    have HANY := Lib.hid hany; have HB := Lib.hid hb
    clear hany
    by_cases hlt : j < n
    · have hjL : j < L.length := by rw [← HN.out]; exact hlt
      have HT := Lib.hid (any8_take hjL)
      obtain ⟨b, off, rfl, hbl, q0, q1, q2, q3⟩ := op_elem (HR.out.below hb) hjL
      obtain ⟨x, hx⟩ : ∃ x, L[j] = x := ⟨_, rfl⟩
      have hxm : x ∈ L := by rw [← hx]; exact List.getElem_mem _
      rw [hx] at q0 q1 q2 q3 HT
      have HX := Lib.hid ((HAT.out x hxm).below hb)
      have HALL : Hid (∀ hg : great8 x = true, L.any great8 = true) := fun hg => List.any_eq_true.2 ⟨x, hxm, hg⟩
      obtain ⟨ns, hns⟩ : ∃ ns, ns = x.sp.length := ⟨_, rfl⟩
      obtain ⟨nf, hnf⟩ : ∃ nf, nf = x.ft.length := ⟨_, rfl⟩
      rw [← hns] at q1
      rw [← hnf] at q3
      have HNS := Lib.hid hns; have HNF := Lib.hid hnf; have HLT := Lib.hid hlt
      have i1 : (0 : Int) ≤ (j : Int) := by omega
      have i2 : (j : Int) < (n : Int) := by omega
      have HB2 := Lib.hid (HB.out.alloc HB.out.size (.cells #[.int .i64 x.kind, .slice x.sa ns x.sc, .int .i64 x.size, .slice x.fa nf x.fc] 100))
      have HX2 := Lib.hid (HX.out.below (box1 wr (.cells #[.int .i64 x.kind, .slice x.sa ns x.sc, .int .i64 x.size, .slice x.fa nf x.fc] 100)))
      have HRG : Hid ((wr.alloc (.cells #[.int .i64 x.kind, .slice x.sa ns x.sc, .int .i64 x.size, .slice x.fa nf x.fc] 100)).rangeAt wr.heap.size 0 [.int .i64 x.kind, .slice x.sa ns x.sc, .int .i64 x.size, .slice x.fa nf x.fc]) := rangeAt_last wr _ _ _ rfl
      clear hb hx hxm hns hnf hlt
      obtain ⟨g, hg⟩ : ∃ g, greatB x.sp = g := ⟨_, rfl⟩
      have HG := Lib.hid hg
      clear hg
      go_wp2_with fail
      refine (great7_is HG.out x.sa ns x.sc _ HNS.out HX2.out.1 (Nat.le_trans HX2.out.2.1 HX2.out.2.2.1) HX2.out.2.2.2.1).mono ?_; rintro e w3 ⟨rfl, hb3⟩
      have HB3 := Lib.hid (bel2 HB2.out hb3)
      have s1 := range_below HRG.out hb3 (by simp) 1 _ rfl
      have s3 := range_below HRG.out hb3 (by simp) 3 _ rfl
      rw [Nat.zero_add] at s1 s3
      clear hb3
      by_cases hbig : great8 x = true
      · have HE2 : Hid (greatO L = true) := by show _ = _; rw [HE.out]; exact HALL.out hbig
        cases g with
        | true =>
          go_wp2_with fail
          go_ret
          exact ⟨ret_bool HE2.out.symm, HB3.out⟩
        | false =>
          by_cases h4 : 4 < ns
          · go_wp2_with fail
            go_ret
            exact ⟨ret_bool HE2.out.symm, HB3.out⟩
          · have h40 : 40 < nf := by
              have h := hbig
              unfold great8 at h
              rw [HG.out, ← HNS.out, ← HNF.out] at h
              simp [h4] at h
              omega
            clear hbig
            go_wp2_with fail
            go_ret
            exact ⟨ret_bool HE2.out.symm, HB3.out⟩
      · have hbf : great8 x = false := by simpa using hbig
        obtain ⟨g1, g2, g3⟩ := great8_le hbf
        rw [HG.out] at g1
        subst g1
        rw [← HNS.out] at g2
        rw [← HNF.out] at g3
        have h4 : ¬ (4 < ns) := by omega
        have h40 : ¬ (40 < nf) := by omega
        rw [hbf] at HT
        clear hbig hbf g2 g3
        go_wp2_with fail
        go_roundw
        case rel => exact ⟨j + 1, HLT.out, by go_num, by rw [HT.out, HANY.out]; rfl, HB3.out⟩
        case measure => have := HLT.out; simp [intOf]; omega
    · have : j = n := by omega
      subst this
      have HF : Hid (L.any great8 = false) := by
        show _ = _
        have h := HANY.out
        rwa [List.take_of_length_le (by rw [HN.out]; exact Nat.le_refl _)] at h
      go_wp2_with fail
      go_ret
      exact ⟨ret_bool (by rw [HE.out, HF.out]), HB.out⟩
end Go.Proofs.YthbgnkkepfbmjaaGreat

namespace Go.Proofs.YthbgnkkepfbmjaaGreat
open Go Go.RowKit Go.Sort

/-! The law's model without its first segment. -/
theorem MdN.tail {U : Nat → Prop} {w : World} {a : Option Addr} {c N : Nat} {R : List Rw} (h : MdN U w a c R N) (h0 : 0 < R.length) : ∃ b off, a = some ⟨b, off, none⟩ ∧ MdN U w (some ⟨b, off + 1, none⟩) (c - 1) (R.drop 1) N := by
  obtain ⟨b, off, rfl, hlt, hn, hc⟩ := h.rd (by rw [flat_v, List.length_map]; exact h0)
  refine ⟨b, off, rfl, ⟨fun _ => ⟨b, off + 1, rfl, hlt, hn, fun j u hu => ?_⟩, by rw [List.length_drop]; have := h.le; omega, by have := h.cm; omega, fun x hx => h.rows x (List.mem_of_mem_drop hx), by rw [List.length_drop]; have := h.few; omega, fun x hx => h.small x (List.mem_of_mem_drop hx)⟩⟩
  rw [flat_v, List.map_drop, List.getElem?_drop, ← flat_v] at hu
  have := hc (1 + j) u hu
  rwa [← Nat.add_assoc] at this
theorem MB.range {w : World} {b f : Nat} {K s : Int} {v : Value} {t : ByteArray} {k : Bool} (h : MB w b K f v s t k) : w.rangeAt b 0 [.int .i64 K, .int .u32 (f : Int), v, .int .i64 s, .string t, .bool k] := fun j u hu => by
  rw [Nat.zero_add]; exact h.cell j (by simpa [mdV] using hu)
set_option maxRecDepth 20000 in
set_option maxHeartbeats 2000000 in
theorem mdExpired_any {U : Nat → Prop} {K : Int} {f : Nat} {a : Option Addr} {c : Nat} {s : Int} {t : ByteArray} {kk : Bool} {R : List Rw} {N : Nat} (w : World) (h : MdN U w a c R N) (_hf : f < 4294967296) (h0 : 0 < R.length) (_hN : N ≤ 1000) :
    Calls Tryz.prog 51 #[.agg (mdV K f (.slice a R.length c) s t kk)] w fun e w' => (∃ f2 s2 a2 c2 R2, e = .returned (.agg (mdV K f2 (.slice a2 R2.length c2) s2 t kk)) ∧ f2 < 4294967296 ∧ MdN U w' a2 c2 R2 N) ∧ Below w.heap.size w w' := by
  have HM := Lib.hid h
  obtain ⟨b, off, rfl, ht⟩ := h.tail h0
  have HT := Lib.hid ht
  obtain ⟨b2, off2, hab, hbl, hcell⟩ := h.elem h0
  obtain ⟨rfl, rfl⟩ : b = b2 ∧ off = off2 := by injection hab with e; injection e; exact ⟨by assumption, by assumption⟩
  obtain ⟨x, hx⟩ : ∃ x, R[0] = x := ⟨_, rfl⟩
  rw [hx] at hcell
  have hxs := h.small x (by rw [← hx]; exact List.getElem_mem _)
  have hle := h.le
  have hcm := h.cm
  unfold maxLen at hcm
  obtain ⟨n, hn⟩ : ∃ n, n = R.length := ⟨_, rfl⟩
  have HN := Lib.hid hn
  have hfew := h.few
  rw [← hn] at hfew h0 hle ⊢
  obtain ⟨nx, hnx⟩ : ∃ nx, nx = x.vs.length := ⟨_, rfl⟩
  rw [← hnx] at hcell hxs
  clear hn hx hnx h ht hab
  rw [Nat.add_zero] at hcell
  unfold mdV
  obtain ⟨v, hv⟩ : ∃ v, v = (w.alloc (.cells #[.int .i64 K, .int .u32 (f : Int), .slice (some ⟨b, off, none⟩) n c, .int .i64 s, .string t, .bool kk] 57)).alloc (.cells #[.int .i64 0, .int .u32 0, .slice none 0 0, .int .i64 0, .string ⟨#[]⟩, .bool false] 57) := ⟨_, rfl⟩
  have HBV : Hid (Below w.heap.size w v) := by show Below _ _ _; rw [hv]; exact (box1 w _).alloc (by simp) _
  have HMB : Hid (MB v w.heap.size K f (.slice (some ⟨b, off, none⟩) n c) s t kk) := by show MB _ _ _ _ _ _ _ _; rw [hv]; exact MB.alloc (show MB (w.alloc _) _ _ _ _ _ _ _ from heap_alloc_new w _) _
  have HTV : Hid (v.there (w.heap.size + 1) 0 6) := by show v.there _ _ _; rw [hv]; exact there_last _ _ _ _ _ rfl (by simp)
  have HVS : Hid (v.heap.size = w.heap.size + 2) := by show _ = _; rw [hv]; simp
  have k2 : ∀ (d : Nat) (os : Array Obj), (grow (redrawn v d) os).cell? ⟨w.heap.size, 2, none⟩ = some (.slice (some ⟨b, off, none⟩) n c) := fun d os => (HMB.out.below (below_regrown v d os) HMB.out.lt).cell 2 rfl
  have k3 : ∀ (d : Nat) (os : Array Obj), (grow (redrawn v d) os).cell? ⟨w.heap.size, 3, none⟩ = some (.int .i64 s) := fun d os => (HMB.out.below (below_regrown v d os) HMB.out.lt).cell 3 rfl
  have kr : ∀ (d : Nat) (os : Array Obj), (grow (redrawn v d) os).cell? ⟨b, off, none⟩ = some (.slice x.a nx x.c) := fun d os => by
    rw [(below_regrown v d os).cell (p := ⟨b, off, none⟩) (by rw [HVS.out]; show b < _; omega), HBV.out.cell (p := ⟨b, off, none⟩) hbl]; exact hcell
  have i0 : (0 : Int) < (n : Int) := by omega
  go_enter Tryz.func51, Tryz.ntmps51
  go_wp2_with fail
  rw [← hv]
  clear hv
  refine wp_region_below_tail 9 (by kernel_rfl) (by kernel_rfl) ?_
  simp only [List.take_succ_cons, List.take_zero, List.drop_succ_cons, List.drop_zero]
  iterate 9 (first | go_big_quiet_step (fail) | fail)
  refine wpQuiet_nil ?_
  intro w3 hw'
  obtain ⟨⟨d, os⟩, hw''⟩ := hw'
  have hb3 := below_regrown v d os
  rw [← hw''] at hb3
  clear hw'' k2 k3 kr
  have hm3 := HMB.out.below hb3 HMB.out.lt
  have HB3 := Lib.hid (HBV.out.trans (hb3.mono HBV.out.size)); have HT3 := Lib.hid (there_below HTV.out hb3 (by rw [HVS.out]; omega))
  have c3 := hm3.cell 3 (u := .int .i64 s) rfl
  have f3 := hm3.fz 3
  have HM3 := Lib.hid hm3
  clear hb3 hm3
  obtain ⟨S2, hS2⟩ : ∃ S2, wrap64 (s - (nx : Int)) = S2 := ⟨_, rfl⟩
  obtain ⟨F2, hF2⟩ : ∃ F2, F2 = (f + 1) % 4294967296 := ⟨_, rfl⟩
  have hFi : ((f : Int) + 1) % 4294967296 = (F2 : Int) := by omega
  have HF2 : F2 < 4294967296 := by omega
  have j1 : (1 : Int) ≤ (n : Int) := by omega
  have j2 : (n : Int) ≤ (c : Int) := by omega
  clear hF2
  by_cases hc1 : c - 1 = 0
  · have hn1 : n = 1 := by omega
    have HN1 := Lib.hid hn1
    have hnz : n - 1 = 0 := by omega
    clear hn1
    have hm4 := HM3.out.set3 S2
    have d2 := hm4.cell 2 (u := .slice (some ⟨b, off, none⟩) n c) rfl
    have d2f := hm4.fz 2
    have hm5 := hm4.set2 (.slice (some ⟨b, off, none⟩) 0 0)
    have d1 := hm5.cell 1 (u := .int .u32 (f : Int)) rfl
    have d1f := hm5.fz 1
    have hm6 : MB (((w3.setCell ⟨w.heap.size, 3, none⟩ (.int .i64 S2)).setCell ⟨w.heap.size, 2, none⟩ (.slice (some ⟨b, off, none⟩) 0 0)).setCell ⟨w.heap.size, 1, none⟩ (.int .u32 (F2 : Int))) w.heap.size K F2 (.slice (some ⟨b, off, none⟩) 0 0) S2 t kk := hm5.set1 F2
    have hT6 : (((w3.setCell ⟨w.heap.size, 3, none⟩ (.int .i64 S2)).setCell ⟨w.heap.size, 2, none⟩ (.slice (some ⟨b, off, none⟩) 0 0)).setCell ⟨w.heap.size, 1, none⟩ (.int .u32 (F2 : Int))).there (w.heap.size + 1) 0 6 := there_set (there_set (there_set HT3.out))
    have hB6 : Below w.heap.size w (((w3.setCell ⟨w.heap.size, 3, none⟩ (.int .i64 S2)).setCell ⟨w.heap.size, 2, none⟩ (.slice (some ⟨b, off, none⟩) 0 0)).setCell ⟨w.heap.size, 1, none⟩ (.int .u32 (F2 : Int))) := ((HB3.out.setCell (p := ⟨w.heap.size, 3, none⟩) (Nat.le_refl _) _).setCell (p := ⟨w.heap.size, 2, none⟩) (Nat.le_refl _) _).setCell (p := ⟨w.heap.size, 1, none⟩) (Nat.le_refl _) _
    have e2 := hm6.cell 2 (u := .slice (some ⟨b, off, none⟩) 0 0) rfl
    obtain ⟨w6, hw6⟩ : ∃ w6, w6 = (((w3.setCell ⟨w.heap.size, 3, none⟩ (.int .i64 S2)).setCell ⟨w.heap.size, 2, none⟩ (.slice (some ⟨b, off, none⟩) 0 0)).setCell ⟨w.heap.size, 1, none⟩ (.int .u32 (F2 : Int))) := ⟨_, rfl⟩
    rw [← hw6] at hm6 hT6 hB6
    have HM6 := Lib.hid hm6; have HT6 := Lib.hid hT6; have HB6 := Lib.hid hB6
    clear hm4 hm5 hm6 hT6 hB6
    go_upto_if 23 with fail
    rw [← hw6]
    clear hw6 d2 d2f d1 d1f e2 c3 f3
    have e1 := HM6.out.cell 1 (u := .int .u32 (F2 : Int)) rfl
    have e1f := HM6.out.fz 1
    go_cut [23] (fun s23 wc => ∃ F3 : Nat, F3 < 4294967296 ∧ MB wc w.heap.size K F3 (.slice (some ⟨b, off, none⟩) 0 0) S2 t kk ∧ wc.there (w.heap.size + 1) 0 6 ∧ Below w.heap.size w wc)
    case first =>
      go_wp2_with fail
      go_meet
      case rel => exact ⟨0, by omega, HM6.out.set1 0, there_set HT6.out, HB6.out.setCell (p := ⟨w.heap.size, 1, none⟩) (Nat.le_refl _) _⟩
    case rest =>
      obtain ⟨F3, hF3, hMB, hTc, hBc⟩ := hcut
      have HR := Lib.hid hMB.range; have HTC := Lib.hid hTc; have HBC := Lib.hid hBc
      clear hMB hTc hBc e1 e1f
      go_wp2_with (first
        | (refine wpList_load_mid rfl 57 (.tmp 1) rfl w.heap.size 0 rfl [.int .i64 K, .int .u32 (F3 : Int), .slice (some ⟨b, off, none⟩) 0 0, .int .i64 S2, .string t, .bool kk] _ HR.out Tryz.underlying57 rfl size_md ?_)
        | (refine wpList_store_mid rfl 57 (.tmp 2) (.tmp 25) rfl (w.heap.size + 1) 0 #[.int .i64 K, .int .u32 (F3 : Int), .slice (some ⟨b, off, none⟩) 0 0, .int .i64 S2, .string t, .bool kk] rfl rfl HTC.out size_md (by simp [Value.oneCell']) ?_))
      refine bodyPost_ret (v := .agg #[.int .i64 K, .int .u32 (F3 : Int), .slice (some ⟨b, off, none⟩) 0 0, .int .i64 S2, .string t, .bool kk]) (results_cell (p := 2) (ty := 57) (b := w.heap.size + 1) rfl rfl (run_loadVar_mid (P := Tryz.prog) _ (w.heap.size + 1) 0 57 _ _ (World.rangeAt_setCells_same _ (w.heap.size + 1) 0 _ HTC.out) Tryz.underlying57 rfl size_md)) rfl ?_
      have HBF := Below_setCells (B := w.heap.size) (b := w.heap.size + 1) (by omega) [.int .i64 K, .int .u32 (F3 : Int), .slice (some ⟨b, off, none⟩) 0 0, .int .i64 S2, .string t, .bool kk] 0 _ HBC.out
      refine ⟨⟨F3, S2, some ⟨b, off, none⟩, 0, [], rfl, hF3, ?_⟩, HBF⟩
      exact ⟨fun h => absurd h (by simp [flatG]), Nat.zero_le _, Nat.zero_le _, fun _ h => absurd h (by simp), Nat.zero_le _, fun _ h => absurd h (by simp)⟩
  · skip
    have hm4 := HM3.out.set3 S2
    have d2 := hm4.cell 2 (u := .slice (some ⟨b, off, none⟩) n c) rfl
    have d2f := hm4.fz 2
    have hm5 := hm4.set2 (.slice (some ⟨b, off + 1, none⟩) (n - 1) (c - 1))
    have d1 := hm5.cell 1 (u := .int .u32 (f : Int)) rfl
    have d1f := hm5.fz 1
    have hm6 : MB (((w3.setCell ⟨w.heap.size, 3, none⟩ (.int .i64 S2)).setCell ⟨w.heap.size, 2, none⟩ (.slice (some ⟨b, off + 1, none⟩) (n - 1) (c - 1))).setCell ⟨w.heap.size, 1, none⟩ (.int .u32 (F2 : Int))) w.heap.size K F2 (.slice (some ⟨b, off + 1, none⟩) (n - 1) (c - 1)) S2 t kk := hm5.set1 F2
    have hT6 : (((w3.setCell ⟨w.heap.size, 3, none⟩ (.int .i64 S2)).setCell ⟨w.heap.size, 2, none⟩ (.slice (some ⟨b, off + 1, none⟩) (n - 1) (c - 1))).setCell ⟨w.heap.size, 1, none⟩ (.int .u32 (F2 : Int))).there (w.heap.size + 1) 0 6 := there_set (there_set (there_set HT3.out))
    have hB6 : Below w.heap.size w (((w3.setCell ⟨w.heap.size, 3, none⟩ (.int .i64 S2)).setCell ⟨w.heap.size, 2, none⟩ (.slice (some ⟨b, off + 1, none⟩) (n - 1) (c - 1))).setCell ⟨w.heap.size, 1, none⟩ (.int .u32 (F2 : Int))) := ((HB3.out.setCell (p := ⟨w.heap.size, 3, none⟩) (Nat.le_refl _) _).setCell (p := ⟨w.heap.size, 2, none⟩) (Nat.le_refl _) _).setCell (p := ⟨w.heap.size, 1, none⟩) (Nat.le_refl _) _
    have e2 := hm6.cell 2 (u := .slice (some ⟨b, off + 1, none⟩) (n - 1) (c - 1)) rfl
    obtain ⟨w6, hw6⟩ : ∃ w6, w6 = (((w3.setCell ⟨w.heap.size, 3, none⟩ (.int .i64 S2)).setCell ⟨w.heap.size, 2, none⟩ (.slice (some ⟨b, off + 1, none⟩) (n - 1) (c - 1))).setCell ⟨w.heap.size, 1, none⟩ (.int .u32 (F2 : Int))) := ⟨_, rfl⟩
    rw [← hw6] at hm6 hT6 hB6
    have HM6 := Lib.hid hm6; have HT6 := Lib.hid hT6; have HB6 := Lib.hid hB6
    clear hm4 hm5 hm6 hT6 hB6
    go_upto_if 23 with fail
    rw [← hw6]
    clear hw6 d2 d2f d1 d1f e2 c3 f3
    have e1 := HM6.out.cell 1 (u := .int .u32 (F2 : Int)) rfl
    have e1f := HM6.out.fz 1
    go_cut [23] (fun s23 wc => ∃ F3 : Nat, F3 < 4294967296 ∧ MB wc w.heap.size K F3 (.slice (some ⟨b, off + 1, none⟩) (n - 1) (c - 1)) S2 t kk ∧ wc.there (w.heap.size + 1) 0 6 ∧ Below w.heap.size w wc)
    case first =>
      by_cases h1 : n - 1 = 0
      · have hb1 : (((n - 1 : Nat) : Int) == 0) = true := by simp [h1]
        clear h1
        go_wp2_with fail
        go_meet
        case rel => exact ⟨0, by omega, HM6.out.set1 0, there_set HT6.out, HB6.out.setCell (p := ⟨w.heap.size, 1, none⟩) (Nat.le_refl _) _⟩
      · have hb1 : (((n - 1 : Nat) : Int) == 0) = false := beq_eq_false_iff_ne.2 (by omega)
        clear h1
        go_wp2_with fail
        go_meet
        case rel => exact ⟨F2, HF2, HM6.out, HT6.out, HB6.out⟩
    case rest =>
      obtain ⟨F3, hF3, hMB, hTc, hBc⟩ := hcut
      have HR := Lib.hid hMB.range; have HTC := Lib.hid hTc; have HBC := Lib.hid hBc
      clear hMB hTc hBc e1 e1f
      go_wp2_with (first
        | (refine wpList_load_mid rfl 57 (.tmp 1) rfl w.heap.size 0 rfl [.int .i64 K, .int .u32 (F3 : Int), .slice (some ⟨b, off + 1, none⟩) (n - 1) (c - 1), .int .i64 S2, .string t, .bool kk] _ HR.out Tryz.underlying57 rfl size_md ?_)
        | (refine wpList_store_mid rfl 57 (.tmp 2) (.tmp 25) rfl (w.heap.size + 1) 0 #[.int .i64 K, .int .u32 (F3 : Int), .slice (some ⟨b, off + 1, none⟩) (n - 1) (c - 1), .int .i64 S2, .string t, .bool kk] rfl rfl HTC.out size_md (by simp [Value.oneCell']) ?_))
      refine bodyPost_ret (v := .agg #[.int .i64 K, .int .u32 (F3 : Int), .slice (some ⟨b, off + 1, none⟩) (n - 1) (c - 1), .int .i64 S2, .string t, .bool kk]) (results_cell (p := 2) (ty := 57) (b := w.heap.size + 1) rfl rfl (run_loadVar_mid (P := Tryz.prog) _ (w.heap.size + 1) 0 57 _ _ (World.rangeAt_setCells_same _ (w.heap.size + 1) 0 _ HTC.out) Tryz.underlying57 rfl size_md)) rfl ?_
      have HBF := Below_setCells (B := w.heap.size) (b := w.heap.size + 1) (by omega) [.int .i64 K, .int .u32 (F3 : Int), .slice (some ⟨b, off + 1, none⟩) (n - 1) (c - 1), .int .i64 S2, .string t, .bool kk] 0 _ HBC.out
      refine ⟨⟨F3, S2, some ⟨b, off + 1, none⟩, c - 1, R.drop 1, ?_, hF3, ?_⟩, HBF⟩
      · rw [List.length_drop, ← HN.out]
      · exact HT.out.below HBF
end Go.Proofs.YthbgnkkepfbmjaaGreat

namespace Go.Proofs.YthbgnkkepfbmjaaGreat
open Go Go.RowKit Go.Sort

/-! The law's ops on a log: what holds at each round. -/
/-- An op's spans, in no block of U. -/
def OpN (U : Nat → Prop) (w : World) (x : OpM) : Prop := RdN U w x.sa (flatL x.sp) ∧ x.sp.length ≤ x.sc ∧ x.sc ≤ maxLen ∧ ∀ s ∈ x.sp, s.Ok
theorem OpN.off {U U' : Nat → Prop} {w w' : World} {x : OpM} (h : OpN U w x) (ho : Off U w w') (hs : ∀ k, U' k → U k ∨ w.heap.size ≤ k) : OpN U' w' x := ⟨h.1.off ho hs, h.2⟩
theorem Off.more' {S S' : Nat → Prop} {w w' : World} (h : Off S w w') (hs : ∀ k, S k → S' k) : Off S' w w' := ⟨h.os, h.tape, h.output, h.size, fun k hk hn => h.block k hk fun e => hn (hs k e)⟩
theorem heap_set_other (w : World) (q i : Nat) (v : Value) {k : Nat} (h : k ≠ q) : (w.setCell ⟨q, i, none⟩ v).heap[k]? = w.heap[k]? := by
  have : ¬ q = k := fun e => h e.symm
  simp [World.setCell, Array.getElem?_modify, this]
theorem there_off {U : Nat → Prop} {w w' : World} {b o n : Nat} (h : w.there b o n) (ho : Off U w w') (hb : b < w.heap.size) (hU : ¬ U b) : w'.there b o n := fun j hj => by
  obtain ⟨h1, h2⟩ := h j hj
  have e := ho.block b hb hU
  rw [ho.cell (p := ⟨b, o + j, none⟩) hb hU]
  exact ⟨h1, by rw [← h2]; simp [World.frozen?, e]⟩
theorem DidL.trans' {S R T S1 R1 T1 S2 R2 T2 : Nat → Prop} {w w1 w2 : World} (h1 : DidL S R T S1 R1 T1 w w1) (h2 : DidL S1 R1 T1 S2 R2 T2 w1 w2) : DidL S R T S2 R2 T2 w w2 := by
  have hs := h1.off.size
  refine ⟨fun k hk => ?_, fun k hk => ?_, fun k hk => ?_, h2.dis, ⟨h2.off.os.trans h1.off.os, h2.off.tape.trans h1.off.tape, h2.off.output.trans h1.off.output, Nat.le_trans hs h2.off.size, fun k hk hn => (h2.off.block k (Nat.lt_of_lt_of_le hk hs) fun e => hn ?_).trans (h1.off.block k hk hn)⟩⟩
  · rcases h2.s k hk with e | e
    · exact h1.s k e
    · exact .inr (by omega)
  · rcases h2.r k hk with e | e | e
    · exact h1.r k e
    · exact .inr (h1.s k e)
    · exact .inr (.inr (by omega))
  · rcases h2.t k hk with e | e
    · exact h1.t k e
    · exact .inr (by omega)
  · rcases e with e | e
    · rcases h1.s k e with e | e
      · exact .inl e
      · omega
    · rcases h1.t k e with e | e
      · exact .inr e
      · omega
theorem DidL.of_did' {S R T S1 R1 : Nat → Prop} {w w1 : World} (hlow : ∀ k, T k → k < w.heap.size) (hd : Dis T S R) (h : Did S R S1 R1 w w1) : DidL S R T S1 R1 T w w1 :=
  ⟨h.s, h.r, fun _ h => .inl h, fun k hk => ⟨fun e => by
    rcases h.s k e with e | e
    · exact (hd k hk).1 e
    · have := hlow k hk; omega, fun e => by
    rcases h.r k e with e | e | e
    · exact (hd k hk).2 e
    · exact (hd k hk).1 e
    · have := hlow k hk; omega⟩, h.off.more' fun _ h => .inl h⟩
theorem OffS {w : World} {B : Nat} (cs : List Value) : ∀ (i : Nat), Off (fun k => k = B) w (w.setCells B i cs) := by
  induction cs generalizing w with
  | nil => intro i; exact Off.refl _ _
  | cons u us ih =>
    intro i
    have h1 : Off (fun k => k = B) w (w.setCell ⟨B, i, none⟩ u) := ⟨rfl, rfl, rfl, by simp, fun k _ hk => heap_set_other w B i u fun e => hk e⟩
    have h2 := ih (w := w.setCell ⟨B, i, none⟩ u) (i + 1)
    exact ⟨h2.os.trans h1.os, h2.tape.trans h1.tape, h2.output.trans h1.output, Nat.le_trans h1.size h2.size, fun k hk hn => (h2.block k (Nat.lt_of_lt_of_le hk h1.size) hn).trans (h1.block k hk hn)⟩
theorem MB.set5 {w : World} {b f : Nat} {K s : Int} {v : Value} {t : ByteArray} {k : Bool} (h : MB w b K f v s t k) (k' : Bool) : MB (w.setCell ⟨b, 5, none⟩ (.bool k')) b K f v s t k' := by
  unfold MB at h ⊢
  simp [World.setCell, Array.getElem?_modify, h, mdV]
theorem MB.set4 {w : World} {b f : Nat} {K s : Int} {v : Value} {t : ByteArray} {k : Bool} (h : MB w b K f v s t k) (t' : ByteArray) : MB (w.setCell ⟨b, 4, none⟩ (.string t')) b K f v s t' k := by
  unfold MB at h ⊢
  simp [World.setCell, Array.getElem?_modify, h, mdV]
theorem MB.setAll {w : World} {b f : Nat} {K s : Int} {v : Value} {t : ByteArray} {k : Bool} (h : MB w b K f v s t k) (K2 : Int) (f2 : Nat) (v2 : Value) (s2 : Int) (t2 : ByteArray) (k2 : Bool) : MB (w.setCells b 0 (mdV K2 f2 v2 s2 t2 k2).toList) b K2 f2 v2 s2 t2 k2 := by
  unfold MB at h ⊢
  simp [World.setCells, World.setCell, Array.getElem?_modify, h, mdV]
theorem MB.there {w : World} {b f : Nat} {K s : Int} {v : Value} {t : ByteArray} {k : Bool} (h : MB w b K f v s t k) : w.there b 0 6 := fun j hj => by
  refine ⟨?_, h.fz _⟩
  unfold MB at h
  rw [Nat.zero_add]
  simp only [World.cell?, h]
  match j, hj with
  | 0, _ => rfl
  | 1, _ => rfl
  | 2, _ => rfl
  | 3, _ => rfl
  | 4, _ => rfl
  | 5, _ => rfl
structure DrI (F : FsKit) (LK : LogKit F) (w : World) (S R T : Nat → Prop) (p q : Nat) (K : Int) (k N : Nat) (wr : World) (S1 R1 T1 : Nat → Prop) (m1 : FSm) (g1 : LgM) (f : Nat) (a : Option Addr) (c : Nat) (Rr : List Rw) (s : Int) (t : ByteArray) (kk : Bool) : Prop where
  fs : F.Fs wr S1 R1 p m1
  log : LK.At wr T1 p q g1
  did : DidL S R T S1 R1 T1 w wr
  lim : Lim k m1
  num : NumOk m1
  gn : GNum g1
  box : MB wr (w.heap.size + 1) K f (.slice a Rr.length c) s t kk
  there : wr.there w.heap.size 0 6
  sz : w.heap.size + 2 ≤ wr.heap.size
  far : ∀ j, w.heap.size ≤ j → j ≤ w.heap.size + 1 → ¬ S1 j ∧ ¬ R1 j ∧ ¬ T1 j
  md : MdN (fun j => S1 j ∨ T1 j ∨ (w.heap.size ≤ j ∧ j ≤ w.heap.size + 1)) wr a c Rr N
  flt : f < 4294967296
section
variable {F : FsKit} {LK : LogKit F} {w : World} {S R T : Nat → Prop} {p q : Nat} {K : Int} {k N : Nat} {wr : World} {S1 R1 T1 : Nat → Prop} {m1 : FSm} {g1 : LgM} {f : Nat} {a : Option Addr} {c : Nat} {Rr : List Rw} {s : Int} {t : ByteArray} {kk : Bool}
theorem DrI.low (h : DrI F LK w S R T p q K k N wr S1 R1 T1 m1 g1 f a c Rr s t kk) : ∀ j, (S1 j ∨ T1 j ∨ (w.heap.size ≤ j ∧ j ≤ w.heap.size + 1)) → j < wr.heap.size := fun j hj => by
  rcases hj with hj | hj | hj
  · exact (F.low h.fs).1 j hj
  · exact LK.low h.log j hj
  · have := h.sz; omega
theorem DrI.below {w' : World} (h : DrI F LK w S R T p q K k N wr S1 R1 T1 m1 g1 f a c Rr s t kk) (hb : Below wr.heap.size wr w') : DrI F LK w S R T p q K k N w' S1 R1 T1 m1 g1 f a c Rr s t kk :=
  ⟨F.below h.fs hb, LK.move h.log hb.size fun j hj => hb.block j (LK.low h.log j hj), h.did.trans' (DidL.of_did' (LK.low h.log) h.did.dis (Did.after hb (Did.refl _ _ _))), h.lim, h.num, h.gn, h.box.below hb h.box.lt, there_below h.there hb (by have := h.sz; omega), Nat.le_trans h.sz hb.size, h.far, h.md.below hb, h.flt⟩
theorem DrI.more {k2 N2 : Nat} (h : DrI F LK w S R T p q K k N wr S1 R1 T1 m1 g1 f a c Rr s t kk) (hk : k ≤ k2) (hN : N ≤ N2) : DrI F LK w S R T p q K k2 N2 wr S1 R1 T1 m1 g1 f a c Rr s t kk :=
  ⟨h.fs, h.log, h.did, h.lim.more hk, h.num, h.gn, h.box, h.there, h.sz, h.far, h.md.more hN, h.flt⟩
theorem DrI.fresh (h : DrI F LK w S R T p q K k N wr S1 R1 T1 m1 g1 f a c Rr s t kk) : ¬ (S1 wr.heap.size ∨ T1 wr.heap.size) := fun e => by
  have := h.low wr.heap.size (e.imp id .inl)
  omega
/-- Behind an act of the log. -/
theorem DrI.act {w' : World} {S2 R2 T2 : Nat → Prop} {m2 : FSm} {g2 : LgM} {k2 : Nat} (h : DrI F LK w S R T p q K k N wr S1 R1 T1 m1 g1 f a c Rr s t kk) (hF : F.Fs w' S2 R2 p m2) (hL : LK.At w' T2 p q g2) (hd : DidL S1 R1 T1 S2 R2 T2 wr w') (hl : Lim k2 m2) (hn : NumOk m2) (hg : GNum g2) :
    DrI F LK w S R T p q K k2 N w' S2 R2 T2 m2 g2 f a c Rr s t kk := by
  have hb1 := h.far (w.heap.size + 1) (by omega) (by omega)
  have hb0 := h.far w.heap.size (by omega) (by omega)
  refine ⟨hF, hL, h.did.trans' hd, hl, hn, hg, h.box.off hd.off (fun e => e.elim hb1.1 hb1.2.2), there_off h.there hd.off (by have := h.sz; omega) (fun e => e.elim hb0.1 hb0.2.2), Nat.le_trans h.sz hd.off.size, fun j h1 h2 => ?_, ?_, h.flt⟩
  · have h3 := h.far j h1 h2
    have h4 := h.sz
    refine ⟨fun e => ?_, fun e => ?_, fun e => ?_⟩
    · rcases hd.s j e with e | e
      · exact h3.1 e
      · omega
    · rcases hd.r j e with e | e | e
      · exact h3.2.1 e
      · exact h3.1 e
      · omega
    · rcases hd.t j e with e | e
      · exact h3.2.2 e
      · omega
  · refine h.md.off (hd.off.more' fun j hj => hj.imp id .inl) fun j hj => ?_
    rcases hj with hj | hj | hj
    · rcases hd.s j hj with e | e
      · exact .inl (.inl e)
      · exact .inr e
    · rcases hd.t j hj with e | e
      · exact .inl (.inr (.inl e))
      · exact .inr e
    · exact .inl (.inr (.inr hj))
/-- Behind a store into the model. -/
theorem DrI.store {w' : World} {f2 : Nat} {a2 : Option Addr} {c2 N2 : Nat} {R2 : List Rw} {s2 : Int} {t2 : ByteArray} {k2 : Bool} (h : DrI F LK w S R T p q K k N wr S1 R1 T1 m1 g1 f a c Rr s t kk) (ho : Off (fun j => w.heap.size ≤ j ∧ j ≤ w.heap.size + 1) wr w') (hbox : MB w' (w.heap.size + 1) K f2 (.slice a2 R2.length c2) s2 t2 k2) (hth : w'.there w.heap.size 0 6)
    (hmd : MdN (fun j => S1 j ∨ T1 j ∨ (w.heap.size ≤ j ∧ j ≤ w.heap.size + 1)) wr a2 c2 R2 N2) (hf : f2 < 4294967296) : DrI F LK w S R T p q K k N2 w' S1 R1 T1 m1 g1 f2 a2 c2 R2 s2 t2 k2 := by
  refine ⟨F.move h.fs ho.size fun j hj => ho.block j (hj.elim ((F.low h.fs).1 j) ((F.low h.fs).2 j)) fun e => ?_, LK.move h.log ho.size fun j hj => ho.block j (LK.low h.log j hj) fun e => (h.far j e.1 e.2).2.2 hj, ?_, h.lim, h.num, h.gn, hbox, hth, Nat.le_trans h.sz ho.size, h.far, ?_, hf⟩
  · have := h.far j e.1 e.2
    exact hj.elim this.1 this.2.1
  · exact ⟨h.did.s, h.did.r, h.did.t, h.did.dis, ⟨ho.os.trans h.did.off.os, ho.tape.trans h.did.off.tape, ho.output.trans h.did.off.output, Nat.le_trans h.did.off.size ho.size, fun j hj hn => (ho.block j (Nat.lt_of_lt_of_le hj h.did.off.size) fun e => by omega).trans (h.did.off.block j hj hn)⟩⟩
  · exact hmd.off (ho.more' fun j hj => .inr (.inr hj)) fun j hj => .inl hj
end
end Go.Proofs.YthbgnkkepfbmjaaGreat

