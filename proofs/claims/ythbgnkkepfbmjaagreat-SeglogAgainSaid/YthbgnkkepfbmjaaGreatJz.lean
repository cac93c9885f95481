import Derived.Test.YthbgnkkepfbmjaaGreatJn
import Derived.Test.YthbgnkkepfbmjaaGreatJa
import Derived.Test.YthbgnkkepfbmjaaGreatJh
import Derived.Test.YthbgnkkepfbmjaaGreatJe
import Derived.Deep.QuietTactic
import Derived.Deep.DeepMust
import Derived.Test.YthbgnkkepfbmjaaGreatJg
import Derived.Test.YthbgnkkepfbmjaaGreatJi
namespace Go.Proofs.YthbgnkkepfbmjaaGreat
open Go Go.RowKit Go.Sort

/-! The law's own model of a log: rows of texts. -/
structure Rw where
  a : Option Addr
  c : Nat
  vs : List Value
def Rw.v (x : Rw) : Value := .slice x.a x.vs.length x.c
def Rw.l (x : Rw) : List Value := [x.v]
theorem Rw.len (x : Rw) : x.l.length = 1 := rfl
def RwN (U : Nat → Prop) (w : World) (x : Rw) : Prop := RdN U w x.a x.vs ∧ x.vs.length ≤ x.c ∧ x.c ≤ maxLen ∧ ∀ u ∈ x.vs, u.oneCell' = true
/-- Rows of texts, in no block of U. -/
structure MdN (U : Nat → Prop) (w : World) (a : Option Addr) (c : Nat) (R : List Rw) (N : Nat) : Prop where
  rd : RdN U w a (flatG Rw.l R)
  le : R.length ≤ c
  cm : c ≤ maxLen
  rows : ∀ x ∈ R, RwN U w x
  few : R.length ≤ N
  small : ∀ x ∈ R, x.vs.length ≤ N
theorem RdN.below {U : Nat → Prop} {w w' : World} {a : Option Addr} {cs : List Value} (h : RdN U w a cs) (hb : Below w.heap.size w w') : RdN U w' a cs := fun h0 => by
  obtain ⟨b, off, ha, hlt, hn, hc⟩ := h h0
  exact ⟨b, off, ha, Nat.lt_of_lt_of_le hlt hb.size, hn, fun j u hu => by rw [hb.cell (p := ⟨b, off + j, none⟩) hlt]; exact hc j u hu⟩
theorem RwN.below {U : Nat → Prop} {w w' : World} {x : Rw} (h : RwN U w x) (hb : Below w.heap.size w w') : RwN U w' x := ⟨h.1.below hb, h.2⟩
theorem RwN.off {U U' : Nat → Prop} {w w' : World} {x : Rw} (h : RwN U w x) (ho : Off U w w') (hs : ∀ k, U' k → U k ∨ w.heap.size ≤ k) : RwN U' w' x := ⟨h.1.off ho hs, h.2⟩
theorem MdN.below {U : Nat → Prop} {w w' : World} {a : Option Addr} {c N : Nat} {R : List Rw} (h : MdN U w a c R N) (hb : Below w.heap.size w w') : MdN U w' a c R N :=
  ⟨h.rd.below hb, h.le, h.cm, fun x hx => (h.rows x hx).below hb, h.few, h.small⟩
theorem MdN.off {U U' : Nat → Prop} {w w' : World} {a : Option Addr} {c N : Nat} {R : List Rw} (h : MdN U w a c R N) (ho : Off U w w') (hs : ∀ k, U' k → U k ∨ w.heap.size ≤ k) : MdN U' w' a c R N :=
  ⟨h.rd.off ho hs, h.le, h.cm, fun x hx => (h.rows x hx).off ho hs, h.few, h.small⟩
theorem MdN.more {U : Nat → Prop} {w : World} {a : Option Addr} {c N N' : Nat} {R : List Rw} (h : MdN U w a c R N) (hn : N ≤ N') : MdN U w a c R N' :=
  ⟨h.rd, h.le, h.cm, h.rows, Nat.le_trans h.few hn, fun x hx => Nat.le_trans (h.small x hx) hn⟩
theorem MdN.elem {U : Nat → Prop} {w : World} {a : Option Addr} {c N : Nat} {R : List Rw} (h : MdN U w a c R N) {i : Nat} (hi : i < R.length) : ∃ b off, a = some ⟨b, off, none⟩ ∧ b < w.heap.size ∧ w.cell? ⟨b, off + i, none⟩ = some (.slice R[i].a R[i].vs.length R[i].c) := by
  obtain ⟨b, off, ha, hb, hc⟩ := Rd.elemG (enc := Rw.l) (m := 1) (fun _ => rfl) (by omega) h.rd.rd hi
  have := hc 0 _ rfl
  rw [Nat.mul_one, Nat.add_zero] at this
  exact ⟨b, off, ha, hb, this⟩
/-- What is owned, and new, is in no block of U. -/
theorem RdN.own {U : Nat → Prop} {w : World} {base n c size : Nat} {e : TypeId} {a : Option Addr} {cs : List Value} (h : w.ownsRow base e size (.slice a n c) n cs) (hU : ∀ k, U k → k < base) : RdN U w a cs := fun h0 => by
  obtain ⟨b, off, ha, hlt, hc⟩ := Rd.own h h0
  subst ha
  have hs := (own_shape (k := b) h rfl).1
  exact ⟨b, off, rfl, hlt, fun hk => by have := hU b hk; omega, hc⟩
/-- The law's model, as a value and as a box. -/
def mdV (K : Int) (f : Nat) (v : Value) (s : Int) (t : ByteArray) (k : Bool) : Array Value := #[.int .i64 K, .int .u32 (f : Int), v, .int .i64 s, .string t, .bool k]
theorem info_strs : (Tryz.prog.info? 62).map (fun i => (i.zero, i.size, i.bytes)) = some (some (.slice none 0 0), 1, 24) := by kernel_rfl
set_option maxRecDepth 20000 in
set_option maxHeartbeats 2000000 in
theorem mdAll_any {U : Nat → Prop} {K : Int} {f : Nat} {a : Option Addr} {c : Nat} {s : Int} {t : ByteArray} {k : Bool} {R : List Rw} {N : Nat} (w : World) (h : MdN U w a c R N) (hN : N ≤ 1000) :
    Calls Tryz.prog 49 #[.agg (mdV K f (.slice a R.length c) s t k), .int .i64 0] w fun e w' => (∃ a2 n2 c2, e = .returned (.slice a2 n2 c2) ∧ n2 ≤ N * N) ∧ Below w.heap.size w w' := by
  obtain ⟨i0, hi0, hz0, hz1, hz2⟩ := info_parts info_str
  have HZ2 := Lib.hid hz2; clear hz2
  have HM := Lib.hid h
  have hfew := h.few
  obtain ⟨n, hn⟩ : ∃ n, n = R.length := ⟨_, rfl⟩
  have HN := Lib.hid hn
  rw [← hn] at hfew ⊢
  clear hn h
  unfold mdV
  obtain ⟨v, hv⟩ : ∃ v, v = (w.alloc (.cells #[.int .i64 K, .int .u32 (f : Int), .slice a n c, .int .i64 s, .string t, .bool k] 57)).alloc (.cells #[] 9) := ⟨_, rfl⟩
  have HBV : Hid (Below w.heap.size w v) := by show Below _ _ _; rw [hv]; exact (box1 w _).alloc (by simp) _
  have HC2 : Hid (∀ W, Below (w.heap.size + 1) v W → W.cell? ⟨w.heap.size, 2, none⟩ = some (.slice a n c)) := fun W hW => by
    have h1 : v.rangeAt w.heap.size 0 [.int .i64 K, .int .u32 (f : Int), .slice a n c, .int .i64 s, .string t, .bool k] := by rw [hv]; exact World.rangeAt_alloc (rangeAt_last w _ _ _ rfl) _
    exact range_below h1 hW (by omega) 2 _ rfl
  have HO : Hid (v.ownsRow (w.heap.size + 1) 9 1 (.slice (some ⟨w.heap.size + 1, 0, none⟩) 0 0) 0 []) := by
    show World.ownsRow _ _ _ _ _ _ _
    rw [hv]
    have h := World.ownsRow_made (base := w.heap.size + 1) (e := 9) (size := 1) (w.alloc (.cells #[.int .i64 K, .int .u32 (f : Int), .slice a n c, .int .i64 s, .string t, .bool k] 57)) #[] 0 (by simp) (by decide) rfl
    simpa using h
  have HVS : Hid (v.heap.size = w.heap.size + 2) := by show _ = _; rw [hv]; simp
  go_enter Tryz.func49, Tryz.ntmps49
  go_wp2_with fail
  rw [← hv]
  clear hv
  go_loopw [5, 6] (fun o i wr => ∃ (j m : Nat) (xs : List Value), j ≤ n ∧ i = .int .i64 j ∧ m ≤ N * j ∧ wr.ownsRow (w.heap.size + 1) 9 1 o m xs ∧ (∀ u ∈ xs, u.oneCell' = true) ∧ Below (w.heap.size + 1) v wr) (fun _ i _ => n - (intOf i).toNat)
  case atStart => exact ⟨0, 0, [], Nat.zero_le _, rfl, Nat.zero_le _, HO.out, fun _ h => absurd h (by simp), Below.refl _ _⟩
  case round =>
    obtain ⟨j, m, xs, hj, rfl, hm, ho, hone, hb⟩ := hrel
    have HOW := Lib.hid ho; have HONE := Lib.hid hone; have HB := Lib.hid hb; have HMB := Lib.hid hm
    have c2 := HC2.out wr hb
    obtain ⟨oa, oc, rfl, _, _, _⟩ := own_slice ho
    have hvs : v.heap.size ≤ wr.heap.size := hb.size
    clear ho hone hb hm
    by_cases hlt : j < n
    · have hjR : j < R.length := by rw [← HN.out]; exact hlt
      have hmw : MdN U wr a c R N := HM.out.below (HBV.out.trans (HB.out.mono (Nat.le_succ _)))
      obtain ⟨b, off, rfl, hbl, hcell⟩ := hmw.elem hjR
      obtain ⟨x, hx⟩ : ∃ x, R[j] = x := ⟨_, rfl⟩
      rw [hx] at hcell
      have hxr := hmw.rows x (by rw [← hx]; exact List.getElem_mem _)
      have hxs := hmw.small x (by rw [← hx]; exact List.getElem_mem _)
      obtain ⟨nx, hnx⟩ : ∃ nx, nx = x.vs.length := ⟨_, rfl⟩
      rw [← hnx] at hcell hxs
      have HX := Lib.hid hxr; have HNX := Lib.hid hnx; have HLT := Lib.hid hlt
      have i1 : (0 : Int) ≤ (j : Int) := by omega
      have i2 : (j : Int) < (n : Int) := by omega
      have hmn : m + nx ≤ N * (j + 1) := by have := HMB.out; rw [Nat.mul_succ]; omega
      have hNN : N * (j + 1) ≤ 1000000 := Nat.le_trans (Nat.mul_le_mul hN (show j + 1 ≤ 1000 by omega)) (by decide)
      have hbase : w.heap.size + 1 ≤ wr.heap.size := by have := HVS.out; omega
      clear hmw hx hxr hnx
      go_wp2_with (at_builtin; go_must (refine wpList_append_rd _ rfl (.tmp 16) (.tmp 21) 62 rfl (w.heap.size + 1) 9 i0 _ 1 16 Tryz.underlying62 hi0 hz0 hz1 HZ2.out rfl (by omega) _ m _ rfl HOW.out _ _ nx _ x.vs rfl (by rw [Nat.mul_one]; exact HNX.out.symm) HX.out.1.rd HX.out.2.2.2 (by unfold maxLen; omega) (by omega) hbase ?_)
                   intro v7 w3 hown3 hg3 _
                   have HO3 := Lib.hid hown3
                   have HB3 := Lib.hid (Below.of_grown HB.out hg3 hbase (by intro g hg; exact (own_shape HOW.out hg).1))
                   clear hown3 hg3)
      go_roundw
      case rel => exact ⟨j + 1, m + nx, _, HLT.out, by go_num, hmn, HO3.out, fun u hu => by
        rcases List.mem_append.1 hu with hu | hu
        · exact HONE.out u hu
        · exact HX.out.2.2.2 u hu, HB3.out⟩
      case measure => have := HLT.out; simp [intOf]; omega
    · have : j = n := by omega
      subst this
      go_wp2_with fail
      go_ret
      exact ⟨⟨oa, m, oc, rfl, Nat.le_trans HMB.out (Nat.mul_le_mul_left _ hfew)⟩, HBV.out.trans (HB.out.mono (Nat.le_succ _))⟩
end Go.Proofs.YthbgnkkepfbmjaaGreat

namespace Go.Proofs.YthbgnkkepfbmjaaGreat
open Go Go.RowKit Go.Sort

theorem flat_v (R : List Rw) : flatG Rw.l R = R.map Rw.v := by
  induction R with
  | nil => rfl
  | cons x R ih => rw [flatG_cons, ih]; rfl
theorem Rw.one (R : List Rw) : ∀ u ∈ R.map Rw.v, u.oneCell' = true := by
  intro u hu; obtain ⟨x, _, rfl⟩ := List.mem_map.1 hu; rfl
theorem size_md : (Tryz.prog.info? 57).map (·.size) = some 6 := by kernel_rfl
theorem mdV_one (K : Int) (f : Nat) (a : Option Addr) (n c : Nat) (s : Int) (t : ByteArray) (k : Bool) : (mdV K f (.slice a n c) s t k).all (·.oneCell') = true := by simp [mdV, Value.oneCell']
theorem load_md (W : World) (b : Nat) (K : Int) (f : Nat) (v : Value) (s : Int) (t : ByteArray) (k : Bool) (ht : W.there b 0 6) : (loadVar 57 ⟨b, 0, none⟩).run Tryz.prog (W.setCells b 0 (mdV K f v s t k).toList) = .ok (.agg (mdV K f v s t k)) (W.setCells b 0 (mdV K f v s t k).toList) :=
  run_loadVar_mid (P := Tryz.prog) _ b 0 57 _ _ (World.rangeAt_setCells_same W b 0 (mdV K f v s t k).toList ht) Tryz.underlying57 rfl size_md
/-- The model's box, as one block. -/
def MB (w : World) (b : Nat) (K : Int) (f : Nat) (v : Value) (s : Int) (t : ByteArray) (k : Bool) : Prop := w.heap[b]? = some (.cells (mdV K f v s t k) 57)
section
variable {w w' : World} {b f : Nat} {K s : Int} {v : Value} {t : ByteArray} {k : Bool}
theorem MB.lt (h : MB w b K f v s t k) : b < w.heap.size := (Array.getElem?_eq_some_iff.1 h).1
theorem MB.cell (h : MB w b K f v s t k) (i : Nat) {u : Value} (hu : (mdV K f v s t k)[i]? = some u) : w.cell? ⟨b, i, none⟩ = some u := by unfold MB at h; simp [World.cell?, h, hu]
theorem MB.fz (h : MB w b K f v s t k) (i : Nat) : w.frozen? ⟨b, i, none⟩ = false := by unfold MB at h; simp [World.frozen?, h]
theorem MB.grown (h : MB w b K f v s t k) {row : Option Nat} (hg : w.grownBy w' row) (hr : some b ≠ row) : MB w' b K f v s t k := (hg.block b h.lt hr).trans h
theorem MB.below (h : MB w b K f v s t k) {B : Nat} (hb : Below B w w') (hB : b < B) : MB w' b K f v s t k := (hb.block b hB).trans h
theorem MB.off (h : MB w b K f v s t k) {U : Nat → Prop} (ho : Off U w w') (hU : ¬ U b) : MB w' b K f v s t k := (ho.block b h.lt hU).trans h
theorem MB.alloc (h : MB w b K f v s t k) (o : Obj) : MB (w.alloc o) b K f v s t k := h.below (box1 w o) h.lt
theorem MB.far (h : MB w b K f v s t k) {b2 i : Nat} (hne : b ≠ b2) (u : Value) : MB (w.setCell ⟨b2, i, none⟩ u) b K f v s t k := by
  unfold MB at h ⊢
  rw [show (w.setCell ⟨b2, i, none⟩ u).heap[b]? = w.heap[b]? by
    have : ¬ b2 = b := fun e => hne e.symm
    simp [World.setCell, Array.getElem?_modify, this]]
  exact h
theorem MB.set2 (h : MB w b K f v s t k) (v' : Value) : MB (w.setCell ⟨b, 2, none⟩ v') b K f v' s t k := by
  unfold MB at h ⊢
  simp [World.setCell, Array.getElem?_modify, h, mdV]
theorem MB.set3 (h : MB w b K f v s t k) (s' : Int) : MB (w.setCell ⟨b, 3, none⟩ (.int .i64 s')) b K f v s' t k := by
  unfold MB at h ⊢
  simp [World.setCell, Array.getElem?_modify, h, mdV]
theorem MB.set1 (h : MB w b K f v s t k) (f' : Nat) : MB (w.setCell ⟨b, 1, none⟩ (.int .u32 (f' : Int))) b K f' v s t k := by
  unfold MB at h ⊢
  simp [World.setCell, Array.getElem?_modify, h, mdV]
end
theorem there_grown {w w' : World} {b o n : Nat} {row : Option Nat} (h : w.there b o n) (hg : w.grownBy w' row) (hr : some b ≠ row) (hb : b < w.heap.size) : w'.there b o n := fun j hj => by
  obtain ⟨h1, h2⟩ := h j hj
  rw [hg.cell_far ⟨b, o + j, none⟩ hb hr, hg.frozen_far ⟨b, o + j, none⟩ hb hr]
  exact ⟨h1, h2⟩
theorem there_set {W : World} {b o n b2 o2 : Nat} {u : Value} (h : W.there b o n) : (W.setCell ⟨b2, o2, none⟩ u).there b o n := by
  show (W.setCells b2 o2 [u]).there b o n
  exact World.there_setCells h _ _ _
set_option maxRecDepth 20000 in
set_option maxHeartbeats 4000000 in
theorem mdPut_any {U : Nat → Prop} {K : Int} {f : Nat} {a : Option Addr} {c : Nat} {s : Int} {t : ByteArray} {kk : Bool} {R : List Rw} {N : Nat} (w : World) (h : MdN U w a c R N) (hN : N ≤ 1000) (hU : ∀ k, U k → k < w.heap.size) (sv : ByteArray) :
    Calls Tryz.prog 48 #[.agg (mdV K f (.slice a R.length c) s t kk), .string sv] w fun e w' => (∃ a2 c2 R2, e = .returned (.agg (mdV K f (.slice a2 R2.length c2) s t kk)) ∧ MdN U w' a2 c2 R2 (N + 1) ∧ 0 < R2.length) ∧ Below w.heap.size w w' := by
  obtain ⟨i0, hi0, hz0, hz1, hz2⟩ := info_parts info_str
  obtain ⟨j0, hj0, hy0, hy1, hy2⟩ := info_parts info_strs
  have HZ2 := Lib.hid hz2; have HY2 := Lib.hid hy2; clear hz2 hy2
  have HM := Lib.hid h; have HU := Lib.hid hU
  have hfew := h.few
  obtain ⟨n, hn⟩ : ∃ n, n = R.length := ⟨_, rfl⟩
  have HN := Lib.hid hn
  rw [← hn] at hfew ⊢
  clear hn h hU
  unfold mdV
  obtain ⟨v, hv⟩ : ∃ v, v = (w.alloc (.cells #[.int .i64 K, .int .u32 (f : Int), .slice a n c, .int .i64 s, .string t, .bool kk] 57)).alloc (.cells #[.int .i64 0, .int .u32 0, .slice none 0 0, .int .i64 0, .string ⟨#[]⟩, .bool false] 57) := ⟨_, rfl⟩
  have HBV : Hid (Below w.heap.size w v) := by show Below _ _ _; rw [hv]; exact (box1 w _).alloc (by simp) _
  have HMB : Hid (MB v w.heap.size K f (.slice a n c) s t kk) := by show MB _ _ _ _ _ _ _ _; rw [hv]; exact MB.alloc (show MB (w.alloc _) _ _ _ _ _ _ _ from heap_alloc_new w _) _
  have HTV : Hid (v.there (w.heap.size + 1) 0 6) := by show v.there _ _ _; rw [hv]; exact there_last _ _ _ _ _ rfl (by simp)
  have HVS : Hid (v.heap.size = w.heap.size + 2) := by show _ = _; rw [hv]; simp
  obtain ⟨v2, hv2⟩ : ∃ v2, v2 = v.alloc (.cells #[] 62) := ⟨_, rfl⟩
  have HB2 : Hid (Below w.heap.size w v2) := by show Below _ _ _; rw [hv2]; exact HBV.out.alloc HBV.out.size _
  have HM2 : Hid (MB v2 w.heap.size K f (.slice a n c) s t kk) := by show MB _ _ _ _ _ _ _ _; rw [hv2]; exact HMB.out.alloc _
  have HT2 : Hid (v2.there (w.heap.size + 1) 0 6) := by show v2.there _ _ _; rw [hv2]; exact World.there_alloc HTV.out _
  have HS2 : Hid (v2.heap.size = w.heap.size + 3) := by show _ = _; rw [hv2]; have := HVS.out; simp; omega
  have HO2 : Hid (v2.ownsRow (w.heap.size + 2) 62 1 (.slice (some ⟨w.heap.size + 2, 0, none⟩) 0 0) 0 []) := by
    show World.ownsRow _ _ _ _ _ _ _
    rw [hv2]
    have h := World.ownsRow_made (base := w.heap.size + 2) (e := 62) (size := 1) v #[] 0 (by rw [HVS.out]; exact Nat.le_refl _) (by decide) rfl
    rwa [HVS.out] at h
  have HR2 : Hid (Rd v2 v2.heap.size a (R.map Rw.v)) := by
    show Rd _ _ _ _
    rw [← flat_v]; exact (HM.out.below HB2.out).rd.rd
  have h1w : Hid (Below w.heap.size w v2 ∧ w.heap.size + 2 ≤ v2.heap.size) := ⟨HB2.out, by rw [HS2.out]; omega⟩
  rw [hv] at hv2
  clear hv
  go_enter Tryz.func48, Tryz.ntmps48
  by_cases h0 : n = 0
  case pos =>
    subst h0
    have hR0 : R = [] := List.eq_nil_of_length_eq_zero HN.out.symm
    go_wp2_with (at_builtin; rw [← hv2]; refine wpList_append_rd _ rfl (.tmp 11) (.tmp 13) 55 rfl (w.heap.size + 2) 62 j0 _ 1 24 Tryz.underlying55 hj0 hy0 hy1 HY2.out rfl (by omega) _ 0 [] rfl HO2.out _ _ 0 _ [] rfl rfl (Rd.nil v2 v2.heap.size a) (by simp) (by unfold maxLen; omega) (by omega) h1w.out.2 ?_
                 intro v7 w3 hown3 hg3 _
                 rw [Nat.zero_add, List.nil_append] at hown3
                 obtain ⟨ga, gc, rfl, _, _, hgx⟩ := own_slice hown3
                 have HO3 := Lib.hid hown3
                 have hne : ∀ j, j < w.heap.size + 2 → some j ≠ (Value.slice (some ⟨w.heap.size + 2, 0, none⟩) 0 0).ownBlock := fun j hj e => by injection e with e; simp at e; omega
                 have HM3 := Lib.hid (HM2.out.grown hg3 (hne _ (by omega)))
                 have HG3 := Lib.hid hg3
                 clear hown3 hgx hne hg3)
    have hg3 := HG3.out
    have hs3 : w.heap.size + 3 ≤ w3.heap.size := by have := hg3.size; rw [HS2.out] at this; exact this
    have HB3 : Hid (Below w.heap.size w w3) := Below.of_grown h1w.out.1 hg3 (by rw [HS2.out]; omega) (fun j e => by injection e with e; simp at e; omega)
    have HT3 : Hid (w3.there (w.heap.size + 1) 0 6) := there_grown HT2.out hg3 (fun e => by injection e with e; simp at e) (by rw [HS2.out]; omega)
    clear hg3 HG3 hv2 HT2 HM2 HO2 HR2 HTV HMB HBV HVS
    refine wp_region_quiet_below (by kernel_rfl) (by kernel_rfl) ?_
    iterate 12 (first | go_big_quiet_step (fail) | fail)
    refine wpQuiet_nil ?_
    intro w4 hw'
    obtain ⟨⟨d, os⟩, hw''⟩ := hw'
    have hb4 := below_regrown w3 d os
    rw [← hw''] at hb4
    clear hw''
    have HO9 := Lib.hid (own_below HO3.out hb4); have HM9 := Lib.hid (HM3.out.below hb4 HM3.out.lt); have HB9 := Lib.hid (bel2 HB3.out hb4)
    have HT9 := Lib.hid (there_below HT3.out hb4 (by omega))
    have hs9 : w.heap.size + 3 ≤ w4.heap.size := Nat.le_trans hs3 hb4.size
    clear hb4 hR0
    go_wp2_with (first
      | (at_builtin
         refine wpList_append_rd _ rfl (.tmp 27) (.tmp 29) 55 rfl (w.heap.size + 2) 62 j0 _ 1 24 Tryz.underlying55 hj0 hy0 hy1 HY2.out rfl (by omega) _ 0 _ rfl ((HO9.out.alloc (.cells #[] 9)).alloc (.cells #[.slice (some ⟨w4.heap.size, 0, none⟩) 0 0] 62)) _ _ 1 _ [.slice (some ⟨w4.heap.size, 0, none⟩) 0 0] rfl rfl ((lit_at (w4.alloc (.cells #[] 9)) #[.slice (some ⟨w4.heap.size, 0, none⟩) 0 0] _ (w4.heap.size + 1) (by simp))) (by simp [Value.oneCell']) (by unfold maxLen; omega) (by omega) (by simp; omega) ?_
         intro vq wq hownq hgq _
         obtain ⟨gqa, gqc, rfl, _, _, hgx⟩ := own_slice hownq
         obtain ⟨gq, rfl, hgq2, _⟩ := hgx (by omega)
         have hsq : w4.heap.size + 2 ≤ wq.heap.size := by have := hgq.size; simp at this; exact this
         have hneq : ∀ j, j < w.heap.size + 2 → some j ≠ (Value.slice ga 0 gc).ownBlock := fun j hj e => by have := (own_shape HO9.out e.symm).1; omega
         have HM4 := Lib.hid (((HM9.out.alloc (.cells #[] 9)).alloc (.cells #[.slice (some ⟨w4.heap.size, 0, none⟩) 0 0] 62)).grown hgq (hneq _ (by omega)))
         have HT4 := Lib.hid (there_grown (World.there_alloc (World.there_alloc HT9.out (.cells #[] 9)) (.cells #[.slice (some ⟨w4.heap.size, 0, none⟩) 0 0] 62)) hgq (hneq _ (by omega)) (by simp; omega))
         have HB4 := Lib.hid (Below.of_grown ((HB9.out.alloc HB9.out.size (.cells #[] 9)).alloc (by have := HB9.out.size; simp; omega) (.cells #[.slice (some ⟨w4.heap.size, 0, none⟩) 0 0] 62)) hgq (by have := HB9.out.size; simp; omega) (fun j e => by have := (own_shape HO9.out e).1; omega))
         obtain ⟨x, hx0⟩ : ∃ x : Rw, x = ⟨some ⟨w4.heap.size, 0, none⟩, 0, []⟩ := ⟨_, rfl⟩
         obtain ⟨Q, hQ⟩ : ∃ Q : List Rw, Q = R ++ [x] := ⟨_, rfl⟩
         obtain ⟨nx, hnx⟩ : ∃ nx, nx = x.vs.length := ⟨_, rfl⟩
         have hQl : Q.length = 1 := by rw [hQ, List.length_append, ← HN.out, Nat.zero_add]; rfl
         have hkQ : 0 < Q.length := by omega
         have HX : Hid (Q[0] = x) := by
           show _ = _
           subst hQ
           have h0 : R = [] := List.eq_nil_of_length_eq_zero HN.out.symm
           subst h0
           rfl
         have HXM : Hid (x ∈ Q) := by rw [hQ]; exact List.mem_append_right _ (by simp)
         have HNX := Lib.hid hnx
         have hnx0 : nx = 0 := by rw [hnx, hx0]; rfl
         have hxr : ∀ (W : World), RwN U W x := fun W => by rw [hx0]; exact ⟨fun h => absurd h (by simp), Nat.le_refl _, Nat.zero_le _, fun _ h => absurd h (by simp)⟩
         have HQR : Hid (∀ y ∈ Q, y ∈ R ∨ ∀ W, RwN U W y) := fun y hy => by
           rw [hQ] at hy
           rcases List.mem_append.1 hy with hy | hy
           · exact .inl hy
           · rw [List.mem_singleton] at hy; subst hy; exact .inr hxr
         have HRQ : Hid (∀ y ∈ Q, RwN U wq y) := fun y hy => by
           rcases HQR.out y hy with h | h
           · exact (HM.out.rows y h).below HB4.out
           · exact h wq
         have HSQ : Hid (∀ y ∈ Q, y.vs.length ≤ N) := fun y hy => by
           rw [hQ] at hy
           rcases List.mem_append.1 hy with hy | hy
           · exact HM.out.small y hy
           · rw [List.mem_singleton] at hy; subst hy; rw [← hnx, hnx0]; exact Nat.zero_le _
         have HNQ : Hid (1 = Q.length) := hQl.symm
         have HO4 : Hid (wq.ownsRow (w.heap.size + 2) 62 1 (.slice (some ⟨gq, 0, none⟩) 1 gqc) 1 (Q.map Rw.v)) := by
           show World.ownsRow _ _ _ _ _ _ _
           rw [hQ, hx0, List.map_append, List.eq_nil_of_length_eq_zero HN.out.symm]; exact hownq
         have hcell4 : wq.cell? ⟨gq, 0, none⟩ = some (.slice x.a nx x.c) := by
           have h := HO4.out.cellAt 0 (by omega)
           rw [List.getElem?_map, List.getElem?_eq_getElem hkQ, HX.out] at h
           rw [hnx]; exact h
         have hs4 : w.heap.size + 3 ≤ wq.heap.size := by omega
         have hxN2 : nx ≤ 1000 := by omega
         clear hx0 hQ hnx hnx0 hQl hxr hownq hgq hgx hneq
         have ka : ∀ o : Obj, (wq.alloc o).cell? ⟨gq, 0, none⟩ = some (.slice x.a nx x.c) := fun o => by rw [(box1 wq o).cell (p := ⟨gq, 0, none⟩) (block_lt_of_cell hcell4)]; exact hcell4
         have HA1 : Hid ((wq.alloc (.cells #[] 9)).ownsRow wq.heap.size 9 1 (.slice (some ⟨wq.heap.size, 0, none⟩) 0 0) 0 []) := World.ownsRow_made wq #[] 0 (Nat.le_refl _) (by decide) rfl
         have HA2 := Lib.hid (HO4.out.alloc (.cells #[] 9)); have HA3 := Lib.hid (HM4.out.alloc (.cells #[] 9)); have HA4 := Lib.hid (World.there_alloc HT4.out (.cells #[] 9))
         have HXR : Hid (Rd (wq.alloc (.cells #[] 9)) (wq.alloc (.cells #[] 9)).heap.size x.a x.vs) := ((HRQ.out x HXM.out).below (box1 wq _)).1.rd
         have hxone := (HRQ.out x HXM.out).2.2.2
         have HXO := Lib.hid hxone
         clear hxone)
      | (at_builtin
         refine wpList_append_rd _ rfl (.tmp 35) (.tmp 39) 62 rfl wq.heap.size 9 i0 _ 1 16 Tryz.underlying62 hi0 hz0 hz1 HZ2.out rfl (by omega) _ 0 [] rfl HA1.out _ _ nx _ x.vs rfl (by rw [Nat.mul_one]; exact HNX.out.symm) HXR.out HXO.out (by unfold maxLen; omega) (by omega) (by simp) ?_
         intro v7 w5 hown5 hg5 _
         rw [Nat.zero_add, List.nil_append] at hown5
         obtain ⟨b7, c7, rfl, _, _, _⟩ := own_slice hown5
         have HO5 := Lib.hid hown5
         have hbl : ∀ j, j < wq.heap.size → some j ≠ (Value.slice (some ⟨wq.heap.size, 0, none⟩) 0 0).ownBlock := fun j hj e => by injection e with e; simp at e; omega
         have HQ5 := Lib.hid (HA2.out.kept hg5 (rows_apart HA2.out HA1.out (by decide)))
         have HM5 := Lib.hid (HA3.out.grown hg5 (hbl _ (by omega)))
         have HB5 := Lib.hid (Below.of_grown (box1 wq (.cells #[] 9)) hg5 (by simp) (by intro j e; injection e with e; simp at e; omega))
         have HT5 := Lib.hid (there_grown HA4.out hg5 (hbl _ (by omega)) (by simp; omega))
         have hs5 : wq.heap.size + 1 ≤ w5.heap.size := by have := hg5.size; simp at this; exact this
         clear hown5 hg5 hbl)
      | (at_builtin
         refine wpList_append_rd _ rfl (.tmp 40) (.tmp 42) 62 rfl wq.heap.size 9 i0 _ 1 16 Tryz.underlying62 hi0 hz0 hz1 HZ2.out rfl (by omega) _ nx _ rfl (HO5.out.alloc _) _ _ 1 _ [.string sv] rfl rfl (lit_rd w5 #[.string sv] _) (by simp [Value.oneCell']) (by unfold maxLen; omega) (by omega) (by simp; omega) ?_
         intro v8 w6 hown6 hg6 _
         obtain ⟨b8, c8, rfl, hc8a, hc8b, _⟩ := own_slice hown6
         have hcr := (HQ5.out.alloc (.cells #[.string sv] 9)).kept hg6 (rows_apart (HQ5.out.alloc _) (HO5.out.alloc (.cells #[.string sv] 9)) (by decide))
         have r1 := hcr.cellAt 0 (by omega)
         rw [List.getElem?_map, List.getElem?_eq_getElem hkQ, HX.out] at r1
         have r2 := hcr.frozenAt 0
         have hne6 : some w.heap.size ≠ (Value.slice b7 nx c7).ownBlock := fun e => by have := (own_shape HO5.out e.symm).1; omega
         have hm6 := (HM5.out.alloc (.cells #[.string sv] 9)).grown hg6 hne6
         have HT6 := Lib.hid (there_grown (World.there_alloc HT5.out (.cells #[.string sv] 9)) hg6 (fun e => by have := (own_shape HO5.out e.symm).1; omega) (by simp; omega))
         have HM6 := Lib.hid hm6; have HCR := Lib.hid hcr; have HO6 := Lib.hid hown6
         have hm7 := hm6.far (b2 := gq) (i := 0) (by omega) (.slice b8 (nx + 1) c8)
         have m1 := hm7.cell 2 (u := .slice a 0 c) rfl
         have m2 := hm7.fz 2
         have hm8 := hm7.set2 (.slice (some ⟨gq, 0, none⟩) 1 gqc)
         have l0 := hm8.cell 0 (u := .int .i64 K) rfl; have l1 := hm8.cell 1 (u := .int .u32 (f : Int)) rfl; have l2 := hm8.cell 2 (u := .slice (some ⟨gq, 0, none⟩) 1 gqc) rfl
         have l3 := hm8.cell 3 (u := .int .i64 s) rfl; have l4 := hm8.cell 4 (u := .string t) rfl; have l5 := hm8.cell 5 (u := .bool kk) rfl
         have HG6 := Lib.hid hg6
         clear hown6 hcr hm6 hm7 hm8 hne6 hg6)
      | (refine wpList_store_mid rfl 57 (.tmp 4) (.tmp 47) rfl (w.heap.size + 1) 0 (mdV K f (.slice (some ⟨gq, 0, none⟩) 1 gqc) s t kk) rfl rfl (there_set (there_set HT6.out)) size_md (mdV_one _ _ _ _ _ _ _ _) ?_))
    obtain ⟨wz, hwz⟩ : ∃ wz, wz = (w6.setCell ⟨gq, 0, none⟩ (.slice b8 (nx + 1) c8)).setCell ⟨w.heap.size, 2, none⟩ (.slice (some ⟨gq, 0, none⟩) 1 gqc) := ⟨_, rfl⟩
    have HTZ : wz.there (w.heap.size + 1) 0 6 := by rw [hwz]; exact there_set (there_set HT6.out)
    rw [← hwz]
    have HB6 : Below w.heap.size w w6 := Below.of_grown ((bel2 HB4.out HB5.out).alloc (by have := HB4.out.size; omega) (.cells #[.string sv] 9)) HG6.out (by simp; omega) (fun j e => by have := (own_shape HO5.out e).1; omega)
    have HBZ : Below w.heap.size w wz := by
      rw [hwz]; exact (HB6.setCell (p := ⟨gq, 0, none⟩) (by show w.heap.size ≤ gq; omega) _).setCell (p := ⟨w.heap.size, 2, none⟩) (Nat.le_refl _) _
    have HQZ : wz.ownsRow (w.heap.size + 2) 62 1 (.slice (some ⟨gq, 0, none⟩) 1 gqc) (1) ((Q.map Rw.v).set (0) (.slice b8 (nx + 1) c8)) := by
      rw [hwz]
      exact own_off (HCR.out.stored (0) (.slice b8 (nx + 1) c8)).1 (by omega) 2 _
    have HOZ : wz.ownsRow wq.heap.size 9 1 (.slice b8 (nx + 1) c8) (nx + 1) (x.vs ++ [.string sv]) := by
      rw [hwz]
      exact own_off (own_off HO6.out (block_lt_of_cell hcell4) (0) _) (by omega) 2 _
    refine bodyPost_ret (v := .agg (mdV K f (.slice (some ⟨gq, 0, none⟩) 1 gqc) s t kk)) (results_cell (p := 4) (ty := 57) (b := w.heap.size + 1) rfl rfl (load_md _ _ _ _ _ _ _ _ HTZ)) rfl ?_
    have HBF := Below_setCells (B := w.heap.size) (b := w.heap.size + 1) (by omega) (mdV K f (.slice (some ⟨gq, 0, none⟩) 1 gqc) s t kk).toList 0 wz HBZ
    have HQF := own_offs HQZ (b := w.heap.size + 1) (by omega) (mdV K f (.slice (some ⟨gq, 0, none⟩) 1 gqc) s t kk).toList 0
    have HOF := own_offs HOZ (b := w.heap.size + 1) (by omega) (mdV K f (.slice (some ⟨gq, 0, none⟩) 1 gqc) s t kk).toList 0
    have hlen : (Q.set (0) ⟨b8, c8, x.vs ++ [.string sv]⟩).length = 1 := by rw [List.length_set]; exact HNQ.out.symm
    have hnx1 : (x.vs ++ [Value.string sv]).length = nx + 1 := by rw [List.length_append, ← HNX.out]; rfl
    refine ⟨⟨some ⟨gq, 0, none⟩, gqc, Q.set (0) ⟨b8, c8, x.vs ++ [.string sv]⟩, ?_, ⟨?_, ?_, ?_, ?_, by rw [hlen]; omega, ?_⟩, by rw [hlen]; omega⟩, HBF⟩
    · unfold mdV; rw [hlen]
    · rw [flat_v, List.map_set]
      have h := RdN.own HQF (U := U) (fun j hj => by have := HU.out j hj; omega)
      rw [show (Rw.v ⟨b8, c8, x.vs ++ [.string sv]⟩) = .slice b8 (nx + 1) c8 by unfold Rw.v; rw [hnx1]]
      exact h
    · obtain ⟨_, _, e, h, _, _⟩ := own_slice HQF
      injection e with _ _ e; rw [hlen, e]; exact h
    · obtain ⟨_, _, e, _, h, _⟩ := own_slice HQF
      injection e with _ _ e
      all_goals (rw [e]; exact h)
    · intro y hy
      rcases List.mem_or_eq_of_mem_set hy with hy | hy
      · exact (HQR.out y hy).elim (fun h => (HM.out.rows y h).below HBF) fun h => h _
      · subst hy
        refine ⟨RdN.own HOF (U := U) (fun j hj => by have := HU.out j hj; omega), by rw [hnx1]; exact hc8a, hc8b, fun u hu => ?_⟩
        rcases List.mem_append.1 hu with hu | hu
        · exact HXO.out u hu
        · rw [List.mem_singleton] at hu; subst hu; rfl
    · intro y hy
      rcases List.mem_or_eq_of_mem_set hy with hy | hy
      · exact Nat.le_trans (HSQ.out y hy) (Nat.le_succ _)
      · subst hy
        show (x.vs ++ [Value.string sv]).length ≤ _
        have := HSQ.out x HXM.out
        rw [← HNX.out] at this
        rw [hnx1]; omega
  case neg =>
    have hn1 : ¬ ((n : Int) - 1 < 0) := by omega
    go_wp2_with (at_builtin; rw [← hv2]; go_must (refine wpList_append_rd _ rfl (.tmp 11) (.tmp 13) 55 rfl (w.heap.size + 2) 62 j0 _ 1 24 Tryz.underlying55 hj0 hy0 hy1 HY2.out rfl (by omega) _ 0 [] rfl HO2.out _ _ n _ (R.map Rw.v) rfl (by rw [List.length_map, Nat.mul_one]; exact HN.out.symm) HR2.out (Rw.one R) (by unfold maxLen; omega) (by omega) h1w.out.2 ?_)
                 intro v7 w3 hown3 hg3 _
                 rw [Nat.zero_add, List.nil_append] at hown3
                 obtain ⟨ga, gc, rfl, _, _, hgx⟩ := own_slice hown3
                 obtain ⟨g, rfl, hg2, _⟩ := hgx (by omega)
                 have HO3 := Lib.hid hown3
                 have hne : ∀ j, j < w.heap.size + 2 → some j ≠ (Value.slice (some ⟨w.heap.size + 2, 0, none⟩) 0 0).ownBlock := fun j hj e => by injection e with e; simp at e; omega
                 have HM3 := Lib.hid (HM2.out.grown hg3 (hne _ (by omega)))
                 have HG3 := Lib.hid hg3
                 clear hown3 hgx hne hg3)
    have hg3 := HG3.out
    have hs3 : w.heap.size + 3 ≤ w3.heap.size := by have := hg3.size; rw [HS2.out] at this; exact this
    have HB3 : Hid (Below w.heap.size w w3) := Below.of_grown h1w.out.1 hg3 (by rw [HS2.out]; omega) (fun j e => by injection e with e; simp at e; omega)
    have HT3 : Hid (w3.there (w.heap.size + 1) 0 6) := fun j hj => by
      have hne : some (w.heap.size + 1) ≠ (Value.slice (some ⟨w.heap.size + 2, 0, none⟩) 0 0).ownBlock := fun e => by injection e with e; simp at e
      obtain ⟨h1, h2⟩ := HT2.out j hj
      rw [hg3.cell_far ⟨w.heap.size + 1, 0 + j, none⟩ (by rw [HS2.out]; show w.heap.size + 1 < _; omega) hne, hg3.frozen_far ⟨w.heap.size + 1, 0 + j, none⟩ (by rw [HS2.out]; show w.heap.size + 1 < _; omega) hne]
      exact ⟨h1, h2⟩
    clear hg3 HG3
    obtain ⟨k, hk⟩ : ∃ k, k = n - 1 := ⟨_, rfl⟩
    have hki : (n : Int) - 1 = (k : Int) := by omega
    have hkn : k < n := by omega
    have HKN : Hid (k = n - 1) := hk
    clear hk
    have hkR : k < R.length := by rw [← HN.out]; exact hkn
    have HMD3 := Lib.hid (HM.out.below HB3.out)
    obtain ⟨x, hx⟩ : ∃ x, R[k] = x := ⟨_, rfl⟩
    have hxm : x ∈ R := by rw [← hx]; exact List.getElem_mem _
    have hcellk := HO3.out.cellAt k (by omega)
    rw [List.getElem?_map, List.getElem?_eq_getElem hkR, hx] at hcellk
    replace hcellk : w3.cell? ⟨g, k, none⟩ = some (.slice x.a x.vs.length x.c) := hcellk
    obtain ⟨nx, hnx⟩ : ∃ nx, nx = x.vs.length := ⟨_, rfl⟩
    have HNX := Lib.hid hnx; have HX := Lib.hid hx; have HXM := Lib.hid hxm
    rw [← hnx] at hcellk
    have hxN : nx ≤ N := by rw [hnx]; exact HM.out.small x hxm
    have hK0 := HM3.out.cell 0 (u := .int .i64 K) rfl
    have i1 : (0 : Int) ≤ (k : Int) := by omega
    have i2 : (k : Int) < (n : Int) := by omega
    have hk0 : ¬ ((k : Int) < 0) := by omega
    have hd0 : decide ((k : Int) < 0) = false := decide_eq_false hk0
    clear hnx hx hxm hv2 HT2 HM2 HO2 HR2 HTV HMB HBV HVS
    by_cases he : (nx : Int) = K
    · have he2 : ((nx : Int) == K) = true := by simp [he]
      have kg : ∀ (d : Nat) (os : Array Obj), (grow (redrawn w3 d) os).cell? ⟨g, k, none⟩ = some (.slice x.a nx x.c) := fun d os => by rw [(below_regrown w3 d os).cell (p := ⟨g, k, none⟩) (block_lt_of_cell hcellk)]; exact hcellk
      have kK : ∀ (d : Nat) (os : Array Obj), (grow (redrawn w3 d) os).cell? ⟨w.heap.size, 0, none⟩ = some (.int .i64 K) := fun d os => (HM3.out.below (below_regrown w3 d os) HM3.out.lt).cell 0 rfl
      go_wp2_with fail
      refine wp_region_quiet_below (by kernel_rfl) (by kernel_rfl) ?_
      iterate 12 (first | go_big_quiet_step (fail) | fail)
      refine wpQuiet_nil ?_
      intro w4 hw'
      obtain ⟨⟨d, os⟩, hw''⟩ := hw'
      have hb4 := below_regrown w3 d os
      rw [← hw''] at hb4
      clear hw'' kg kK
      have HO9 := Lib.hid (own_below HO3.out hb4); have HM9 := Lib.hid (HM3.out.below hb4 HM3.out.lt); have HB9 := Lib.hid (bel2 HB3.out hb4)
      have HT9 := Lib.hid (there_below HT3.out hb4 (by omega))
      have hs9 : w.heap.size + 3 ≤ w4.heap.size := Nat.le_trans hs3 hb4.size
      have hk2 : (k : Int) + 1 = (n : Int) := by omega
      clear hb4 hcellk hK0
      go_wp2_with (first
        | (at_builtin
           refine wpList_append_rd _ rfl (.tmp 27) (.tmp 29) 55 rfl (w.heap.size + 2) 62 j0 _ 1 24 Tryz.underlying55 hj0 hy0 hy1 HY2.out rfl (by omega) _ n _ rfl ((HO9.out.alloc (.cells #[] 9)).alloc (.cells #[.slice (some ⟨w4.heap.size, 0, none⟩) 0 0] 62)) _ _ 1 _ [.slice (some ⟨w4.heap.size, 0, none⟩) 0 0] rfl rfl ((lit_at (w4.alloc (.cells #[] 9)) #[.slice (some ⟨w4.heap.size, 0, none⟩) 0 0] _ (w4.heap.size + 1) (by simp))) (by simp [Value.oneCell']) (by unfold maxLen; omega) (by omega) (by simp; omega) ?_
           go_must
            (intro vq wq hownq hgq _
             obtain ⟨gqa, gqc, rfl, _, _, hgx⟩ := own_slice hownq
             obtain ⟨gq, rfl, hgq2, _⟩ := hgx (by omega)
             have hsq : w4.heap.size + 2 ≤ wq.heap.size := by have := hgq.size; simp at this; exact this
             have hneq : ∀ j, j < w.heap.size + 2 → some j ≠ (Value.slice (some ⟨g, 0, none⟩) n gc).ownBlock := fun j hj e => by have := (own_shape HO9.out e.symm).1; omega
             have HM4 := Lib.hid (((HM9.out.alloc (.cells #[] 9)).alloc (.cells #[.slice (some ⟨w4.heap.size, 0, none⟩) 0 0] 62)).grown hgq (hneq _ (by omega)))
             have HT4 := Lib.hid (there_grown (World.there_alloc (World.there_alloc HT9.out (.cells #[] 9)) (.cells #[.slice (some ⟨w4.heap.size, 0, none⟩) 0 0] 62)) hgq (hneq _ (by omega)) (by simp; omega))
             have HB4 := Lib.hid (Below.of_grown ((HB9.out.alloc HB9.out.size (.cells #[] 9)).alloc (by have := HB9.out.size; simp; omega) (.cells #[.slice (some ⟨w4.heap.size, 0, none⟩) 0 0] 62)) hgq (by have := HB9.out.size; simp; omega) (fun j e => by have := (own_shape HO9.out e).1; omega))
             obtain ⟨x, hx0⟩ : ∃ x : Rw, x = ⟨some ⟨w4.heap.size, 0, none⟩, 0, []⟩ := ⟨_, rfl⟩
             obtain ⟨Q, hQ⟩ : ∃ Q : List Rw, Q = R ++ [x] := ⟨_, rfl⟩
             obtain ⟨nx, hnx⟩ : ∃ nx, nx = x.vs.length := ⟨_, rfl⟩
             have hQl : Q.length = n + 1 := by rw [hQ, List.length_append, ← HN.out]; rfl
             have hkQ : n < Q.length := by omega
             have HX : Hid (Q[n] = x) := by
               show _ = _
               subst hQ
               rw [List.getElem_append_right (by have := HN.out; omega)]
               simp [HN.out]
             have HXM : Hid (x ∈ Q) := by rw [hQ]; exact List.mem_append_right _ (by simp)
             have HNX := Lib.hid hnx
             have hnx0 : nx = 0 := by rw [hnx, hx0]; rfl
             have hxr : ∀ (W : World), RwN U W x := fun W => by rw [hx0]; exact ⟨fun h => absurd h (by simp), Nat.le_refl _, Nat.zero_le _, fun _ h => absurd h (by simp)⟩
             have HQR : Hid (∀ y ∈ Q, y ∈ R ∨ ∀ W, RwN U W y) := fun y hy => by
               rw [hQ] at hy
               rcases List.mem_append.1 hy with hy | hy
               · exact .inl hy
               · rw [List.mem_singleton] at hy; subst hy; exact .inr hxr
             have HRQ : Hid (∀ y ∈ Q, RwN U wq y) := fun y hy => by
               rcases HQR.out y hy with h | h
               · exact (HM.out.rows y h).below HB4.out
               · exact h wq
             have HSQ : Hid (∀ y ∈ Q, y.vs.length ≤ N) := fun y hy => by
               rw [hQ] at hy
               rcases List.mem_append.1 hy with hy | hy
               · exact HM.out.small y hy
               · rw [List.mem_singleton] at hy; subst hy; rw [← hnx, hnx0]; exact Nat.zero_le _
             have HNQ : Hid (n + 1 = Q.length) := hQl.symm
             have HO4 : Hid (wq.ownsRow (w.heap.size + 2) 62 1 (.slice (some ⟨gq, 0, none⟩) (n + 1) gqc) (n + 1) (Q.map Rw.v)) := by
               show World.ownsRow _ _ _ _ _ _ _
               rw [hQ, hx0, List.map_append]; exact hownq
             have hcell4 : wq.cell? ⟨gq, n, none⟩ = some (.slice x.a nx x.c) := by
               have h := HO4.out.cellAt n (by omega)
               rw [List.getElem?_map, List.getElem?_eq_getElem hkQ, HX.out] at h
               rw [hnx]; exact h
             have hs4 : w.heap.size + 3 ≤ wq.heap.size := by omega
             have hxN2 : nx ≤ 1000 := by omega
             have jj1 : (0 : Int) ≤ (n : Int) := by omega
             have jj2 : (n : Int) < (n : Int) + 1 := by omega
             clear hx0 hQ hnx hnx0 hQl hxr hownq hgq hgx hneq
             have ka : ∀ o : Obj, (wq.alloc o).cell? ⟨gq, n, none⟩ = some (.slice x.a nx x.c) := fun o => by rw [(box1 wq o).cell (p := ⟨gq, n, none⟩) (block_lt_of_cell hcell4)]; exact hcell4
             have HA1 : Hid ((wq.alloc (.cells #[] 9)).ownsRow wq.heap.size 9 1 (.slice (some ⟨wq.heap.size, 0, none⟩) 0 0) 0 []) := World.ownsRow_made wq #[] 0 (Nat.le_refl _) (by decide) rfl
             have HA2 := Lib.hid (HO4.out.alloc (.cells #[] 9)); have HA3 := Lib.hid (HM4.out.alloc (.cells #[] 9)); have HA4 := Lib.hid (World.there_alloc HT4.out (.cells #[] 9))
             have HXR : Hid (Rd (wq.alloc (.cells #[] 9)) (wq.alloc (.cells #[] 9)).heap.size x.a x.vs) := ((HRQ.out x HXM.out).below (box1 wq _)).1.rd
             have hxone := (HRQ.out x HXM.out).2.2.2
             have HXO := Lib.hid hxone
             clear hxone))
        | (at_builtin
           refine wpList_append_rd _ rfl (.tmp 35) (.tmp 39) 62 rfl wq.heap.size 9 i0 _ 1 16 Tryz.underlying62 hi0 hz0 hz1 HZ2.out rfl (by omega) _ 0 [] rfl HA1.out _ _ nx _ x.vs rfl (by rw [Nat.mul_one]; exact HNX.out.symm) HXR.out HXO.out (by unfold maxLen; omega) (by omega) (by simp) ?_
           intro v7 w5 hown5 hg5 _
           rw [Nat.zero_add, List.nil_append] at hown5
           obtain ⟨b7, c7, rfl, _, _, _⟩ := own_slice hown5
           have HO5 := Lib.hid hown5
           have hbl : ∀ j, j < wq.heap.size → some j ≠ (Value.slice (some ⟨wq.heap.size, 0, none⟩) 0 0).ownBlock := fun j hj e => by injection e with e; simp at e; omega
           have HQ5 := Lib.hid (HA2.out.kept hg5 (rows_apart HA2.out HA1.out (by decide)))
           have HM5 := Lib.hid (HA3.out.grown hg5 (hbl _ (by omega)))
           have HB5 := Lib.hid (Below.of_grown (box1 wq (.cells #[] 9)) hg5 (by simp) (by intro j e; injection e with e; simp at e; omega))
           have HT5 := Lib.hid (there_grown HA4.out hg5 (hbl _ (by omega)) (by simp; omega))
           have hs5 : wq.heap.size + 1 ≤ w5.heap.size := by have := hg5.size; simp at this; exact this
           clear hown5 hg5 hbl)
        | (at_builtin
           refine wpList_append_rd _ rfl (.tmp 40) (.tmp 42) 62 rfl wq.heap.size 9 i0 _ 1 16 Tryz.underlying62 hi0 hz0 hz1 HZ2.out rfl (by omega) _ nx _ rfl (HO5.out.alloc _) _ _ 1 _ [.string sv] rfl rfl (lit_rd w5 #[.string sv] _) (by simp [Value.oneCell']) (by unfold maxLen; omega) (by omega) (by simp; omega) ?_
           intro v8 w6 hown6 hg6 _
           obtain ⟨b8, c8, rfl, hc8a, hc8b, _⟩ := own_slice hown6
           have hcr := (HQ5.out.alloc (.cells #[.string sv] 9)).kept hg6 (rows_apart (HQ5.out.alloc _) (HO5.out.alloc (.cells #[.string sv] 9)) (by decide))
           have r1 := hcr.cellAt n (by omega)
           rw [List.getElem?_map, List.getElem?_eq_getElem hkQ, HX.out] at r1
           have r2 := hcr.frozenAt n
           have hne6 : some w.heap.size ≠ (Value.slice b7 nx c7).ownBlock := fun e => by have := (own_shape HO5.out e.symm).1; omega
           have hm6 := (HM5.out.alloc (.cells #[.string sv] 9)).grown hg6 hne6
           have HT6 := Lib.hid (there_grown (World.there_alloc HT5.out (.cells #[.string sv] 9)) hg6 (fun e => by have := (own_shape HO5.out e.symm).1; omega) (by simp; omega))
           have HM6 := Lib.hid hm6; have HCR := Lib.hid hcr; have HO6 := Lib.hid hown6
           have hm7 := hm6.far (b2 := gq) (i := n) (by omega) (.slice b8 (nx + 1) c8)
           have m1 := hm7.cell 2 (u := .slice a n c) rfl
           have m2 := hm7.fz 2
           have hm8 := hm7.set2 (.slice (some ⟨gq, 0, none⟩) (n + 1) gqc)
           have l0 := hm8.cell 0 (u := .int .i64 K) rfl; have l1 := hm8.cell 1 (u := .int .u32 (f : Int)) rfl; have l2 := hm8.cell 2 (u := .slice (some ⟨gq, 0, none⟩) (n + 1) gqc) rfl
           have l3 := hm8.cell 3 (u := .int .i64 s) rfl; have l4 := hm8.cell 4 (u := .string t) rfl; have l5 := hm8.cell 5 (u := .bool kk) rfl
           have HG6 := Lib.hid hg6
           clear hown6 hcr hm6 hm7 hm8 hne6 hg6)
        | (refine wpList_store_mid rfl 57 (.tmp 4) (.tmp 47) rfl (w.heap.size + 1) 0 (mdV K f (.slice (some ⟨gq, 0, none⟩) (n + 1) gqc) s t kk) rfl rfl (there_set (there_set HT6.out)) size_md (mdV_one _ _ _ _ _ _ _ _) ?_))
      obtain ⟨wz, hwz⟩ : ∃ wz, wz = (w6.setCell ⟨gq, n, none⟩ (.slice b8 (nx + 1) c8)).setCell ⟨w.heap.size, 2, none⟩ (.slice (some ⟨gq, 0, none⟩) (n + 1) gqc) := ⟨_, rfl⟩
      have HTZ : wz.there (w.heap.size + 1) 0 6 := by rw [hwz]; exact there_set (there_set HT6.out)
      rw [← hwz]
      have HB6 : Below w.heap.size w w6 := Below.of_grown ((bel2 HB4.out HB5.out).alloc (by have := HB4.out.size; omega) (.cells #[.string sv] 9)) HG6.out (by simp; omega) (fun j e => by have := (own_shape HO5.out e).1; omega)
      have HBZ : Below w.heap.size w wz := by
        rw [hwz]; exact (HB6.setCell (p := ⟨gq, n, none⟩) (by show w.heap.size ≤ gq; omega) _).setCell (p := ⟨w.heap.size, 2, none⟩) (Nat.le_refl _) _
      have HQZ : wz.ownsRow (w.heap.size + 2) 62 1 (.slice (some ⟨gq, 0, none⟩) (n + 1) gqc) ((n + 1)) ((Q.map Rw.v).set (n) (.slice b8 (nx + 1) c8)) := by
        rw [hwz]
        exact own_off (HCR.out.stored (n) (.slice b8 (nx + 1) c8)).1 (by omega) 2 _
      have HOZ : wz.ownsRow wq.heap.size 9 1 (.slice b8 (nx + 1) c8) (nx + 1) (x.vs ++ [.string sv]) := by
        rw [hwz]
        exact own_off (own_off HO6.out (block_lt_of_cell hcell4) (n) _) (by omega) 2 _
      refine bodyPost_ret (v := .agg (mdV K f (.slice (some ⟨gq, 0, none⟩) (n + 1) gqc) s t kk)) (results_cell (p := 4) (ty := 57) (b := w.heap.size + 1) rfl rfl (load_md _ _ _ _ _ _ _ _ HTZ)) rfl ?_
      have HBF := Below_setCells (B := w.heap.size) (b := w.heap.size + 1) (by omega) (mdV K f (.slice (some ⟨gq, 0, none⟩) (n + 1) gqc) s t kk).toList 0 wz HBZ
      have HQF := own_offs HQZ (b := w.heap.size + 1) (by omega) (mdV K f (.slice (some ⟨gq, 0, none⟩) (n + 1) gqc) s t kk).toList 0
      have HOF := own_offs HOZ (b := w.heap.size + 1) (by omega) (mdV K f (.slice (some ⟨gq, 0, none⟩) (n + 1) gqc) s t kk).toList 0
      have hlen : (Q.set (n) ⟨b8, c8, x.vs ++ [.string sv]⟩).length = (n + 1) := by rw [List.length_set]; exact HNQ.out.symm
      have hnx1 : (x.vs ++ [Value.string sv]).length = nx + 1 := by rw [List.length_append, ← HNX.out]; rfl
      refine ⟨⟨some ⟨gq, 0, none⟩, gqc, Q.set (n) ⟨b8, c8, x.vs ++ [.string sv]⟩, ?_, ⟨?_, ?_, ?_, ?_, by rw [hlen]; omega, ?_⟩, by rw [hlen]; omega⟩, HBF⟩
      · unfold mdV; rw [hlen]
      · rw [flat_v, List.map_set]
        have h := RdN.own HQF (U := U) (fun j hj => by have := HU.out j hj; omega)
        rw [show (Rw.v ⟨b8, c8, x.vs ++ [.string sv]⟩) = .slice b8 (nx + 1) c8 by unfold Rw.v; rw [hnx1]]
        exact h
      · obtain ⟨_, _, e, h, _, _⟩ := own_slice HQF
        injection e with _ _ e; rw [hlen, e]; exact h
      · obtain ⟨_, _, e, _, h, _⟩ := own_slice HQF
        injection e with _ _ e
        all_goals (rw [e]; exact h)
      · intro y hy
        rcases List.mem_or_eq_of_mem_set hy with hy | hy
        · exact (HQR.out y hy).elim (fun h => (HM.out.rows y h).below HBF) fun h => h _
        · subst hy
          refine ⟨RdN.own HOF (U := U) (fun j hj => by have := HU.out j hj; omega), by rw [hnx1]; exact hc8a, hc8b, fun u hu => ?_⟩
          rcases List.mem_append.1 hu with hu | hu
          · exact HXO.out u hu
          · rw [List.mem_singleton] at hu; subst hu; rfl
      · intro y hy
        rcases List.mem_or_eq_of_mem_set hy with hy | hy
        · exact Nat.le_trans (HSQ.out y hy) (Nat.le_succ _)
        · subst hy
          show (x.vs ++ [Value.string sv]).length ≤ _
          have := HSQ.out x HXM.out
          rw [← HNX.out] at this
          rw [hnx1]; omega
    · have he2 : ((nx : Int) == K) = false := by simp [he]
      clear he
      have kg : ∀ (d : Nat) (os : Array Obj), (grow (redrawn w3 d) os).cell? ⟨g, k, none⟩ = some (.slice x.a nx x.c) := fun d os => by rw [(below_regrown w3 d os).cell (p := ⟨g, k, none⟩) (block_lt_of_cell hcellk)]; exact hcellk
      have kK : ∀ (d : Nat) (os : Array Obj), (grow (redrawn w3 d) os).cell? ⟨w.heap.size, 0, none⟩ = some (.int .i64 K) := fun d os => (HM3.out.below (below_regrown w3 d os) HM3.out.lt).cell 0 rfl
      go_wp2_with fail
      refine wp_region_quiet_below (by kernel_rfl) (by kernel_rfl) ?_
      iterate 12 (first | go_big_quiet_step (fail) | fail)
      refine wpQuiet_nil ?_
      intro w4 hw'
      obtain ⟨⟨d, os⟩, hw''⟩ := hw'
      have hb4 := below_regrown w3 d os
      rw [← hw''] at hb4
      clear hw'' kg kK
      have HO4 := Lib.hid (own_below HO3.out hb4); have HM4 := Lib.hid (HM3.out.below hb4 HM3.out.lt); have HB4 := Lib.hid (bel2 HB3.out hb4)
      have HT4 := Lib.hid (there_below HT3.out hb4 (by omega)); have HMD4 := Lib.hid (HMD3.out.below hb4)
      have hs4 : w.heap.size + 3 ≤ w4.heap.size := Nat.le_trans hs3 hb4.size
      have hcell4 : w4.cell? ⟨g, k, none⟩ = some (.slice x.a nx x.c) := by rw [hb4.cell (p := ⟨g, k, none⟩) (block_lt_of_cell hcellk)]; exact hcellk
      clear hb4 hcellk hK0
      have HRQ : Hid (∀ y ∈ R, RwN U w4 y) := HMD4.out.rows
      have HSQ : Hid (∀ y ∈ R, y.vs.length ≤ N) := HM.out.small
      have HNQ : Hid (n = R.length) := HN.out
      have hkQ := hkR
      have ka : ∀ o : Obj, (w4.alloc o).cell? ⟨g, k, none⟩ = some (.slice x.a nx x.c) := fun o => by rw [(box1 w4 o).cell (p := ⟨g, k, none⟩) (block_lt_of_cell hcell4)]; exact hcell4
      have HA1 : Hid ((w4.alloc (.cells #[] 9)).ownsRow w4.heap.size 9 1 (.slice (some ⟨w4.heap.size, 0, none⟩) 0 0) 0 []) := World.ownsRow_made w4 #[] 0 (Nat.le_refl _) (by decide) rfl
      have HA2 := Lib.hid (HO4.out.alloc (.cells #[] 9)); have HA3 := Lib.hid (HM4.out.alloc (.cells #[] 9)); have HA4 := Lib.hid (World.there_alloc HT4.out (.cells #[] 9))
      have HXR : Hid (Rd (w4.alloc (.cells #[] 9)) (w4.alloc (.cells #[] 9)).heap.size x.a x.vs) := ((HRQ.out x HXM.out).below (box1 w4 _)).1.rd
      have hxone := (HRQ.out x HXM.out).2.2.2
      have HXO := Lib.hid hxone
      clear hxone
      go_wp2_with (first
        | (at_builtin
           refine wpList_append_rd _ rfl (.tmp 35) (.tmp 39) 62 rfl w4.heap.size 9 i0 _ 1 16 Tryz.underlying62 hi0 hz0 hz1 HZ2.out rfl (by omega) _ 0 [] rfl HA1.out _ _ nx _ x.vs rfl (by rw [Nat.mul_one]; exact HNX.out.symm) HXR.out HXO.out (by unfold maxLen; omega) (by omega) (by simp) ?_
           intro v7 w5 hown5 hg5 _
           rw [Nat.zero_add, List.nil_append] at hown5
           obtain ⟨b7, c7, rfl, _, _, _⟩ := own_slice hown5
           have HO5 := Lib.hid hown5
           have hbl : ∀ j, j < w4.heap.size → some j ≠ (Value.slice (some ⟨w4.heap.size, 0, none⟩) 0 0).ownBlock := fun j hj e => by injection e with e; simp at e; omega
           have HQ5 := Lib.hid (HA2.out.kept hg5 (rows_apart HA2.out HA1.out (by decide)))
           have HM5 := Lib.hid (HA3.out.grown hg5 (hbl _ (by omega)))
           have HB5 := Lib.hid (Below.of_grown (box1 w4 (.cells #[] 9)) hg5 (by simp) (by intro j e; injection e with e; simp at e; omega))
           have HT5 := Lib.hid (there_grown HA4.out hg5 (hbl _ (by omega)) (by simp; omega))
           have hs5 : w4.heap.size + 1 ≤ w5.heap.size := by have := hg5.size; simp at this; exact this
           clear hown5 hg5 hbl)
        | (at_builtin
           refine wpList_append_rd _ rfl (.tmp 40) (.tmp 42) 62 rfl w4.heap.size 9 i0 _ 1 16 Tryz.underlying62 hi0 hz0 hz1 HZ2.out rfl (by omega) _ nx _ rfl (HO5.out.alloc _) _ _ 1 _ [.string sv] rfl rfl (lit_rd w5 #[.string sv] _) (by simp [Value.oneCell']) (by unfold maxLen; omega) (by omega) (by simp; omega) ?_
           intro v8 w6 hown6 hg6 _
           obtain ⟨b8, c8, rfl, hc8a, hc8b, _⟩ := own_slice hown6
           have hcr := (HQ5.out.alloc (.cells #[.string sv] 9)).kept hg6 (rows_apart (HQ5.out.alloc _) (HO5.out.alloc (.cells #[.string sv] 9)) (by decide))
           have r1 := hcr.cellAt k (by omega)
           rw [List.getElem?_map, List.getElem?_eq_getElem hkQ, HX.out] at r1
           have r2 := hcr.frozenAt k
           have hne6 : some w.heap.size ≠ (Value.slice b7 nx c7).ownBlock := fun e => by have := (own_shape HO5.out e.symm).1; omega
           have hm6 := (HM5.out.alloc (.cells #[.string sv] 9)).grown hg6 hne6
           have HT6 := Lib.hid (there_grown (World.there_alloc HT5.out (.cells #[.string sv] 9)) hg6 (fun e => by have := (own_shape HO5.out e.symm).1; omega) (by simp; omega))
           have HM6 := Lib.hid hm6; have HCR := Lib.hid hcr; have HO6 := Lib.hid hown6
           have hm7 := hm6.far (b2 := g) (i := k) (by omega) (.slice b8 (nx + 1) c8)
           have m1 := hm7.cell 2 (u := .slice a n c) rfl
           have m2 := hm7.fz 2
           have hm8 := hm7.set2 (.slice (some ⟨g, 0, none⟩) n gc)
           have l0 := hm8.cell 0 (u := .int .i64 K) rfl; have l1 := hm8.cell 1 (u := .int .u32 (f : Int)) rfl; have l2 := hm8.cell 2 (u := .slice (some ⟨g, 0, none⟩) n gc) rfl
           have l3 := hm8.cell 3 (u := .int .i64 s) rfl; have l4 := hm8.cell 4 (u := .string t) rfl; have l5 := hm8.cell 5 (u := .bool kk) rfl
           have HG6 := Lib.hid hg6
           clear hown6 hcr hm6 hm7 hm8 hne6 hg6)
        | (refine wpList_store_mid rfl 57 (.tmp 4) (.tmp 47) rfl (w.heap.size + 1) 0 (mdV K f (.slice (some ⟨g, 0, none⟩) n gc) s t kk) rfl rfl (there_set (there_set HT6.out)) size_md (mdV_one _ _ _ _ _ _ _ _) ?_))
      obtain ⟨wz, hwz⟩ : ∃ wz, wz = (w6.setCell ⟨g, k, none⟩ (.slice b8 (nx + 1) c8)).setCell ⟨w.heap.size, 2, none⟩ (.slice (some ⟨g, 0, none⟩) n gc) := ⟨_, rfl⟩
      have HTZ : wz.there (w.heap.size + 1) 0 6 := by rw [hwz]; exact there_set (there_set HT6.out)
      rw [← hwz]
      have HB6 : Below w.heap.size w w6 := Below.of_grown ((bel2 HB4.out HB5.out).alloc (by have := HB4.out.size; omega) (.cells #[.string sv] 9)) HG6.out (by simp; omega) (fun j e => by have := (own_shape HO5.out e).1; omega)
      have HBZ : Below w.heap.size w wz := by
        rw [hwz]; exact (HB6.setCell (p := ⟨g, k, none⟩) (by show w.heap.size ≤ g; omega) _).setCell (p := ⟨w.heap.size, 2, none⟩) (Nat.le_refl _) _
      have HQZ : wz.ownsRow (w.heap.size + 2) 62 1 (.slice (some ⟨g, 0, none⟩) n gc) (n) ((R.map Rw.v).set (k) (.slice b8 (nx + 1) c8)) := by
        rw [hwz]
        exact own_off (HCR.out.stored (k) (.slice b8 (nx + 1) c8)).1 (by omega) 2 _
      have HOZ : wz.ownsRow w4.heap.size 9 1 (.slice b8 (nx + 1) c8) (nx + 1) (x.vs ++ [.string sv]) := by
        rw [hwz]
        exact own_off (own_off HO6.out (block_lt_of_cell hcell4) (k) _) (by omega) 2 _
      refine bodyPost_ret (v := .agg (mdV K f (.slice (some ⟨g, 0, none⟩) n gc) s t kk)) (results_cell (p := 4) (ty := 57) (b := w.heap.size + 1) rfl rfl (load_md _ _ _ _ _ _ _ _ HTZ)) rfl ?_
      have HBF := Below_setCells (B := w.heap.size) (b := w.heap.size + 1) (by omega) (mdV K f (.slice (some ⟨g, 0, none⟩) n gc) s t kk).toList 0 wz HBZ
      have HQF := own_offs HQZ (b := w.heap.size + 1) (by omega) (mdV K f (.slice (some ⟨g, 0, none⟩) n gc) s t kk).toList 0
      have HOF := own_offs HOZ (b := w.heap.size + 1) (by omega) (mdV K f (.slice (some ⟨g, 0, none⟩) n gc) s t kk).toList 0
      have hlen : (R.set (k) ⟨b8, c8, x.vs ++ [.string sv]⟩).length = n := by rw [List.length_set]; exact HNQ.out.symm
      have hnx1 : (x.vs ++ [Value.string sv]).length = nx + 1 := by rw [List.length_append, ← HNX.out]; rfl
      refine ⟨⟨some ⟨g, 0, none⟩, gc, R.set (k) ⟨b8, c8, x.vs ++ [.string sv]⟩, ?_, ⟨?_, ?_, ?_, ?_, by rw [hlen]; omega, ?_⟩, by rw [hlen]; omega⟩, HBF⟩
      · unfold mdV; rw [hlen]
      · rw [flat_v, List.map_set]
        have h := RdN.own HQF (U := U) (fun j hj => by have := HU.out j hj; omega)
        rw [show (Rw.v ⟨b8, c8, x.vs ++ [.string sv]⟩) = .slice b8 (nx + 1) c8 by unfold Rw.v; rw [hnx1]]
        exact h
      · obtain ⟨_, _, e, h, _, _⟩ := own_slice HQF
        injection e with _ _ e; rw [hlen, e]; exact h
      · obtain ⟨_, _, e, _, h, _⟩ := own_slice HQF
        injection e with _ _ e
        all_goals (rw [e]; exact h)
      · intro y hy
        rcases List.mem_or_eq_of_mem_set hy with hy | hy
        · exact (HM.out.rows y hy).below HBF
        · subst hy
          refine ⟨RdN.own HOF (U := U) (fun j hj => by have := HU.out j hj; omega), by rw [hnx1]; exact hc8a, hc8b, fun u hu => ?_⟩
          rcases List.mem_append.1 hu with hu | hu
          · exact HXO.out u hu
          · rw [List.mem_singleton] at hu; subst hu; rfl
      · intro y hy
        rcases List.mem_or_eq_of_mem_set hy with hy | hy
        · exact Nat.le_trans (HSQ.out y hy) (Nat.le_succ _)
        · subst hy
          show (x.vs ++ [Value.string sv]).length ≤ _
          have := HSQ.out x HXM.out
          rw [← HNX.out] at this
          rw [hnx1]; omega
end Go.Proofs.YthbgnkkepfbmjaaGreat

