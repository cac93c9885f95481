import Derived.Test.YthfhmohbfoolnaaFm
namespace Go.Proofs.Ythfhmohbfoolnaa
open Go Go.RowKit Go.Sort

def FsVal (w : World) (a : Option Addr) (L : List Fl) (m : FSm) (e : Ending) (w' : World) : Prop :=
  ∃ a' c', e = .returned (fsv a' m.files.length c' m.fuse m.down) ∧ m.files.length ≤ c' ∧ c' ≤ maxLen ∧ Rd w' w'.heap.size a' (flF m.files) ∧ From w a L a' m.files ∧ Below w.heap.size w w'
/-- Crash's loop: what lies where. -/
structure Q3 (w wr : World) (a : Option Addr) (L : List Fl) (fu : Int) (dn : Bool) (T : List Ft) (N : List Nat) (an : Option Addr) (k : Nat) (ai : Option Addr) (ci : Nat) : Prop where
  hk : k ≤ N.length
  c0 : wr.cell? ⟨w.heap.size, 0, none⟩ = some (.slice ai (crashTo L T N k).length ci)
  c1 : wr.cell? ⟨w.heap.size, 1, none⟩ = some (.int .i64 fu)
  c2 : wr.cell? ⟨w.heap.size, 2, none⟩ = some (.bool dn)
  ft : wr.there w.heap.size 0 3
  rs : wr.there (w.heap.size + 1) 0 3
  rd : Rd wr wr.heap.size ai (flF (crashTo L T N k))
  fr : (ai = a ∧ crashTo L T N k = L) ∨ ∀ b o s, ai = some ⟨b, o, s⟩ → w.heap.size + 2 ≤ b
  lc : (crashTo L T N k).length ≤ ci
  cm : ci ≤ maxLen
  nm : Rd wr wr.heap.size an (u32V N)
  fn : ∀ b o s, an = some ⟨b, o, s⟩ → w.heap.size + 2 ≤ b
  bw : RowKit.Below w.heap.size w wr
  sz : w.heap.size + 2 ≤ wr.heap.size
theorem Q3.move {w wr w' : World} {a an ai : Option Addr} {L : List Fl} {fu : Int} {dn : Bool} {T : List Ft} {N : List Nat} {k ci : Nat} (h : Q3 w wr a L fu dn T N an k ai ci) (hb : RowKit.Below wr.heap.size wr w') : Q3 w w' a L fu dn T N an k ai ci := by
  have hs := h.sz
  exact { h with
    c0 := by rw [hb.cell (p := ⟨w.heap.size, 0, none⟩) (by show w.heap.size < _; omega)]; exact h.c0
    c1 := by rw [hb.cell (p := ⟨w.heap.size, 1, none⟩) (by show w.heap.size < _; omega)]; exact h.c1
    c2 := by rw [hb.cell (p := ⟨w.heap.size, 2, none⟩) (by show w.heap.size < _; omega)]; exact h.c2
    ft := there_below h.ft hb (by omega)
    rs := there_below h.rs hb (by omega)
    rd := (h.rd.below hb).more hb.size
    nm := (h.nm.below hb).more hb.size
    bw := h.bw.trans (hb.mono h.bw.size)
    sz := Nat.le_trans hs hb.size }
theorem Q3.next {w wr : World} {a an ai a5 : Option Addr} {L : List Fl} {fu : Int} {dn : Bool} {T : List Ft} {N : List Nat} {k ci c5 : Nat} (h : Q3 w wr a L fu dn T N an k ai ci) (hk : k < N.length)
    (hl : (crashTo L T N (k + 1)).length ≤ c5) (hc : c5 ≤ maxLen) (hr : Rd wr wr.heap.size a5 (flF (crashTo L T N (k + 1)))) (hf : ∀ b o s, a5 = some ⟨b, o, s⟩ → w.heap.size + 2 ≤ b) :
    Q3 w (wr.setCells w.heap.size 0 [.slice a5 (crashTo L T N (k + 1)).length c5, .int .i64 fu, .bool dn]) a L fu dn T N an (k + 1) a5 c5 := by
  obtain ⟨s0, s1, s2⟩ := set3 (u0 := .slice a5 (crashTo L T N (k + 1)).length c5) (u1 := .int .i64 fu) (u2 := .bool dn) h.ft
  refine { hk := hk, c0 := s0, c1 := s1, c2 := s2, ft := World.there_setCells h.ft _ _ _, rs := World.there_setCells h.rs _ _ _, rd := ?_, fr := .inr hf, lc := hl, cm := hc, nm := ?_, fn := h.fn, bw := Below_setCells (Nat.le_refl _) _ 0 _ h.bw, sz := by rw [size_setCells']; exact h.sz }
  · exact (Rd_sets hr _ 0 (fun g o s e => by have := hf g o s e; omega)).more (by rw [size_setCells']; exact Nat.le_refl _)
  · exact (Rd_sets h.nm _ 0 (fun g o s e => by have := h.fn g o s e; omega)).more (by rw [size_setCells']; exact Nat.le_refl _)
theorem left_is0 (x y : Fl) (hy : y = leftF x zeroT) (w : World) (hw : x.now.size ≤ 1000000000000) (hs : x.safe.size ≤ 1000000000000) :
    Calls Try.prog 54 #[x.v, .agg #[.bool false, .int .i64 0, .slice none 0 0]] w fun e w' => e = .returned y.v ∧ Below w.heap.size w w' := by
  subst hy; exact left_any x zeroT w (Rd.nil _ _ _) hw hs
theorem get_is (a : Option Addr) (c : Nat) (L : List Fl) (fu : Int) (dn : Bool) (n : Nat) (x : Fl) (hx : x = getF L n) (w : World) (hr : Rd w w.heap.size a (flF L)) (hl : L.length ≤ 1000000000000) :
    Calls Try.prog 48 #[.agg #[.slice a L.length c, .int .i64 fu, .bool dn], .int .u32 (n : Int)] w fun e w' => e = .returned x.v ∧ Below w.heap.size w w' := by
  subst hx; exact refGetF_any a c L fu dn n w hr hl
theorem left_is (x : Fl) (t : Ft) (y : Fl) (hy : y = leftF x t) (w : World) (hr : Rd w w.heap.size t.ga (bV t.g)) (hw : x.now.size ≤ 1000000000000) (hs : x.safe.size ≤ 1000000000000) :
    Calls Try.prog 54 #[x.v, .agg #[.bool t.keep, .int .i64 t.bytes, .slice t.ga t.g.length t.gc]] w fun e w' => e = .returned y.v ∧ Below w.heap.size w w' := by
  subst hy; exact left_any x t w hr hw hs
theorem Ft_len (t : Ft) : t.l.length = 3 := rfl
theorem fate_elem {w : World} {B : Nat} {a : Option Addr} {T : List Ft} (h : Rd w B a (flatG Ft.l T)) {i : Nat} (hi : i < T.length) : ∃ b off, a = some ⟨b, off, none⟩ ∧ b < B ∧ w.cell? ⟨b, off + i * 3, none⟩ = some (.bool T[i].keep) ∧ w.cell? ⟨b, off + i * 3 + 1, none⟩ = some (.int .i64 T[i].bytes) ∧ w.cell? ⟨b, off + i * 3 + 2, none⟩ = some (.slice T[i].ga T[i].g.length T[i].gc) := by
  obtain ⟨b, off, ha, hb, hc⟩ := Rd.elemG Ft_len (by omega) h hi
  exact ⟨b, off, ha, hb, hc 0 _ rfl, hc 1 _ rfl, hc 2 _ rfl⟩
theorem crashTo_next (L : List Fl) (T : List Ft) (N : List Nat) {k : Nat} (hk : k < N.length) (t : Ft) (ht : T.getD k zeroT = t) : crashTo L T N (k + 1) = putF (crashTo L T N k) (leftF (getF (crashTo L T N k) N[k]) t) := by
  rw [crashTo, ht]; simp [List.getD, hk]
set_option maxRecDepth 20000 in
set_option maxHeartbeats 4000000 in
theorem crash_fs (a la : Option Addr) (c lc : Nat) (m : FSm) (T : List Ft) (w : World) (hr : Rd w w.heap.size a (flF m.files)) (hl : m.files.length ≤ 100000000) (hlc : m.files.length ≤ c) (hc : c ≤ maxLen) (hsz : ∀ x ∈ m.files, SzF 1000000000000 x)
    (hT : Rd w w.heap.size la (flatG Ft.l T)) (hTl : T.length ≤ 100000000) (hTg : ∀ t ∈ T, Rd w w.heap.size t.ga (bV t.g)) :
    Calls Try.prog 39 #[fsv a m.files.length c m.fuse m.down, .slice la T.length lc] w (FsVal w a m.files (crashF m T)) := by
  have HR := Lib.hid hr; have HC := Lib.hid hc; have HSZ := Lib.hid hsz; have HT := Lib.hid hT; have HTG := Lib.hid hTg; clear hr hc hsz hT hTg
  obtain ⟨L, fu, dn⟩ := m
  simp only at *
  unfold fsv
  go_enter Try.func39, Try.ntmps39
  go_wp2_with fail
  obtain ⟨W2, hW2⟩ : ∃ W2, W2 = ((w.alloc (.cells #[.slice a L.length c, .int .i64 fu, .bool dn] 28)).alloc (.cells #[.slice none 0 0, .int .i64 0, .bool false] 28)) := ⟨_, rfl⟩
  rw [← hW2]
  have HS2 : Hid (W2.heap.size = w.heap.size + 2) := by show _ = _; rw [hW2]; simp
  have HB2 : Hid (Below w.heap.size w W2) := by show Below _ _ _; rw [hW2]; exact (box1 w _).alloc (by simp) _
  have HRES : Hid (W2.there (w.heap.size + 1) 0 3) := by
    show W2.there _ _ _; rw [hW2]
    exact there_last _ #[.slice none 0 0, .int .i64 0, .bool false] 28 _ 3 rfl (by simp)
  have HFT : Hid (W2.there w.heap.size 0 3) := by
    show W2.there _ _ _; rw [hW2]
    exact World.there_alloc (there_last w #[.slice a L.length c, .int .i64 fu, .bool dn] 28 _ 3 rfl rfl) _
  have C0 : Hid (W2.cell? ⟨w.heap.size, 0, none⟩ = some (.slice a L.length c)) := by show _ = _; rw [hW2]; go_simp
  have C1 : Hid (W2.cell? ⟨w.heap.size, 1, none⟩ = some (.int .i64 fu)) := by show _ = _; rw [hW2]; go_simp
  have C2 : Hid (W2.cell? ⟨w.heap.size, 2, none⟩ = some (.bool dn)) := by show _ = _; rw [hW2]; go_simp
  have HR2 : Hid (Rd W2 W2.heap.size a (flF L)) := (HR.out.below HB2.out).more (by rw [HS2.out]; omega)
  clear hW2
  obtain ⟨N, hN⟩ : ∃ N, N = numsF true L := ⟨_, rfl⟩
  have hNl : N.length ≤ L.length := by rw [hN]; exact numsF_le true L
  refine (unsafe_fs a c L fu dn W2 HR2.out (by omega)).mono ?_
  rw [← hN]
  rintro e w1 ⟨an, cn, rfl, _, _, hnr, hnf, hb1⟩
  have HN := Lib.hid hN
  have HQ0 : Hid (Q3 w w1 a L fu dn T N an 0 a c) := by
    show Q3 _ _ _ _ _ _ _ _ _ _ _ _
    exact { hk := Nat.zero_le _
            c0 := by rw [hb1.cell (p := ⟨w.heap.size, 0, none⟩) (by show w.heap.size < _; rw [HS2.out]; omega)]; exact C0.out
            c1 := by rw [hb1.cell (p := ⟨w.heap.size, 1, none⟩) (by show w.heap.size < _; rw [HS2.out]; omega)]; exact C1.out
            c2 := by rw [hb1.cell (p := ⟨w.heap.size, 2, none⟩) (by show w.heap.size < _; rw [HS2.out]; omega)]; exact C2.out
            ft := there_below HFT.out hb1 (by rw [HS2.out]; omega)
            rs := there_below HRES.out hb1 (by rw [HS2.out]; omega)
            rd := (HR2.out.below hb1).more hb1.size
            fr := .inl ⟨rfl, rfl⟩
            lc := hlc
            cm := HC.out
            nm := hnr
            fn := fun b o s e => by have := hnf b o s e; rw [HS2.out] at this; exact this
            bw := HB2.out.trans (hb1.mono (by rw [HS2.out]; omega))
            sz := by have := hb1.size; rw [HS2.out] at this; exact this }
  clear hnr hnf hb1 hN
  go_wp2_with fail
  go_loopw [6] (fun i wr => ∃ (k : Nat) (ai : Option Addr) (ci : Nat), i = .int .i64 k ∧ Q3 w wr a L fu dn T N an k ai ci) (fun i _ => N.length - (intOf i).toNat)
  case atStart => exact ⟨0, a, c, rfl, HQ0.out⟩
  case round =>
    obtain ⟨k, ai, ci, rfl, hq⟩ := hrel
    have hk := hq.hk
    have HQ := Lib.hid hq
    clear hq
    by_cases hlt : k < N.length
    · obtain ⟨bn, on, han, hbl, en⟩ := u32_elem HQ.out.nm hlt
      subst han
      have i1 : (0 : Int) ≤ (k : Int) := by omega
      have i2 : (k : Int) < (N.length : Int) := by omega
      by_cases hkT : k < T.length
      · obtain ⟨bt, ot, hat, hbt, t0, t1, t2⟩ := fate_elem (HT.out.below HQ.out.bw) hkT
        subst hat
        have i3 : (k : Int) < (T.length : Int) := by omega
        obtain ⟨t, ht⟩ : ∃ t, t = T[k] := ⟨_, rfl⟩
        have HTK : Hid (T.getD k zeroT = t) := by show _ = _; rw [ht]; simp [List.getD, hkT]
        have hg1 := HTG.out t (by rw [ht]; exact List.getElem_mem _)
        have HG1 := Lib.hid hg1
        clear hg1
        rw [← ht] at t0 t1 t2
        clear ht
        have nbt : bt < wr.heap.size := by have := HQ.out.sz; omega
        go_wp2_with fail
        have HNX := Lib.hid (crashTo_next L T N hlt t HTK.out)
        have HTW : Hid (Rd wr wr.heap.size t.ga (bV t.g)) := (HG1.out.below HQ.out.bw).more HQ.out.bw.size
        obtain ⟨nn, hnn⟩ : ∃ nn, nn = N[k] := ⟨_, rfl⟩
        rw [← hnn] at en HNX
        clear hnn
        obtain ⟨W, hW⟩ : ∃ W, W = wr.alloc (.cells #[.bool t.keep, .int .i64 t.bytes, .slice t.ga t.g.length t.gc] 52) := ⟨_, rfl⟩
        have hbW : RowKit.Below wr.heap.size wr W := by rw [hW]; exact box1 _ _
        have HQW := Lib.hid (HQ.out.move hbW)
        have hWT : W.cell? ⟨wr.heap.size, 0, none⟩ = some (.bool t.keep) ∧ W.cell? ⟨wr.heap.size, 1, none⟩ = some (.int .i64 t.bytes) ∧ W.cell? ⟨wr.heap.size, 2, none⟩ = some (.slice t.ga t.g.length t.gc) := by
          rw [hW]; refine ⟨?_, ?_, ?_⟩ <;> simp
        have enW : W.cell? ⟨bn, on + k, none⟩ = some (.int .u32 (nn : Int)) := by rw [hbW.cell (p := ⟨bn, on + k, none⟩) hbl]; exact en
        have HTWW : Hid (Rd W W.heap.size t.ga (bV t.g)) := (HTW.out.below hbW).more hbW.size
        rw [← hW]
        clear hW hbW
        have k0 := fun d os => cell_regrown HQW.out.c0 d os
        have k1 := fun d os => cell_regrown HQW.out.c1 d os
        have k2 := fun d os => cell_regrown HQW.out.c2 d os
        have k3 := fun d os => cell_regrown enW d os
        have k4 := fun d os => cell_regrown hWT.1 d os
        have k5 := fun d os => cell_regrown hWT.2.1 d os
        have k6 := fun d os => cell_regrown hWT.2.2 d os
        obtain ⟨Lk, hLk⟩ : ∃ Lk, Lk = crashTo L T N k := ⟨_, rfl⟩
        have hLl : Lk.length ≤ 200000000 := by rw [hLk]; have := crashTo_le L T N k; omega
        have HSK : Hid (∀ y ∈ Lk, SzF 1000000000000 y) := by show ∀ y ∈ Lk, _; rw [hLk]; exact crashTo_sz T N HSZ.out k
        rw [← hLk] at k0 HNX
        have HRK : Hid (Rd W W.heap.size ai (flF Lk)) := by show Rd _ _ _ _; rw [hLk]; exact HQW.out.rd
        obtain ⟨x, hx⟩ : ∃ x, x = getF Lk nn := ⟨_, rfl⟩
        obtain ⟨hxs1, hxs2⟩ : x.now.size ≤ 1000000000000 ∧ x.safe.size ≤ 1000000000000 := by rw [hx]; exact get_sz HSK.out nn
        obtain ⟨y, hy⟩ : ∃ y, y = leftF x t := ⟨_, rfl⟩
        rw [← hx, ← hy] at HNX
        have HX := Lib.hid hx; have HY := Lib.hid hy; have HLK := Lib.hid hLk; have HXS1 := Lib.hid hxs1; have HXS2 := Lib.hid hxs2
        clear hx hy hLk hxs1 hxs2
        refine wp_region_below_tail 9 (by kernel_rfl) (by kernel_rfl) ?_
        simp only [List.take_succ_cons, List.take_zero, List.drop_succ_cons, List.drop_zero]
        iterate 9 (first | go_big_quiet_step (first
          | (go_at_call 48; with_reducible (show Calls Try.prog 48 #[.agg #[.slice ai Lk.length ci, .int .i64 fu, .bool dn], .int .u32 (nn : Int)] _ _); go_loud (exact Calls.regrown_of (get_is ai ci Lk fu dn nn x HX.out _ ((HRK.out.below (below_regrown W _ _)).more (below_regrown W _ _).size) (by omega))))
          | (go_at_call 54; with_reducible (show Calls Try.prog 54 #[x.v, .agg #[.bool t.keep, .int .i64 t.bytes, .slice t.ga t.g.length t.gc]] _ _); go_loud (exact Calls.regrown_of (left_is x t y HY.out _ ((HTWW.out.below (below_regrown W _ _)).more (below_regrown W _ _).size) HXS1.out HXS2.out)))) | fail)
        refine wpQuiet_nil ?_
        intro W3 hw'
        obtain ⟨⟨d, os⟩, hw''⟩ := hw'
        have hb3 := below_regrown W d os
        rw [← hw''] at hb3
        clear hw'' k0 k1 k2 k3 k4 k5 k6
        have HQ3 := Lib.hid (HQW.out.move hb3)
        go_wp2_with fail
        refine (put_fs ai ci Lk fu dn y W3 ((HRK.out.below hb3).more hb3.size) (by omega)).mono ?_
        rintro e w5 ⟨a5, c5, rfl, q1, q2, q3, q4, q5⟩
        simp only at q1 q3
        have HQ5 := Lib.hid (HQ3.out.move q5)
        have fr : ∀ b o s, a5 = some ⟨b, o, s⟩ → w.heap.size + 2 ≤ b := fun b o s e => by have := q4 b o s e; have := HQ3.out.sz; omega
        have HQ6 := Lib.hid (HQ5.out.next hlt (by rw [HNX.out]; exact q1) q2 (by rw [HNX.out]; exact q3) fr)
        rw [HNX.out] at HQ6
        obtain ⟨z0, z1, z2, p0, p1, p2, r0, r1, r2⟩ := there3 HQ5.out.ft
        clear q1 q2 q3 q4 q5 fr hb3
        unfold fsv
        simp only
        go_wp2_with fail
        go_roundw
        case rel => exact ⟨k + 1, a5, c5, by go_num, HQ6.out⟩
        case measure => simp [intOf]; omega
      · have HTK : Hid (T.getD k zeroT = zeroT) := by show _ = _; simp [List.getD, hkT]
        go_wp2_with fail
        have HNX := Lib.hid (crashTo_next L T N hlt zeroT HTK.out)
        obtain ⟨nn, hnn⟩ : ∃ nn, nn = N[k] := ⟨_, rfl⟩
        rw [← hnn] at en HNX
        clear hnn
        obtain ⟨W, hW⟩ : ∃ W, W = wr.alloc (.cells #[.bool false, .int .i64 0, .slice none 0 0] 52) := ⟨_, rfl⟩
        have hbW : RowKit.Below wr.heap.size wr W := by rw [hW]; exact box1 _ _
        have HQW := Lib.hid (HQ.out.move hbW)
        have hWT : W.cell? ⟨wr.heap.size, 0, none⟩ = some (.bool false) ∧ W.cell? ⟨wr.heap.size, 1, none⟩ = some (.int .i64 0) ∧ W.cell? ⟨wr.heap.size, 2, none⟩ = some (.slice none 0 0) := by
          rw [hW]; refine ⟨?_, ?_, ?_⟩ <;> simp
        have enW : W.cell? ⟨bn, on + k, none⟩ = some (.int .u32 (nn : Int)) := by rw [hbW.cell (p := ⟨bn, on + k, none⟩) hbl]; exact en
        rw [← hW]
        clear hW hbW
        have k0 := fun d os => cell_regrown HQW.out.c0 d os
        have k1 := fun d os => cell_regrown HQW.out.c1 d os
        have k2 := fun d os => cell_regrown HQW.out.c2 d os
        have k3 := fun d os => cell_regrown enW d os
        have k4 := fun d os => cell_regrown hWT.1 d os
        have k5 := fun d os => cell_regrown hWT.2.1 d os
        have k6 := fun d os => cell_regrown hWT.2.2 d os
        obtain ⟨Lk, hLk⟩ : ∃ Lk, Lk = crashTo L T N k := ⟨_, rfl⟩
        have hLl : Lk.length ≤ 200000000 := by rw [hLk]; have := crashTo_le L T N k; omega
        have HSK : Hid (∀ y ∈ Lk, SzF 1000000000000 y) := by show ∀ y ∈ Lk, _; rw [hLk]; exact crashTo_sz T N HSZ.out k
        rw [← hLk] at k0 HNX
        have HRK : Hid (Rd W W.heap.size ai (flF Lk)) := by show Rd _ _ _ _; rw [hLk]; exact HQW.out.rd
        obtain ⟨x, hx⟩ : ∃ x, x = getF Lk nn := ⟨_, rfl⟩
        obtain ⟨hxs1, hxs2⟩ : x.now.size ≤ 1000000000000 ∧ x.safe.size ≤ 1000000000000 := by rw [hx]; exact get_sz HSK.out nn
        obtain ⟨y, hy⟩ : ∃ y, y = leftF x zeroT := ⟨_, rfl⟩
        rw [← hx, ← hy] at HNX
        have HX := Lib.hid hx; have HY := Lib.hid hy; have HLK := Lib.hid hLk; have HXS1 := Lib.hid hxs1; have HXS2 := Lib.hid hxs2
        clear hx hy hLk hxs1 hxs2
        refine wp_region_below_tail 9 (by kernel_rfl) (by kernel_rfl) ?_
        simp only [List.take_succ_cons, List.take_zero, List.drop_succ_cons, List.drop_zero]
        iterate 9 (first | go_big_quiet_step (first
          | (go_at_call 48; with_reducible (show Calls Try.prog 48 #[.agg #[.slice ai Lk.length ci, .int .i64 fu, .bool dn], .int .u32 (nn : Int)] _ _); go_loud (exact Calls.regrown_of (get_is ai ci Lk fu dn nn x HX.out _ ((HRK.out.below (below_regrown W _ _)).more (below_regrown W _ _).size) (by omega))))
          | (go_at_call 54; with_reducible (show Calls Try.prog 54 #[x.v, .agg #[.bool false, .int .i64 0, .slice none 0 0]] _ _); go_loud (exact Calls.regrown_of (left_is0 x y HY.out _ HXS1.out HXS2.out)))) | fail)
        refine wpQuiet_nil ?_
        intro W3 hw'
        obtain ⟨⟨d, os⟩, hw''⟩ := hw'
        have hb3 := below_regrown W d os
        rw [← hw''] at hb3
        clear hw'' k0 k1 k2 k3 k4 k5 k6
        have HQ3 := Lib.hid (HQW.out.move hb3)
        go_wp2_with fail
        refine (put_fs ai ci Lk fu dn y W3 ((HRK.out.below hb3).more hb3.size) (by omega)).mono ?_
        rintro e w5 ⟨a5, c5, rfl, q1, q2, q3, q4, q5⟩
        simp only at q1 q3
        have HQ5 := Lib.hid (HQ3.out.move q5)
        have fr : ∀ b o s, a5 = some ⟨b, o, s⟩ → w.heap.size + 2 ≤ b := fun b o s e => by have := q4 b o s e; have := HQ3.out.sz; omega
        have HQ6 := Lib.hid (HQ5.out.next hlt (by rw [HNX.out]; exact q1) q2 (by rw [HNX.out]; exact q3) fr)
        rw [HNX.out] at HQ6
        obtain ⟨z0, z1, z2, p0, p1, p2, r0, r1, r2⟩ := there3 HQ5.out.ft
        clear q1 q2 q3 q4 q5 fr hb3
        unfold fsv
        simp only
        go_wp2_with fail
        go_roundw
        case rel => exact ⟨k + 1, a5, c5, by go_num, HQ6.out⟩
        case measure => simp [intOf]; omega
    · have : k = N.length := by omega
      subst this
      have hc0 := HQ.out.c0
      have hc1 := HQ.out.c1
      have hc2 := HQ.out.c2
      obtain ⟨hf0, hf1, hf2⟩ : wr.frozen? ⟨w.heap.size, 0, none⟩ = false ∧ wr.frozen? ⟨w.heap.size, 1, none⟩ = false ∧ wr.frozen? ⟨w.heap.size, 2, none⟩ = false := by
        obtain ⟨_, _, _, _, _, _, b0, b1, b2⟩ := there3 HQ.out.ft
        exact ⟨b0, b1, b2⟩
      obtain ⟨z0, z1, z2, p0, p1, p2, r0, r1, r2⟩ := there3 HQ.out.rs
      go_wp2_with fail
      have HCR : Hid (crashF ⟨L, fu, dn⟩ T = ⟨crashTo L T N N.length, -1, false⟩) := by show _ = _; unfold crashF; rw [HN.out]
      obtain ⟨Li, hLi⟩ : ∃ Li, Li = crashTo L T N N.length := ⟨_, rfl⟩
      rw [← hLi] at HCR ⊢
      have hrd := HQ.out.rd; have hfr := HQ.out.fr; have hlc' := HQ.out.lc; have hcm := HQ.out.cm
      rw [← hLi] at hrd hfr hlc'
      obtain ⟨X, hX⟩ : ∃ X, X = ((wr.setCell ⟨w.heap.size, 2, none⟩ (.bool false)).setCell ⟨w.heap.size, 1, none⟩ (.int .i64 (-1))) := ⟨_, rfl⟩
      have TX : X.there (w.heap.size + 1) 0 3 := by rw [hX]; exact World.there_setCells (World.there_setCells HQ.out.rs w.heap.size 2 [.bool false]) w.heap.size 1 [.int .i64 (-1)]
      have BX : Below w.heap.size w X := by rw [hX]; exact (HQ.out.bw.setCell (Nat.le_refl _) _).setCell (Nat.le_refl _) _
      have SX : X.heap.size = wr.heap.size := by rw [hX]; simp
      have RX : (∀ b o s, ai = some ⟨b, o, s⟩ → w.heap.size + 2 ≤ b) → Rd X wr.heap.size ai (flF Li) := fun hf => by
        rw [hX]
        exact Rd_sets (Rd_sets hrd [.bool false] 2 (b := w.heap.size) (fun g o s e => by have := hf g o s e; omega)) [.int .i64 (-1)] 1 (b := w.heap.size) (fun g o s e => by have := hf g o s e; omega)
      rw [← hX]
      refine bodyPost_ret (v := fsv ai Li.length ci (-1) false) (results_cell (p := 4) (ty := 28) (b := w.heap.size + 1) rfl rfl (load_fs X (w.heap.size + 1) #[.slice ai Li.length ci, .int .i64 (-1), .bool false] TX)) rfl ?_
      rw [HCR.out]
      obtain ⟨WC, hWC⟩ : ∃ WC, WC = X.setCells (w.heap.size + 1) 0 [.slice ai Li.length ci, .int .i64 (-1), .bool false] := ⟨_, rfl⟩
      have bc : Below w.heap.size w WC := by rw [hWC]; exact Below_setCells (by omega) _ 0 _ BX
      have sc : WC.heap.size = wr.heap.size := by rw [hWC, size_setCells', SX]
      have rc : Rd WC WC.heap.size ai (flF Li) := by
        rcases hfr with ⟨h1, h2⟩ | h
        · rw [h1, h2]; exact (HR.out.below bc).more bc.size
        · rw [hWC]; exact (Rd_sets (RX h) _ 0 (fun g o s e => by have := h g o s e; omega)).more (by rw [← hWC, sc]; exact Nat.le_refl _)
      have key : FsVal w a L ⟨Li, -1, false⟩ (.returned (fsv ai Li.length ci (-1) false)) WC :=
        ⟨ai, ci, rfl, hlc', hcm, rc, hfr.imp id (fun h b o s e => by have := h b o s e; omega), bc⟩
      rw [hWC] at key
      exact key
end Go.Proofs.Ythfhmohbfoolnaa
