import Derived.Test.YthfhmohbfoolnaaFv
namespace Go.Proofs.Ythfhmohbfoolnaa
open Go Go.RowKit Go.Sort

/-- An act that lies in a block. -/
def ActBox (w : World) (b : Nat) (a : Ac) : Prop := b < w.heap.size ∧ w.cell? ⟨b, 0, none⟩ = some (.int .i64 a.kind) ∧ w.cell? ⟨b, 1, none⟩ = some (.int .u32 (a.n : Int)) ∧ w.cell? ⟨b, 2, none⟩ = some (.slice a.ba a.body.length a.bc) ∧ w.cell? ⟨b, 3, none⟩ = some (.int .i64 a.size) ∧ w.cell? ⟨b, 4, none⟩ = some (.slice a.fa a.fates.length a.fc)
theorem ActBox.new (w : World) (a : Ac) : ActBox (w.alloc (.cells #[.int .i64 a.kind, .int .u32 (a.n : Int), .slice a.ba a.body.length a.bc, .int .i64 a.size, .slice a.fa a.fates.length a.fc] 38)) w.heap.size a := by
  refine ⟨by simp, ?_, ?_, ?_, ?_, ?_⟩ <;> simp
theorem ActBox.off {w w' : World} {b : Nat} {a : Ac} {S : Nat → Prop} (h : ActBox w b a) (ho : Off S w w') (hs : ¬ S b) : ActBox w' b a := by
  obtain ⟨hb, h0, h1, h2, h3, h4⟩ := h
  refine ⟨Nat.lt_of_lt_of_le hb ho.size, ?_, ?_, ?_, ?_, ?_⟩
  · rw [ho.cell (p := ⟨b, 0, none⟩) hb hs]; exact h0
  · rw [ho.cell (p := ⟨b, 1, none⟩) hb hs]; exact h1
  · rw [ho.cell (p := ⟨b, 2, none⟩) hb hs]; exact h2
  · rw [ho.cell (p := ⟨b, 3, none⟩) hb hs]; exact h3
  · rw [ho.cell (p := ⟨b, 4, none⟩) hb hs]; exact h4
set_option maxRecDepth 20000 in
set_option maxHeartbeats 8000000 in
theorem simfalls_any (K : FsKit) (la : Option Addr) (lc : Nat) (L : List Ac) (f : Nat) (w : World) (hr : Rd w w.heap.size la (flA L)) (ha : ∀ a ∈ L, AcArg w a) (hf : f < 256) :
    Calls Try.prog 6 #[.slice la L.length lc, .int .u8 (f : Int)] w fun e w' => e = .returned (.bool true) ∧ Below w.heap.size w w' := by
  have HR := Lib.hid hr; have HARGS := Lib.hid ha; clear hr ha
  go_enter Try.func6, Try.ntmps6
  go_wp2_with fail
  refine (great_any la lc L w HR.out (fun a ha => ⟨Nat.le_trans (HARGS.out a ha).bc (HARGS.out a ha).bm, Nat.le_trans (HARGS.out a ha).fc (HARGS.out a ha).fm⟩)).mono ?_
  cases hg : greatB L
  case true =>
    rintro e w1 ⟨rfl, hb1⟩
    have HB1 := Lib.hid hb1; clear hb1
    go_wp2_with fail
    refine (fixed_any K w1).mono ?_
    rintro e w2 ⟨rfl, hb2⟩
    have HB2 := Lib.hid (bel2 HB1.out hb2); clear hb2
    go_wp2_with fail
    go_ret
    exact ⟨rfl, HB2.out⟩
  rintro e w1 ⟨rfl, hb1⟩
  have HB1 := Lib.hid hb1
  obtain ⟨hlen, hwide⟩ := great_no hg
  have HLen := Lib.hid hlen; have HWide := Lib.hid hwide
  clear hb1 hg hwide
  go_wp2_with fail
  refine (K.new w1).mono ?_
  rintro e w2 ⟨p, S, R, rfl, hf2, hs2, _, hb2⟩
  have HF2 := Lib.hid hf2; have HB2 := Lib.hid (bel2 HB1.out hb2); have HS2 : Hid (∀ k, S k → w.heap.size ≤ k) := fun k hk => Nat.le_trans HB1.out.size (hs2 k hk)
  clear hf2 hs2 hb2
  go_wp2_with fail
  refine (K.fuse w2 S R p newF (f : Int) HF2.out (by omega) (by omega)).mono ?_
  rintro e w3 ⟨S3, R3, rfl, hf3, hd3⟩
  have HQ0 : Hid (Q5 K w w3 p f 0 0 S3 R3 { newF with fuse := max (f : Int) (-1) }) := by
    show Q5 _ _ _ _ _ _ _ _ _ _
    exact { fs := hf3, lim := lim_new, fu := by show 0 ≤ max (f : Int) (-1); omega, dn := fun _ => by show max (f : Int) (-1) = _; omega, df := Nat.zero_le _, lo := fun k hk => (hd3.s k hk).elim (HS2.out k) (fun h => Nat.le_trans HB2.out.size h), bw := HB2.out.trans (hd3.off.below HB2.out.size HS2.out) }
  clear hf3 hd3
  go_wp2_with fail
  go_loopw [6, 24] (fun dv i wr => ∃ (k d : Nat) (S R : Nat → Prop) (m : FSm), k ≤ L.length ∧ i = .int .i64 k ∧ dv = .int .i64 (d : Int) ∧ Q5 K w wr p f k d S R m) (fun _ i _ => L.length - (intOf i).toNat)
  case atStart => exact ⟨0, 0, S3, R3, _, Nat.zero_le _, rfl, rfl, HQ0.out⟩
  case round =>
    obtain ⟨k, d, S, R, m, hk, rfl, rfl, hq⟩ := hrel
    have HQ := Lib.hid hq
    have hdf := hq.df
    have HFU := Lib.hid hq.fu
    have HDN := Lib.hid hq.dn
    clear hq
    by_cases hlt : k < L.length
    · obtain ⟨b, off, hla, hbl, e0, e1, e2, e3, e4⟩ := act_elem (HR.out.below HQ.out.bw) hlt
      subst hla
      have i1 : (0 : Int) ≤ (k : Int) := by omega
      have i2 : (k : Int) < (L.length : Int) := by omega
      have HARG := Lib.hid (HARGS.out L[k] (List.getElem_mem _))
      have HW4 := Lib.hid (HWide.out L[k] (List.getElem_mem _))
      generalize L[k] = a at *
      obtain ⟨kd, n, ba, bc, body, sz, fa, fc, fates⟩ := a
      simp only at e0 e1 e2 e3 e4
      have nb : b < wr.heap.size := Nat.lt_of_lt_of_le hbl HQ.out.bw.size
      by_cases h56 : kd = 5 ∨ kd = 6
      · have HB5 := Lib.hid (HQ.out.more.below (box1 wr (.cells #[.int .i64 kd, .int .u32 (n : Int), .slice ba body.length bc, .int .i64 sz, .slice fa fates.length fc] 38)))
        rcases h56 with rfl | rfl
        all_goals
          go_wp2_with fail
          go_roundw
          case rel => exact ⟨k + 1, d, S, R, m, by omega, by go_num, rfl, HB5.out⟩
          case measure => simp [intOf]; omega
      · by_cases hin : 0 ≤ kd ∧ kd ≤ 4
        · skip
          obtain ⟨hk0, hk4⟩ := hin
          have d0 : decide (0 ≤ kd) = true := decide_eq_true hk0
          have d4 : decide (kd ≤ 4) = true := decide_eq_true hk4
          have q5 : (kd == 5) = false := beq_eq_false_iff_ne.2 (by omega)
          have q6 : (kd == 6) = false := beq_eq_false_iff_ne.2 (by omega)
          go_wp2_with fail
          obtain ⟨W, hW⟩ : ∃ W, W = wr.alloc (.cells #[.int .i64 kd, .int .u32 (n : Int), .slice ba body.length bc, .int .i64 sz, .slice fa fates.length fc] 38) := ⟨_, rfl⟩
          have hbW : Below wr.heap.size wr W := by rw [hW]; exact box1 _ _
          have HA0 : Hid (ActBox W wr.heap.size ⟨kd, n, ba, bc, body, sz, fa, fc, fates⟩) := by
            show ActBox _ _ _; rw [hW]; exact ActBox.new wr ⟨kd, n, ba, bc, body, sz, fa, fc, fates⟩
          have HQW := Lib.hid (HQ.out.below hbW)
          have HSW : Hid (¬ S wr.heap.size) := fun h => by have := (K.low HQ.out.fs).1 _ h; omega
          rw [← hW]
          clear hW hbW
          refine (K.down W S R p m HQW.out.fs).mono ?_
          rintro e w2 ⟨S2, R2, rfl, hf2, hd2⟩
          have HQ2 := Lib.hid (HQW.out.did hf2 hd2)
          have HA2 := Lib.hid (HA0.out.off hd2.off HSW.out)
          have HS2 : Hid (¬ S2 wr.heap.size) := fun h => (hd2.s _ h).elim HSW.out (fun h' => by have := HA0.out.1; omega)
          clear hf2 hd2
          go_wp2_with fail
          refine (K.unsafe_ w2 S2 R2 p m HQ2.out.fs (HQ2.out.lim.bnd (by have := HLen.out; omega))).mono ?_
          rintro e w3 ⟨S3, R3, a3, c3, rfl, _, _, _, hf3, hd3⟩
          have HQ3 := Lib.hid (HQ2.out.did hf3 hd3)
          have HA3 := Lib.hid (HA2.out.off hd3.off HS2.out)
          have HS3 : Hid (¬ S3 wr.heap.size) := fun h => (hd3.s _ h).elim HS2.out (fun h' => by have := HA2.out.1; omega)
          clear hf3 hd3
          obtain ⟨v0, v1, v2, v3, v4⟩ := HA3.out.2
          go_wp2_with fail
          refine (do_any K S3 R3 p m ⟨kd, n, ba, bc, body, sz, fa, fc, fates⟩ w3 HQ3.out.fs (HQ3.out.lim.bnd (by have := HLen.out; omega)) (HARG.out.in HQ3.out.bw HQ3.out.lo HW4.out.1 HW4.out.2)).mono ?_
          rintro e w4 ⟨S4, R4, rfl, hf4, hd4⟩
          have HA4 := Lib.hid (HA3.out.off hd4.off HS3.out)
          have HS4 : Hid (¬ S4 wr.heap.size) := fun h => (hd4.s _ h).elim HS3.out (fun h' => by have := HA3.out.1; omega)
          have HLO4 : Hid (∀ k, S4 k → w.heap.size ≤ k) := fun k hk => (hd4.s k hk).elim (HQ3.out.lo k) (fun h' => Nat.le_trans HQ3.out.bw.size h')
          have HBW4 : Hid (Below w.heap.size w w4) := HQ3.out.bw.trans (hd4.off.below HQ3.out.bw.size HQ3.out.lo)
          have HF4 := Lib.hid hf4
          have HLIM := Lib.hid (do_lim HQ3.out.lim (K.ok HQ3.out.fs) ⟨kd, n, ba, bc, body, sz, fa, fc, fates⟩ HW4.out.1 HARG.out.s1 HARG.out.s2)
          clear hf4 hd4 v0 v1 v2 v3 v4
          obtain ⟨v0, v1, v2, v3, v4⟩ := HA4.out.2
          have HCASE := do_falls (K.ok HQ.out.fs) (a := ⟨kd, n, ba, bc, body, sz, fa, fc, fates⟩) hk0 hk4 HFU.out
          obtain ⟨r, hr⟩ : ∃ r, r = doF m ⟨kd, n, ba, bc, body, sz, fa, fc, fates⟩ := ⟨_, rfl⟩
          rw [← hr] at HF4 HLIM HCASE ⊢
          clear hr
          simp only at HCASE
          rcases HCASE with ⟨hdn, rfl⟩ | ⟨hdn, hr1, hr0, hr7⟩ | ⟨hdn, hf0, hr7, hrd, hrf, hfiles⟩ | ⟨hdn, hf0, hr0, hrd, hrf⟩
          · skip
            simp only at HF4 HLIM ⊢
            by_cases k3 : kd = 3
            · have q3 : (kd == 3) = true := by simp [k3]
              go_wp2_with fail
              refine (K.unsafe_ w4 S4 R4 p m HF4.out (HLIM.out.1.bnd (by have := HLen.out; omega))).mono ?_
              rintro e w5 ⟨S5, R5, a5, c5, rfl, _, _, _, hf5, hd5⟩
              have HF5 := Lib.hid hf5
              have HA5 := Lib.hid (HA4.out.off hd5.off HS4.out)
              have HLO5 : Hid (∀ k, S5 k → w.heap.size ≤ k) := fun k hk => (hd5.s k hk).elim (HLO4.out k) (fun h' => Nat.le_trans HBW4.out.size h')
              have HBW5 : Hid (Below w.heap.size w w5) := HBW4.out.trans (hd5.off.below HBW4.out.size HLO4.out)
              clear hf5 hd5 v0 v1 v2 v3 v4
              obtain ⟨v0, v1, v2, v3, v4⟩ := HA5.out.2
              go_wp2_with fail
              refine (K.down w5 S5 R5 p m HF5.out).mono ?_
              rintro e w6 ⟨S6, R6, rfl, hf6, hd6⟩
              have HF6 := Lib.hid hf6
              have HLO6 : Hid (∀ k, S6 k → w.heap.size ≤ k) := fun k hk => (hd6.s k hk).elim (HLO5.out k) (fun h' => Nat.le_trans HBW5.out.size h')
              have HBW6 : Hid (Below w.heap.size w w6) := HBW5.out.trans (hd6.off.below HBW5.out.size HLO5.out)
              clear hf6 hd6
              go_wp2_with fail
              go_roundw
              case rel => exact ⟨k + 1, d, S6, R6, m, by omega, by go_num, by go_num, { fs := HF6.out, lim := HLIM.out.1, fu := (HFU.out), dn := (HDN.out), df := (hdf), lo := HLO6.out, bw := HBW6.out }⟩
              case measure => simp [intOf]; omega
            · have q3 : (kd == 3) = false := beq_eq_false_iff_ne.2 k3
              go_wp2_with fail
              refine (K.down w4 S4 R4 p m HF4.out).mono ?_
              rintro e w6 ⟨S6, R6, rfl, hf6, hd6⟩
              have HF6 := Lib.hid hf6
              have HLO6 : Hid (∀ k, S6 k → w.heap.size ≤ k) := fun k hk => (hd6.s k hk).elim (HLO4.out k) (fun h' => Nat.le_trans HBW4.out.size h')
              have HBW6 : Hid (Below w.heap.size w w6) := HBW4.out.trans (hd6.off.below HBW4.out.size HLO4.out)
              clear hf6 hd6
              go_wp2_with fail
              go_roundw
              case rel => exact ⟨k + 1, d, S6, R6, m, by omega, by go_num, by go_num, { fs := HF6.out, lim := HLIM.out.1, fu := (HFU.out), dn := (HDN.out), df := (hdf), lo := HLO6.out, bw := HBW6.out }⟩
              case measure => simp [intOf]; omega
          · skip
            obtain ⟨r1, r2⟩ := r
            simp only at hr1 hr0 hr7 HF4 HLIM ⊢
            subst hr1
            have z7 : (r2 == 7) = false := beq_eq_false_iff_ne.2 hr7
            have z0 : (r2 == 0) = false := beq_eq_false_iff_ne.2 hr0
            clear hr0 hr7
            go_wp2_with fail
            refine (K.down w4 S4 R4 p r1 HF4.out).mono ?_
            rintro e w6 ⟨S6, R6, rfl, hf6, hd6⟩
            have HF6 := Lib.hid hf6
            have HLO6 : Hid (∀ k, S6 k → w.heap.size ≤ k) := fun k hk => (hd6.s k hk).elim (HLO4.out k) (fun h' => Nat.le_trans HBW4.out.size h')
            have HBW6 : Hid (Below w.heap.size w w6) := HBW4.out.trans (hd6.off.below HBW4.out.size HLO4.out)
            clear hf6 hd6
            go_wp2_with fail
            go_roundw
            case rel => exact ⟨k + 1, d, S6, R6, r1, by omega, by go_num, by go_num, { fs := HF6.out, lim := HLIM.out.1, fu := (HFU.out), dn := (HDN.out), df := (hdf), lo := HLO6.out, bw := HBW6.out }⟩
            case measure => simp [intOf]; omega
          · skip
            obtain ⟨r1, r2⟩ := r
            simp only at hr7 hrd hrf hfiles HF4 HLIM ⊢
            subst hr7
            have hdf2 : (d : Int) = (f : Int) := by have := HDN.out hdn; omega
            have HRF := Lib.hid hrf; have HRD := Lib.hid hrd; have HFI := Lib.hid hfiles
            clear hrf hrd hfiles
            by_cases k3 : kd = 3
            · have q3 : (kd == 3) = true := by simp [k3]
              have hfe : r1.files = m.files := HFI.out k3
              go_wp2_with fail
              refine (K.unsafe_ w4 S4 R4 p r1 HF4.out (HLIM.out.1.bnd (by have := HLen.out; omega))).mono ?_
              rintro e w5 ⟨S5, R5, a5, c5, rfl, _, _, _, hf5, hd5⟩
              have HF5 := Lib.hid hf5
              have HA5 := Lib.hid (HA4.out.off hd5.off HS4.out)
              have HLO5 : Hid (∀ k, S5 k → w.heap.size ≤ k) := fun k hk => (hd5.s k hk).elim (HLO4.out k) (fun h' => Nat.le_trans HBW4.out.size h')
              have HBW5 : Hid (Below w.heap.size w w5) := HBW4.out.trans (hd5.off.below HBW4.out.size HLO4.out)
              rw [hfe]
              clear hf5 hd5 v0 v1 v2 v3 v4
              obtain ⟨v0, v1, v2, v3, v4⟩ := HA5.out.2
              go_wp2_with fail
              refine (K.down w5 S5 R5 p r1 HF5.out).mono ?_
              rintro e w6 ⟨S6, R6, rfl, hf6, hd6⟩
              have HF6 := Lib.hid hf6
              have HLO6 : Hid (∀ k, S6 k → w.heap.size ≤ k) := fun k hk => (hd6.s k hk).elim (HLO5.out k) (fun h' => Nat.le_trans HBW5.out.size h')
              have HBW6 : Hid (Below w.heap.size w w6) := HBW5.out.trans (hd6.off.below HBW5.out.size HLO5.out)
              clear hf6 hd6
              rw [HRD.out]
              go_wp2_with fail
              go_roundw
              case rel => exact ⟨k + 1, d, S6, R6, r1, by omega, by go_num, by go_num, { fs := HF6.out, lim := HLIM.out.1, fu := (by have := HRF.out; omega), dn := (fun h => by rw [HRD.out] at h; cases h), df := (hdf), lo := HLO6.out, bw := HBW6.out }⟩
              case measure => simp [intOf]; omega
            · have q3 : (kd == 3) = false := beq_eq_false_iff_ne.2 k3
              go_wp2_with fail
              refine (K.down w4 S4 R4 p r1 HF4.out).mono ?_
              rintro e w6 ⟨S6, R6, rfl, hf6, hd6⟩
              have HF6 := Lib.hid hf6
              have HLO6 : Hid (∀ k, S6 k → w.heap.size ≤ k) := fun k hk => (hd6.s k hk).elim (HLO4.out k) (fun h' => Nat.le_trans HBW4.out.size h')
              have HBW6 : Hid (Below w.heap.size w w6) := HBW4.out.trans (hd6.off.below HBW4.out.size HLO4.out)
              clear hf6 hd6
              rw [HRD.out]
              go_wp2_with fail
              go_roundw
              case rel => exact ⟨k + 1, d, S6, R6, r1, by omega, by go_num, by go_num, { fs := HF6.out, lim := HLIM.out.1, fu := (by have := HRF.out; omega), dn := (fun h => by rw [HRD.out] at h; cases h), df := (hdf), lo := HLO6.out, bw := HBW6.out }⟩
              case measure => simp [intOf]; omega
          · skip
            obtain ⟨r1, r2⟩ := r
            simp only at hr0 hrd hrf HF4 HLIM ⊢
            subst hr0
            have HRF := Lib.hid hrf; have HRD := Lib.hid hrd
            clear hrf hrd
            go_wp2_with fail
            refine (K.down w4 S4 R4 p r1 HF4.out).mono ?_
            rintro e w6 ⟨S6, R6, rfl, hf6, hd6⟩
            have HF6 := Lib.hid hf6
            have HLO6 : Hid (∀ k, S6 k → w.heap.size ≤ k) := fun k hk => (hd6.s k hk).elim (HLO4.out k) (fun h' => Nat.le_trans HBW4.out.size h')
            have HBW6 : Hid (Below w.heap.size w w6) := HBW4.out.trans (hd6.off.below HBW4.out.size HLO4.out)
            clear hf6 hd6
            rw [HRD.out]
            go_wp2_with fail
            go_roundw
            case rel => exact ⟨k + 1, (d + 1), S6, R6, r1, by omega, by go_num, by go_num, { fs := HF6.out, lim := HLIM.out.1, fu := (by have := HRF.out; omega), dn := (fun h => by have := HRF.out; have := HDN.out hdn; omega), df := (by have := HDN.out hdn; omega), lo := HLO6.out, bw := HBW6.out }⟩
            case measure => simp [intOf]; omega
        · have HE : Hid (doF m ⟨kd, n, ba, bc, body, sz, fa, fc, fates⟩ = (m, 0)) := do_other m (by show kd < 0 ∨ 6 < kd; omega)
          have q5 : (kd == 5) = false := beq_eq_false_iff_ne.2 (by omega)
          have q6 : (kd == 6) = false := beq_eq_false_iff_ne.2 (by omega)
          go_wp2_with fail
          obtain ⟨W, hW⟩ : ∃ W, W = wr.alloc (.cells #[.int .i64 kd, .int .u32 (n : Int), .slice ba body.length bc, .int .i64 sz, .slice fa fates.length fc] 38) := ⟨_, rfl⟩
          have hbW : Below wr.heap.size wr W := by rw [hW]; exact box1 _ _
          have HA0 : Hid (ActBox W wr.heap.size ⟨kd, n, ba, bc, body, sz, fa, fc, fates⟩) := by
            show ActBox _ _ _; rw [hW]; exact ActBox.new wr ⟨kd, n, ba, bc, body, sz, fa, fc, fates⟩
          have HQW := Lib.hid (HQ.out.below hbW)
          have HSW : Hid (¬ S wr.heap.size) := fun h => by have := (K.low HQ.out.fs).1 _ h; omega
          rw [← hW]
          clear hW hbW
          refine (K.down W S R p m HQW.out.fs).mono ?_
          rintro e w2 ⟨S2, R2, rfl, hf2, hd2⟩
          have HQ2 := Lib.hid (HQW.out.did hf2 hd2)
          have HA2 := Lib.hid (HA0.out.off hd2.off HSW.out)
          have HS2 : Hid (¬ S2 wr.heap.size) := fun h => (hd2.s _ h).elim HSW.out (fun h' => by have := HA0.out.1; omega)
          clear hf2 hd2
          go_wp2_with fail
          refine (K.unsafe_ w2 S2 R2 p m HQ2.out.fs (HQ2.out.lim.bnd (by have := HLen.out; omega))).mono ?_
          rintro e w3 ⟨S3, R3, a3, c3, rfl, _, _, _, hf3, hd3⟩
          have HQ3 := Lib.hid (HQ2.out.did hf3 hd3)
          have HA3 := Lib.hid (HA2.out.off hd3.off HS2.out)
          have HS3 : Hid (¬ S3 wr.heap.size) := fun h => (hd3.s _ h).elim HS2.out (fun h' => by have := HA2.out.1; omega)
          clear hf3 hd3
          obtain ⟨v0, v1, v2, v3, v4⟩ := HA3.out.2
          go_wp2_with fail
          refine (do_any K S3 R3 p m ⟨kd, n, ba, bc, body, sz, fa, fc, fates⟩ w3 HQ3.out.fs (HQ3.out.lim.bnd (by have := HLen.out; omega)) (HARG.out.in HQ3.out.bw HQ3.out.lo HW4.out.1 HW4.out.2)).mono ?_
          rintro e w4 ⟨S4, R4, rfl, hf4, hd4⟩
          have HA4 := Lib.hid (HA3.out.off hd4.off HS3.out)
          have HS4 : Hid (¬ S4 wr.heap.size) := fun h => (hd4.s _ h).elim HS3.out (fun h' => by have := HA3.out.1; omega)
          have HLO4 : Hid (∀ k, S4 k → w.heap.size ≤ k) := fun k hk => (hd4.s k hk).elim (HQ3.out.lo k) (fun h' => Nat.le_trans HQ3.out.bw.size h')
          have HBW4 : Hid (Below w.heap.size w w4) := HQ3.out.bw.trans (hd4.off.below HQ3.out.bw.size HQ3.out.lo)
          have HF4 := Lib.hid hf4
          have HLIM := Lib.hid (do_lim HQ3.out.lim (K.ok HQ3.out.fs) ⟨kd, n, ba, bc, body, sz, fa, fc, fates⟩ HW4.out.1 HARG.out.s1 HARG.out.s2)
          clear hf4 hd4 v0 v1 v2 v3 v4
          obtain ⟨v0, v1, v2, v3, v4⟩ := HA4.out.2
          rw [HE.out] at HF4 HLIM ⊢
          simp only at HF4 HLIM ⊢
          by_cases hk0 : 0 ≤ kd
          · skip
            have d4 : decide (kd ≤ 4) = false := decide_eq_false (by omega)
            have d0 : decide (0 ≤ kd) = true := decide_eq_true hk0
            cases hdn : m.down
            · skip
              go_wp2_with fail
              refine (K.down w4 S4 R4 p m HF4.out).mono ?_
              rintro e w6 ⟨S6, R6, rfl, hf6, hd6⟩
              have HF6 := Lib.hid hf6
              have HLO6 : Hid (∀ k, S6 k → w.heap.size ≤ k) := fun k hk => (hd6.s k hk).elim (HLO4.out k) (fun h' => Nat.le_trans HBW4.out.size h')
              have HBW6 : Hid (Below w.heap.size w w6) := HBW4.out.trans (hd6.off.below HBW4.out.size HLO4.out)
              clear hf6 hd6
              go_wp2_with fail
              go_roundw
              case rel => exact ⟨k + 1, d, S6, R6, m, by omega, by go_num, by go_num, { fs := HF6.out, lim := HLIM.out.1, fu := (HFU.out), dn := (HDN.out), df := (hdf), lo := HLO6.out, bw := HBW6.out }⟩
              case measure => simp [intOf]; omega
            · skip
              go_wp2_with fail
              refine (K.down w4 S4 R4 p m HF4.out).mono ?_
              rintro e w6 ⟨S6, R6, rfl, hf6, hd6⟩
              have HF6 := Lib.hid hf6
              have HLO6 : Hid (∀ k, S6 k → w.heap.size ≤ k) := fun k hk => (hd6.s k hk).elim (HLO4.out k) (fun h' => Nat.le_trans HBW4.out.size h')
              have HBW6 : Hid (Below w.heap.size w w6) := HBW4.out.trans (hd6.off.below HBW4.out.size HLO4.out)
              clear hf6 hd6
              go_wp2_with fail
              go_roundw
              case rel => exact ⟨k + 1, d, S6, R6, m, by omega, by go_num, by go_num, { fs := HF6.out, lim := HLIM.out.1, fu := (HFU.out), dn := (HDN.out), df := (hdf), lo := HLO6.out, bw := HBW6.out }⟩
              case measure => simp [intOf]; omega
          · skip
            have d0 : decide (0 ≤ kd) = false := decide_eq_false hk0
            cases hdn : m.down
            · skip
              go_wp2_with fail
              refine (K.down w4 S4 R4 p m HF4.out).mono ?_
              rintro e w6 ⟨S6, R6, rfl, hf6, hd6⟩
              have HF6 := Lib.hid hf6
              have HLO6 : Hid (∀ k, S6 k → w.heap.size ≤ k) := fun k hk => (hd6.s k hk).elim (HLO4.out k) (fun h' => Nat.le_trans HBW4.out.size h')
              have HBW6 : Hid (Below w.heap.size w w6) := HBW4.out.trans (hd6.off.below HBW4.out.size HLO4.out)
              clear hf6 hd6
              go_wp2_with fail
              go_roundw
              case rel => exact ⟨k + 1, d, S6, R6, m, by omega, by go_num, by go_num, { fs := HF6.out, lim := HLIM.out.1, fu := (HFU.out), dn := (HDN.out), df := (hdf), lo := HLO6.out, bw := HBW6.out }⟩
              case measure => simp [intOf]; omega
            · skip
              go_wp2_with fail
              refine (K.down w4 S4 R4 p m HF4.out).mono ?_
              rintro e w6 ⟨S6, R6, rfl, hf6, hd6⟩
              have HF6 := Lib.hid hf6
              have HLO6 : Hid (∀ k, S6 k → w.heap.size ≤ k) := fun k hk => (hd6.s k hk).elim (HLO4.out k) (fun h' => Nat.le_trans HBW4.out.size h')
              have HBW6 : Hid (Below w.heap.size w w6) := HBW4.out.trans (hd6.off.below HBW4.out.size HLO4.out)
              clear hf6 hd6
              go_wp2_with fail
              go_roundw
              case rel => exact ⟨k + 1, d, S6, R6, m, by omega, by go_num, by go_num, { fs := HF6.out, lim := HLIM.out.1, fu := (HFU.out), dn := (HDN.out), df := (hdf), lo := HLO6.out, bw := HBW6.out }⟩
              case measure => simp [intOf]; omega
    · have : k = L.length := by omega
      subst this
      go_wp2_with fail
      refine (fixed_any K wr).mono ?_
      rintro e w2 ⟨rfl, hb2⟩
      have HB9 := Lib.hid (bel2 HQ.out.bw hb2); clear hb2
      have dd : decide (d ≤ f) = true := decide_eq_true hdf
      go_wp2_with fail
      go_ret
      exact ⟨rfl, HB9.out⟩
end Go.Proofs.Ythfhmohbfoolnaa
