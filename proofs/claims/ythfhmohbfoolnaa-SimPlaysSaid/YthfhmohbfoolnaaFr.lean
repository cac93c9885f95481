import Derived.Test.YthfhmohbfoolnaaFq
namespace Go.Proofs.Ythfhmohbfoolnaa
open Go Go.RowKit Go.Sort

/-! Acts as they come in; an act that is done. -/
structure Ac where
  kind : Int
  n : Nat
  ba : Option Addr
  bc : Nat
  body : List UInt8
  size : Int
  fa : Option Addr
  fc : Nat
  fates : List Ft
def Ac.c (a : Ac) : Array Value := #[.int .i64 a.kind, .int .u32 (a.n : Int), .slice a.ba a.body.length a.bc, .int .i64 a.size, .slice a.fa a.fates.length a.fc]
def Ac.v (a : Ac) : Value := .agg #[.int .i64 a.kind, .int .u32 (a.n : Int), .slice a.ba a.body.length a.bc, .int .i64 a.size, .slice a.fa a.fates.length a.fc]
def Ac.l (a : Ac) : List Value := [.int .i64 a.kind, .int .u32 (a.n : Int), .slice a.ba a.body.length a.bc, .int .i64 a.size, .slice a.fa a.fates.length a.fc]
def FtIn (S : Nat → Prop) (w : World) (t : Ft) : Prop := RdN S w t.ga (bV t.g) ∧ t.g.length ≤ t.gc ∧ t.gc ≤ maxLen ∧ -9223372036854775808 ≤ t.bytes ∧ t.bytes ≤ 9223372036854775807
structure AcIn (S : Nat → Prop) (w : World) (a : Ac) : Prop where
  n : a.n < 4294967296
  s1 : -9223372036854775808 ≤ a.size
  s2 : a.size ≤ 9223372036854775807
  b : RdN S w a.ba (bV a.body)
  bl : a.body.length ≤ 4000
  bc : a.body.length ≤ a.bc
  bm : a.bc ≤ maxLen
  f : RdN S w a.fa (flatG Ft.l a.fates)
  fl : a.fates.length ≤ 4000
  fc : a.fates.length ≤ a.fc
  fm : a.fc ≤ maxLen
  t : ∀ t ∈ a.fates, FtIn S w t
theorem FtIn.did {S R S' R' : Nat → Prop} {w w' : World} {t : Ft} (h : FtIn S w t) (hd : Did S R S' R' w w') : FtIn S' w' t := ⟨hd.rdn h.1, h.2⟩
theorem AcIn.did {S R S' R' : Nat → Prop} {w w' : World} {a : Ac} (h : AcIn S w a) (hd : Did S R S' R' w w') : AcIn S' w' a :=
  { h with b := hd.rdn h.b, f := hd.rdn h.f, t := fun t ht => (h.t t ht).did hd }
theorem Did.below {S R : Nat → Prop} {w w' : World} (h : Below w.heap.size w w') : Did S R S R w w' := ⟨fun _ h => .inl h, fun _ h => .inl h, Off.of_below h⟩
theorem FsKit.below (K : FsKit) {w w' : World} {S R : Nat → Prop} {p : Nat} {m : FSm} (h : K.Fs w S R p m) (hb : Below w.heap.size w w') : K.Fs w' S R p m :=
  K.move h hb.size fun k hk => hb.block k (hk.elim ((K.low h).1 k) ((K.low h).2 k))
def doF (m : FSm) (a : Ac) : FSm × Int :=
  if a.kind = 0 then createF m a.n
  else if a.kind = 1 then appendF m a.n (bs a.body)
  else if a.kind = 2 then truncF m a.n a.size
  else if a.kind = 3 then syncF m a.n
  else if a.kind = 4 then removeF m a.n
  else if a.kind = 5 then ({ m with fuse := max a.size (-1) }, 0)
  else if a.kind = 6 then (crashF m a.fates, 0)
  else (m, 0)
set_option maxRecDepth 20000 in
set_option maxHeartbeats 4000000 in
theorem do_any (K : FsKit) (S R : Nat → Prop) (p : Nat) (m : FSm) (a : Ac) (w : World) (hf : K.Fs w S R p m) (hb : Bnd m) (ha : AcIn S w a) :
    Calls Try.prog 11 #[.pointer (some ⟨p, 0, none⟩), a.v] w fun e w' => ∃ S' R', e = .returned (.int .i64 (doF m a).2) ∧ K.Fs w' S' R' p (doF m a).1 ∧ Did S R S' R' w w' := by
  have HF := Lib.hid hf; have HB := Lib.hid hb; have HA := Lib.hid ha; clear hf hb ha
  obtain ⟨W, hW⟩ : ∃ W, W = w.alloc (.cells a.c 38) := ⟨_, rfl⟩
  have hbW : Below w.heap.size w W := by rw [hW]; exact box1 _ _
  have HBW := Lib.hid hbW
  have HFW := Lib.hid (K.below HF.out hbW)
  have HAW := Lib.hid (HA.out.did (Did.below (S := S) (R := R) hbW))
  clear hbW
  obtain ⟨kd, n, ba, bc, body, sz, fa, fc, fates⟩ := a
  have HAW' := HAW.out
  obtain ⟨hn, hs1, hs2, hbr, hbl, hbc, hbm, hfr, hfl, hfc, hfm, ht⟩ := HAW'
  simp only at hn hs1 hs2 hbr hbl hbc hbm hfr hfl hfc hfm ht
  have HN := Lib.hid hn; have HS1 := Lib.hid hs1; have HS2 := Lib.hid hs2; have HBR := Lib.hid hbr; have HBL := Lib.hid hbl; have HBC := Lib.hid hbc; have HBM := Lib.hid hbm; have HFR := Lib.hid hfr; have HFL := Lib.hid hfl; have HFC := Lib.hid hfc; have HFM := Lib.hid hfm; have HT := Lib.hid ht
  clear hn hs1 hs2 hbr hbl hbc hbm hfr hfl hfc hfm ht
  unfold Ac.c at hW
  simp only at hW
  unfold Ac.v
  simp only
  by_cases k0 : kd = 0
  · subst k0
    go_enter Try.func11, Try.ntmps11
    go_wp2_with fail
    rw [← hW]
    clear hW
    refine (K.create W S R p m n HFW.out HB.out HN.out).mono ?_
    rintro e w5 ⟨S', R', rfl, hf', hd'⟩
    have HF5 := Lib.hid hf'; have HD5 := Lib.hid hd'; clear hf' hd'
    go_wp2_with fail
    go_ret
    exact ⟨S', R', rfl, HF5.out, HD5.out.after HBW.out⟩
  by_cases k1 : kd = 1
  · subst k1
    go_enter Try.func11, Try.ntmps11
    go_wp2_with fail
    rw [← hW]
    clear hW
    refine (K.append W S R p m n ba bc body HFW.out HB.out HN.out HBR.out (by have := HBL.out; omega) HBC.out HBM.out).mono ?_
    rintro e w5 ⟨S', R', rfl, hf', hd'⟩
    have HF5 := Lib.hid hf'; have HD5 := Lib.hid hd'; clear hf' hd'
    go_wp2_with fail
    go_ret
    exact ⟨S', R', rfl, HF5.out, HD5.out.after HBW.out⟩
  by_cases k2 : kd = 2
  · subst k2
    go_enter Try.func11, Try.ntmps11
    go_wp2_with fail
    rw [← hW]
    clear hW
    refine (K.trunc W S R p m n sz HFW.out HB.out HN.out HS1.out HS2.out).mono ?_
    rintro e w5 ⟨S', R', rfl, hf', hd'⟩
    have HF5 := Lib.hid hf'; have HD5 := Lib.hid hd'; clear hf' hd'
    go_wp2_with fail
    go_ret
    exact ⟨S', R', rfl, HF5.out, HD5.out.after HBW.out⟩
  by_cases k3 : kd = 3
  · subst k3
    go_enter Try.func11, Try.ntmps11
    go_wp2_with fail
    rw [← hW]
    clear hW
    refine (K.sync W S R p m n HFW.out HB.out HN.out).mono ?_
    rintro e w5 ⟨S', R', rfl, hf', hd'⟩
    have HF5 := Lib.hid hf'; have HD5 := Lib.hid hd'; clear hf' hd'
    go_wp2_with fail
    go_ret
    exact ⟨S', R', rfl, HF5.out, HD5.out.after HBW.out⟩
  by_cases k4 : kd = 4
  · subst k4
    go_enter Try.func11, Try.ntmps11
    go_wp2_with fail
    rw [← hW]
    clear hW
    refine (K.remove W S R p m n HFW.out HB.out HN.out).mono ?_
    rintro e w5 ⟨S', R', rfl, hf', hd'⟩
    have HF5 := Lib.hid hf'; have HD5 := Lib.hid hd'; clear hf' hd'
    go_wp2_with fail
    go_ret
    exact ⟨S', R', rfl, HF5.out, HD5.out.after HBW.out⟩
  by_cases k5 : kd = 5
  · subst k5
    go_enter Try.func11, Try.ntmps11
    go_wp2_with fail
    rw [← hW]
    clear hW
    refine (K.fuse W S R p m sz HFW.out HS1.out HS2.out).mono ?_
    rintro e w5 ⟨S', R', rfl, hf', hd'⟩
    have HF5 := Lib.hid hf'; have HD5 := Lib.hid hd'; clear hf' hd'
    go_wp2_with fail
    go_ret
    exact ⟨S', R', rfl, HF5.out, HD5.out.after HBW.out⟩
  by_cases k6 : kd = 6
  · subst k6
    go_enter Try.func11, Try.ntmps11
    go_wp2_with fail
    rw [← hW]
    clear hW
    refine (K.crash W S R p m fa fc fates HFW.out HB.out HFR.out (by have := HFL.out; omega) HFC.out HFM.out HT.out).mono ?_
    rintro e w5 ⟨S', R', rfl, hf', hd'⟩
    have HF5 := Lib.hid hf'; have HD5 := Lib.hid hd'; clear hf' hd'
    go_wp2_with fail
    go_ret
    exact ⟨S', R', rfl, HF5.out, HD5.out.after HBW.out⟩
  have HE : Hid (doF m ⟨kd, n, ba, bc, body, sz, fa, fc, fates⟩ = (m, 0)) := by show _ = _; simp [doF, k0, k1, k2, k3, k4, k5, k6]
  go_enter Try.func11, Try.ntmps11
  go_wp2_with fail
  rw [← hW]
  clear hW
  go_ret
  rw [HE.out]
  exact ⟨S, R, rfl, HFW.out, Did.below HBW.out⟩
end Go.Proofs.Ythfhmohbfoolnaa
