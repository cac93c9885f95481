import Derived.Test.YthfhmohbfoolnaaYa
import Derived.Test.YthfhmohbfoolnaaFx
import Derived.Deep.DeepMust
namespace Go.Proofs.Ythfhmohbfoolnaa
open Go Go.RowKit Go.Sort Go.Maps

/-- Where the law stands. -/
structure Q7 (K : FsKit) (w wr : World) (p : Nat) (S R : Nat → Prop) (m : FSm) : Prop where
  fs : K.Fs wr S R p m
  lo : ∀ k, S k → w.heap.size ≤ k
  bw : Below w.heap.size w wr
theorem Q7.did {K : FsKit} {w wr w' : World} {p : Nat} {S R S' R' : Nat → Prop} {m m' : FSm} (h : Q7 K w wr p S R m) (hf : K.Fs w' S' R' p m') (hd : Did S R S' R' wr w') : Q7 K w w' p S' R' m' :=
  { fs := hf
    lo := fun k hk => (hd.s k hk).elim (h.lo k) (fun h' => Nat.le_trans h.bw.size h')
    bw := h.bw.trans (hd.off.below h.bw.size h.lo) }
theorem Q7.below {K : FsKit} {w wr w' : World} {p : Nat} {S R : Nat → Prop} {m : FSm} (h : Q7 K w wr p S R m) (hb : Below wr.heap.size wr w') : Q7 K w w' p S R m :=
  h.did (K.below h.fs hb) (Did.below hb)
/-- A map of the law's own: apart from the file system's blocks. -/
structure Own7 (Rv : Value → Option (DataW Value × List MemPlace)) (w wr : World) (S R : Nat → Prop) (b cnt : Nat) (X : Nat → Prop) (val : Nat → Value) : Prop where
  mp : MapX Rv wr b cnt X val
  ge : w.heap.size ≤ b
  ns : ¬ S b
  nr : ¬ R b
theorem Own7.did {Rv : Value → Option (DataW Value × List MemPlace)} {w wr w' : World} {S R S' R' : Nat → Prop} {b cnt : Nat} {X : Nat → Prop} {val : Nat → Value} (h : Own7 Rv w wr S R b cnt X val) (hd : Did S R S' R' wr w') : Own7 Rv w w' S' R' b cnt X val :=
  { mp := h.mp.off hd.off h.ns
    ge := h.ge
    ns := fun hs => (hd.s b hs).elim h.ns (fun h' => by have := h.mp.lt; omega)
    nr := fun hr => (hd.r b hr).elim h.nr (fun h' => h'.elim h.ns (fun h'' => by have := h.mp.lt; omega)) }
theorem Own7.below {Rv : Value → Option (DataW Value × List MemPlace)} {w wr w' : World} {S R : Nat → Prop} {b cnt : Nat} {X : Nat → Prop} {val : Nat → Value} (h : Own7 Rv w wr S R b cnt X val) (hb : Below wr.heap.size wr w') : Own7 Rv w w' S R b cnt X val :=
  h.did (Did.below hb)
/-- A store into one of the law's maps: the file system stays, and the others. -/
theorem Q7.turn {K : FsKit} {w wr w' : World} {p b : Nat} {S R : Nat → Prop} {m : FSm} (h : Q7 K w wr p S R m) (hg : wr.grownBy w' (some b)) (hb : w.heap.size ≤ b) (ns : ¬ S b) (nr : ¬ R b) : Q7 K w w' p S R m :=
  { fs := K.move h.fs hg.size fun k hk => hg.block k (hk.elim ((K.low h.fs).1 k) ((K.low h.fs).2 k)) (fun e => by cases e; exact hk.elim ns nr)
    lo := h.lo
    bw := h.bw.grown hg h.bw.size (fun k e => by cases e; exact hb) }
theorem Own7.turn {Rv : Value → Option (DataW Value × List MemPlace)} {w wr w' : World} {S R : Nat → Prop} {b b2 cnt : Nat} {X : Nat → Prop} {val : Nat → Value} (h : Own7 Rv w wr S R b cnt X val) (hg : wr.grownBy w' (some b2)) (hne : b ≠ b2) : Own7 Rv w w' S R b cnt X val :=
  { h with mp := h.mp.move (hg.block b h.mp.lt (by simp; exact hne)) }
theorem RdN.turn {Rv : Value → Option (DataW Value × List MemPlace)} {S : Nat → Prop} {w w' : World} {b cnt : Nat} {X : Nat → Prop} {val : Nat → Value} {a : Option Addr} {cs : List Value} (h : RdN S w a cs) (hm : MapX Rv w b cnt X val) (hg : w.grownBy w' (some b)) : RdN S w' a cs := fun h0 => by
  obtain ⟨rb, off, ha, hb, hn, hc⟩ := h h0
  refine ⟨rb, off, ha, Nat.lt_of_lt_of_le hb hg.size, hn, fun j u hu => ?_⟩
  have h1 := hc j u hu
  have hne : rb ≠ b := by
    rintro rfl
    obtain ⟨D, ⟨es, clock, hmb, _⟩, _⟩ := hm
    simp [World.cell?, hmb] at h1
  rw [World.cell?_of_block (a := ⟨rb, off + j, none⟩) (hg.block rb hb (by simp; exact hne))]; exact h1
theorem MapX.open {Rv : Value → Option (DataW Value × List MemPlace)} {w : World} {b cnt : Nat} {X : Nat → Prop} {val : Nat → Value} (h : MapX Rv w b cnt X val) : ∃ D, w.ownsMap Try.prog 35 Rv b cnt D ∧
    (∀ (w' : World) (c n : Nat) (v : Value), w'.ownsMap Try.prog 35 Rv b c (D.put (keyF n) (.held v)) → val n = v → MapX Rv w' b c (fun k => k = n ∨ X k) val) ∧
    (∀ (w' : World) (c n : Nat), w'.ownsMap Try.prog 35 Rv b c (D.del (keyF n)) → MapX Rv w' b c (fun k => k ≠ n ∧ X k) val) := by
  obtain ⟨D, h1, h2, h3, h4⟩ := h
  have hm : IsMap D := by obtain ⟨es, e, _⟩ := h1.entries lawF; exact ⟨es, e⟩
  exact ⟨D, h1, fun w' c n v ho hv => MapX.put hm h2 h3 h4 ho hv, fun w' c n ho => MapX.del h2 h3 h4 ho⟩
theorem take_mem {L : List Nat} {j : Nat} (h : j < L.length) (k : Nat) : (k = L[j] ∨ k ∈ L.take j) ↔ k ∈ L.take (j + 1) := by
  rw [List.take_succ_eq_append_getElem h, List.mem_append, List.mem_singleton]
  exact or_comm
theorem NewBytes.rd7 {w w' : World} {S R : Nat → Prop} {a : Option Addr} {l : List UInt8} (h : NewBytes w w' S R a l) : Rd w' w'.heap.size a (bV l) := fun h0 => by
  obtain ⟨g, off, ha, _, hg, _, _, hr, _⟩ := h (by rw [← bV_length l]; exact h0)
  exact ⟨g, off, ha, hg, hr⟩
theorem NewBytes.str7 {w w' : World} {S R : Nat → Prop} {a : Option Addr} {B : ByteArray} (h : NewBytes w w' S R a B.data.toList) (c : Nat) : (convert 36 9 (.slice a B.size c)).run Try.prog w' = .ok (.string B) w' := by
  have h2 := run_string_rd (P := Try.prog) w' 36 9 5 Try.underlying36 Try.underlying5 Try.underlying9 B.size c h.rd7 (by rw [Array.length_toList]; rfl)
  rw [bs_of] at h2
  exact h2
theorem take_and {L : List Nat} {j : Nat} (h : j < L.length) (P : Nat → Prop) (k : Nat) : (k = L[j] ∧ P k ∨ k ∈ L.take j ∧ P k) ↔ (k ∈ L.take (j + 1) ∧ P k) := by
  rw [← take_mem h]
  constructor
  · rintro (⟨h1, h2⟩ | ⟨h1, h2⟩)
    · exact ⟨.inl h1, h2⟩
    · exact ⟨.inr h1, h2⟩
  · rintro ⟨h1 | h1, h2⟩
    · exact .inl ⟨h1, h2⟩
    · exact .inr ⟨h1, h2⟩
theorem take_fresh {L : List Nat} (h : L.Pairwise (· < ·)) {j : Nat} (hj : j < L.length) : L[j] ∉ L.take j := by
  intro hm
  obtain ⟨i, hi, e⟩ := List.getElem_of_mem hm
  rw [List.length_take] at hi
  rw [List.getElem_take] at e
  have := List.pairwise_iff_getElem.1 h i j (by omega) hj (by omega)
  omega
theorem take_gone {L : List Nat} {j : Nat} (h : j < L.length) (P : Nat → Prop) (k : Nat) : (k ≠ L[j] ∧ P k ∧ k ∉ L.take j) ↔ (P k ∧ k ∉ L.take (j + 1)) := by
  rw [← take_mem h]
  constructor
  · rintro ⟨h1, h2, h3⟩
    exact ⟨h2, fun h => h.elim h1 h3⟩
  · rintro ⟨h1, h2⟩
    exact ⟨fun e => h2 (.inl e), h1, fun e => h2 (.inr e)⟩
theorem nums_len (lo : Bool) (L : List Fl) : (numsF lo L).length ≤ L.length := by
  unfold numsF; rw [List.length_map]; exact List.length_filter_le _ _
set_option maxRecDepth 20000 in
set_option maxHeartbeats 8000000 in
theorem simsafe_any (K : FsKit) (la ta : Option Addr) (lc tc : Nat) (L : List Ac) (T : List Ft) (w : World) (hr : Rd w w.heap.size la (flA L)) (ha : ∀ a ∈ L, AcArg w a) (hrt : Rd w w.heap.size ta (flatG Ft.l T)) (ht : ∀ t ∈ T, FtArg w t) (hlt : T.length ≤ tc) (htc : tc ≤ maxLen) :
    Calls Try.prog 4 #[.slice la L.length lc, .slice ta T.length tc] w fun e w' => e = .returned (.bool true) ∧ Below w.heap.size w w' := by
  have HR := Lib.hid hr; have HARGS := Lib.hid ha; have HRT := Lib.hid hrt; have HTA := Lib.hid ht; have HTC := Lib.hid htc; have HTLC := Lib.hid hlt; clear hr ha hrt ht htc hlt
  obtain ⟨nT, hnT⟩ : ∃ nT, nT = T.length := ⟨_, rfl⟩
  have HNT := Lib.hid hnT
  have hnTm : nT ≤ 9223372036854775807 := by have h1 := HTLC.out; have h2 := HTC.out; unfold maxLen at h2; omega
  rw [← hnT]
  clear hnT
  go_enter Try.func4, Try.ntmps4
  go_wp2_with fail
  refine (great_any la lc L w HR.out (fun a ha => ⟨Nat.le_trans (HARGS.out a ha).bc (HARGS.out a ha).bm, Nat.le_trans (HARGS.out a ha).fc (HARGS.out a ha).fm⟩)).mono ?_
  cases hg : greatB L
  case true =>
    rintro e w1 ⟨rfl, hb1⟩
    have HB1 := Lib.hid hb1; clear hb1
    go_wp2_with fail
    refine (fixed_any K w1).mono ?_
    rintro e w2 ⟨rfl, hb2⟩
    have HB2 := Lib.hid (bel2 HB1.out hb2); clear hb2
    go_wp2_with fail
    go_ret
    exact ⟨rfl, HB2.out⟩
  rintro e w1 ⟨rfl, hb1⟩
  have HB1 := Lib.hid hb1
  obtain ⟨hlen, hwide⟩ := great_no hg
  have HLen := Lib.hid hlen; have HWide := Lib.hid hwide
  clear hb1 hg hwide
  by_cases h80 : 80 < nT
  · have d1 : decide ((80 : Int) < (nT : Int)) = true := decide_eq_true (by omega)
    go_wp2_with fail
    refine (fixed_any K w1).mono ?_
    rintro e w2 ⟨rfl, hb2⟩
    have HB2 := Lib.hid (bel2 HB1.out hb2); clear hb2
    go_wp2_with fail
    go_ret
    exact ⟨rfl, HB2.out⟩
  have d1 : ¬ ((80 : Int) < (nT : Int)) := by omega
  go_wp2_with fail
  refine (K.new w1).mono ?_
  rintro e w2 ⟨p, S, R, rfl, hf2, hs2, _, hb2⟩
  have HQ0 : Hid (Q7 K w w2 p S R newF) := { fs := hf2, lo := fun k hk => Nat.le_trans HB1.out.size (hs2 k hk), bw := bel2 HB1.out hb2 }
  clear hf2 hs2 hb2
  go_wp2_with fail
  go_loopw [35] (fun i wr => ∃ (k : Nat) (S R : Nat → Prop) (m : FSm), k ≤ L.length ∧ i = .int .i64 k ∧ Q7 K w wr p S R m ∧ Lim k m ∧ U32 m) (fun i _ => L.length - (intOf i).toNat)
  case atStart => exact ⟨0, S, R, newF, Nat.zero_le _, rfl, HQ0.out, lim_new, fun y hy => absurd hy (by simp [newF])⟩
  case round =>
    clear HQ0
    obtain ⟨k, S1, R1, m, hk, rfl, hq, hl, hu⟩ := hrel
    have HQ := Lib.hid hq; have HL := Lib.hid hl; have HU := Lib.hid hu
    clear hq hl hu
    by_cases hlt : k < L.length
    · obtain ⟨b, off, hla, hbl, e0, e1, e2, e3, e4⟩ := act_elem (HR.out.below HQ.out.bw) hlt
      subst hla
      have HARG := Lib.hid (HARGS.out L[k] (List.getElem_mem _))
      have HW4 := Lib.hid (HWide.out L[k] (List.getElem_mem _))
      have HLT := Lib.hid hlt
      generalize L[k] = a at *
      obtain ⟨kd, n, ba, bc, body, sz, fa, fc, fates⟩ := a
      simp only at e0 e1 e2 e3 e4
      obtain ⟨W, hW⟩ : ∃ W, W = wr.alloc (.cells #[.int .i64 kd, .int .u32 (n : Int), .slice ba body.length bc, .int .i64 sz, .slice fa fates.length fc] 38) := ⟨_, rfl⟩
      have hbW : Below wr.heap.size wr W := by rw [hW]; exact box1 _ _
      have HQW := Lib.hid (HQ.out.below hbW)
      have HDO := Lib.hid (do_any K S1 R1 p m ⟨kd, n, ba, bc, body, sz, fa, fc, fates⟩ W HQW.out.fs (HL.out.bnd (by have := HLen.out; omega)) (HARG.out.in HQW.out.bw HQW.out.lo HW4.out.1 HW4.out.2))
      have HLIM := Lib.hid (do_lim HL.out (K.ok HQ.out.fs) ⟨kd, n, ba, bc, body, sz, fa, fc, fates⟩ HW4.out.1 HARG.out.s1 HARG.out.s2)
      have HUN := Lib.hid (u32_do HU.out (a := ⟨kd, n, ba, bc, body, sz, fa, fc, fates⟩) HARG.out.n)
      clear hbW
      go_wp2_with fail
      rw [← hW]
      clear hW
      refine HDO.out.mono ?_
      rintro e w4 ⟨S4, R4, rfl, hf4, hd4⟩
      have HQ4 := Lib.hid (HQW.out.did hf4 hd4)
      clear hf4 hd4 HDO
      go_wp2_with fail
      go_roundw
      case rel => exact ⟨k + 1, S4, R4, _, HLT.out, by go_num, HQ4.out, HLIM.out.1, HUN.out⟩
      case measure => have := HLT.out; simp [intOf]; omega
    · have hkL : k = L.length := by omega
      subst hkL
      have HLK : Hid (Lim 80 m) := HL.out.more (by have := HLen.out; omega)
      have hmm := @run_makeMap Try.prog
      obtain ⟨val, hval⟩ : ∃ val : Nat → Value, val = fun n => .string (readF m n).1 := ⟨_, rfl⟩
      have HVAL := Lib.hid hval
      obtain ⟨W, hW⟩ : ∃ W, W = (wr.alloc (.map #[] 0)).alloc (.map #[] 0) := ⟨_, rfl⟩
      have hbW : Below wr.heap.size wr W := by rw [hW]; exact (box1 wr _).alloc (by simp) _
      have HQW := Lib.hid (HQ.out.below hbW)
      obtain ⟨bw, hbw⟩ : ∃ bw, bw = wr.heap.size := ⟨_, rfl⟩
      have HMW : Hid (Own7 strH w W S1 R1 bw 0 (fun _ => False) val) := by
        refine { mp := ?_, ge := ?_, ns := fun hs => ?_, nr := fun hs => ?_ }
        · rw [hW, hbw]; exact (MapX.new strH wr val).below (box1 _ _)
        · rw [hbw]; exact HQ.out.bw.size
        · have := (K.low HQ.out.fs).1 _ hs; omega
        · have := (K.low HQ.out.fs).2 _ hs; omega
      have HML : Hid (Own7 boolH w W S1 R1 (bw + 1) 0 (fun _ => False) (fun _ => .bool true)) := by
        refine { mp := ?_, ge := ?_, ns := fun hs => ?_, nr := fun hs => ?_ }
        · rw [hW, hbw]
          have h := MapX.new boolH (wr.alloc (.map #[] 0)) (fun _ => .bool true)
          rw [World.size_alloc] at h
          exact h
        · have := HQ.out.bw.size; omega
        · have := (K.low HQ.out.fs).1 _ hs; omega
        · have := (K.low HQ.out.fs).2 _ hs; omega
      have HUN := Lib.hid (K.unsafe_ W S1 R1 p m HQW.out.fs (HLK.out.bnd (by omega)))
      clear hlt hk HL hval hbW
      go_wp2_with fail
      rw [← hW, ← hbw]
      clear hW hbw
      refine HUN.out.mono ?_
      rintro e w3 ⟨S3, R3, ua, uc, rfl, _, _, hur, hf3, hd3⟩
      have HQ3 := Lib.hid (HQW.out.did hf3 hd3)
      have HMW3 := Lib.hid (HMW.out.did hd3); have HML3 := Lib.hid (HML.out.did hd3)
      have HUR := Lib.hid hur
      obtain ⟨UL, hUL⟩ : ∃ UL, UL = numsF true m.files := ⟨_, rfl⟩
      have hUl : UL.length ≤ 80 := by rw [hUL]; exact Nat.le_trans (nums_len _ _) HLK.out.1
      rw [← hUL] at HUR ⊢
      have HULE := Lib.hid hUL
      obtain ⟨nU, hnU⟩ : ∃ nU, nU = UL.length := ⟨_, rfl⟩
      have HNU := Lib.hid hnU
      rw [← hnU] at hUl ⊢
      clear hur hf3 hd3 hUL hnU HUN HQW HMW HML HQ
      go_wp2_with fail
      go_loopw [48] (fun i wr => ∃ j cnt : Nat, j ≤ nU ∧ cnt ≤ j ∧ i = .int .i64 j ∧ Q7 K w wr p S3 R3 m ∧ Own7 strH w wr S3 R3 bw 0 (fun _ => False) val ∧ Own7 boolH w wr S3 R3 (bw + 1) cnt (fun n => n ∈ UL.take j) (fun _ => .bool true) ∧ RdN S3 wr ua (u32V UL)) (fun i _ => nU - (intOf i).toNat)
      case atStart => exact ⟨0, 0, Nat.zero_le _, Nat.le_refl _, rfl, HQ3.out, HMW3.out, { HML3.out with mp := HML3.out.mp.iff (fun n => by simp) }, HUR.out⟩
      case round =>
        obtain ⟨j, cnt, hj, hcj, rfl, hq, hmw, hml, hru⟩ := hrel
        have HQ := Lib.hid hq; have HMW := Lib.hid hmw; have HML := Lib.hid hml; have HRU := Lib.hid hru
        have HJ := Lib.hid hj; have HCJ := Lib.hid hcj
        clear hq hmw hml hru hcj HQ3 HMW3 HML3 HUR
        by_cases hlt : j < nU
        · have hjL : j < UL.length := by rw [← HNU.out]; exact hlt
          obtain ⟨rb, off, rfl, hrb, hrs, hrc⟩ := HRU.out (by rw [u32V_length]; omega)
          have e1 : wr.cell? ⟨rb, off + j, none⟩ = some (.int .u32 ((UL[j] : Nat) : Int)) := hrc j _ (by simp [u32V, List.getElem?_eq_getElem hjL])
          have HTK := Lib.hid (take_mem hjL)
          have HN := Lib.hid (nums_u32 HU.out (lo := true) (n := UL[j]) (by rw [← HULE.out]; exact List.getElem_mem _))
          have HLT := Lib.hid hlt
          generalize UL[j] = n at *
          obtain ⟨D, ho, hput, _⟩ := HML.out.mp.open
          have HO := Lib.hid ho; have HPUT := Lib.hid hput
          clear hrs hrc hjL ho hput
          go_wp2_with (at_mapUpdate; refine wpList_mapUpdate_in _ rfl _ _ _ 42 rfl 35 4 lawF Try.underlying42 boolH (bw + 1) cnt D rfl HO.out (by have h1 := HCJ.out; have h2 := HJ.out; have h3 := hUl; unfold maxLen; omega) _ _ _ rfl rfl (keyF_of HN.out) (.held (.bool true)) [] rfl ?_; intro w1 hown1 hturn1; have HO1 := Lib.hid hown1; have HT1 := Lib.hid hturn1; clear hown1 hturn1)
          go_roundw
          case rel => exact ⟨j + 1, cnt + 1, HLT.out, by have := HCJ.out; omega, by go_num, HQ.out.turn HT1.out.grown HML.out.ge HML.out.ns HML.out.nr, HMW.out.turn HT1.out.grown (by omega), { HML.out with mp := (HPUT.out _ _ _ _ HO1.out rfl).iff HTK.out }, RdN.turn HRU.out HML.out.mp HT1.out.grown⟩
          case measure => have := HLT.out; simp [intOf]; omega
        · have hjn : nU = j := by omega
          subst hjn
          have HMU : Hid (Own7 boolH w wr S3 R3 (bw + 1) cnt (fun n => n ∈ UL) (fun _ => .bool true)) := { HML.out with mp := HML.out.mp.iff (fun n => by rw [HNU.out, List.take_length]) }
          have HLS := Lib.hid (K.list wr S3 R3 p m HQ.out.fs (HLK.out.bnd (by omega)))
          clear hlt hj HML HRU
          go_wp2_with fail
          refine HLS.out.mono ?_
          rintro e w4 ⟨S4, R4, na, nc, rfl, _, _, hnr, hf4, hd4⟩
          have HQ4 := Lib.hid (HQ.out.did hf4 hd4)
          have HMW4 := Lib.hid (HMW.out.did hd4); have HMU4 := Lib.hid (HMU.out.did hd4)
          have HNR := Lib.hid hnr
          obtain ⟨NL, hNL⟩ : ∃ NL, NL = numsF false m.files := ⟨_, rfl⟩
          have hNl : NL.length ≤ 80 := by rw [hNL]; exact Nat.le_trans (nums_len _ _) HLK.out.1
          rw [← hNL] at HNR ⊢
          have HNLE := Lib.hid hNL
          obtain ⟨nN, hnN⟩ : ∃ nN, nN = NL.length := ⟨_, rfl⟩
          have HNN := Lib.hid hnN
          rw [← hnN] at hNl ⊢
          clear hnr hf4 hd4 hNL hnN HLS HMW HMU HQ HCJ HJ
          go_wp2_with fail
          go_loopw [58] (fun i wr => ∃ (j cn : Nat) (S R : Nat → Prop), j ≤ nN ∧ cn ≤ j ∧ i = .int .i64 j ∧ Q7 K w wr p S R m ∧ Own7 strH w wr S R bw cn (fun n => n ∈ NL.take j ∧ n ∉ UL) val ∧ Own7 boolH w wr S R (bw + 1) cnt (fun n => n ∈ UL) (fun _ => .bool true) ∧ RdN S wr na (u32V NL)) (fun i _ => nN - (intOf i).toNat)
          case atStart => exact ⟨0, 0, S4, R4, Nat.zero_le _, Nat.le_refl _, rfl, HQ4.out, { HMW4.out with mp := HMW4.out.mp.iff (fun n => by simp) }, HMU4.out, HNR.out⟩
          case round =>
            obtain ⟨j, cn, S5, R5, hj, hcj, rfl, hq, hmw, hmu, hru⟩ := hrel
            have HQ := Lib.hid hq; have HMW := Lib.hid hmw; have HMU := Lib.hid hmu; have HRU := Lib.hid hru
            have HJ := Lib.hid hj; have HCJ := Lib.hid hcj
            clear hq hmw hmu hru hcj HQ4 HMW4 HMU4 HNR
            by_cases hlt : j < nN
            · have hjL : j < NL.length := by rw [← HNN.out]; exact hlt
              obtain ⟨rb, off, rfl, hrb, hrs, hrc⟩ := HRU.out (by rw [u32V_length]; omega)
              have e1 : wr.cell? ⟨rb, off + j, none⟩ = some (.int .u32 ((NL[j] : Nat) : Int)) := hrc j _ (by simp [u32V, List.getElem?_eq_getElem hjL])
              have HTK := Lib.hid (take_and hjL (fun n => n ∉ UL))
              have hin : NL[j] ∈ numsF false m.files := by rw [← HNLE.out]; exact List.getElem_mem _
              have HN := Lib.hid (nums_u32 HU.out hin)
              have HLT := Lib.hid hlt
              have HRT2 := Lib.hid (read_there (K.ok HQ.out.fs) hin)
              clear hin
              generalize NL[j] = n at *
              have hcr := K.read wr S5 R5 p m n HQ.out.fs (HLK.out.bnd (by omega)) HN.out
              have hv0 : val n = .string (readF m n).1 := by rw [HVAL.out]
              rw [show (readF m n).2 = 0 by rw [HRT2.out]] at hcr
              generalize (readF m n).1 = B at hcr hv0
              have HCR := Lib.hid hcr; have HV0 := Lib.hid hv0
              clear hrs hrc hjL hcr hv0 HRT2
              go_wp2_with fail
              refine HCR.out.mono ?_
              rintro e w5 ⟨S6, R6, sa, sc, rfl, _, _, hnew, hf6, hd6⟩
              have HQ6 := Lib.hid (HQ.out.did hf6 hd6)
              have HMW6 := Lib.hid (HMW.out.did hd6); have HMU6 := Lib.hid (HMU.out.did hd6)
              have HRU6 := Lib.hid (hd6.rdn HRU.out)
              have hcv := hnew.str7 sc
              clear hnew hf6 hd6 HCR HQ HMW HMU HRU
              by_cases hin : n ∈ UL
              · have hlk := HMU6.out.mp.bool_yes HN.out hin rfl
                have HIN := Lib.hid hin
                clear hin hcv
                go_wp2_with fail
                go_roundw
                case rel => exact ⟨j + 1, cn, S6, R6, HLT.out, by have := HCJ.out; omega, by go_num, HQ6.out, { HMW6.out with mp := HMW6.out.mp.iff (fun k => by
                  rw [← HTK.out k]
                  exact ⟨fun h => .inr h, fun h => h.elim (fun h => absurd (h.1 ▸ HIN.out) h.2) id⟩) }, HMU6.out, HRU6.out⟩
                case measure => have := HLT.out; simp [intOf]; omega
              · have hlk := HMU6.out.mp.bool_no HN.out hin
                have HIN := Lib.hid hin
                obtain ⟨D, ho, hput, _⟩ := HMW6.out.mp.open
                have HO := Lib.hid ho; have HPUT := Lib.hid hput
                clear hin ho hput
                go_wp2_with (at_mapUpdate; refine wpList_mapUpdate_in _ rfl _ _ _ 41 rfl 35 9 lawF Try.underlying41 strH bw cn D rfl HO.out (by have h1 := HCJ.out; have h2 := HJ.out; have h3 := hNl; unfold maxLen; omega) _ _ _ rfl rfl (keyF_of HN.out) (.held (.string B)) [] rfl ?_; intro w1 hown1 hturn1; have HO1 := Lib.hid hown1; have HT1 := Lib.hid hturn1; clear hown1 hturn1)
                go_roundw
                case rel => exact ⟨j + 1, cn + 1, S6, R6, HLT.out, by have := HCJ.out; omega, by go_num, HQ6.out.turn HT1.out.grown HMW6.out.ge HMW6.out.ns HMW6.out.nr, { HMW6.out with mp := (HPUT.out _ _ _ _ HO1.out HV0.out).iff (fun k => by
                  rw [← HTK.out k]
                  exact ⟨fun h => h.elim (fun h => .inl ⟨h, h ▸ HIN.out⟩) .inr, fun h => h.elim (fun h => .inl h.1) .inr⟩) }, HMU6.out.turn HT1.out.grown (by omega), RdN.turn HRU6.out HMW6.out.mp HT1.out.grown⟩
                case measure => have := HLT.out; simp [intOf]; omega
            · have hjn : nN = j := by omega
              subst hjn
              have HMS : Hid (Own7 strH w wr S5 R5 bw cn (fun n => n ∈ NL ∧ n ∉ UL) val) := { HMW.out with mp := HMW.out.mp.iff (fun n => by rw [HNN.out, List.take_length]) }
              have hcr := K.crash wr S5 R5 p m ta tc T HQ.out.fs (HLK.out.bnd (by omega)) (RdN.of (HRT.out.below HQ.out.bw) HQ.out.bw.size HQ.out.lo) (by rw [← HNT.out]; omega) HTLC.out HTC.out (fun t ht => by
                have h := HTA.out t ht
                exact ⟨RdN.of (h.1.below HQ.out.bw) HQ.out.bw.size HQ.out.lo, h.2⟩)
              rw [← HNT.out] at hcr
              have HCR := Lib.hid hcr
              have HLM := Lib.hid (lim_crash HLK.out (K.ok HQ.out.fs) T)
              have HUM := Lib.hid (u32_crash HU.out T)
              have HOK := Lib.hid (K.ok HQ.out.fs)
              have HSF : Hid (∀ n, n ∈ NL → n ∉ UL → n ∈ numsF false (crashF m T).files ∧ (readF (crashF m T) n).1 = (readF m n).1) := fun n h1 h2 => safe_stays HOK.out T (by rw [← HNLE.out]; exact h1) (by rw [← HULE.out]; exact h2)
              have HCT : Hid (∀ n, n ∈ numsF false (crashF m T).files → n ∈ NL ∨ n ∈ UL) := fun n h => by rw [HNLE.out, HULE.out]; exact crash_there HOK.out T h
              have HNO := Lib.hid (crash_all HOK.out T).2.2.2
              have hdn : (crashF m T).down = false := rfl
              have HDN := Lib.hid hdn
              clear hlt hj HMW HRU hcr hdn
              go_wp2_with fail
              refine HCR.out.mono ?_
              rintro e w6 ⟨S6, R6, rfl, hf6, hd6⟩
              have HQ6 := Lib.hid (HQ.out.did hf6 hd6)
              have HMS6 := Lib.hid (HMS.out.did hd6); have HMU6 := Lib.hid (HMU.out.did hd6)
              clear hf6 hd6 HCR HMS HMU HQ HJ HCJ HRT HTA
              generalize crashF m T = m2 at *
              have HLS := Lib.hid (K.list w6 S6 R6 p m2 HQ6.out.fs (HLM.out.bnd (by omega)))
              go_wp2_with fail
              refine HLS.out.mono ?_
              rintro e w7 ⟨S7, R7, va, vc, rfl, _, _, hvr, hf7, hd7⟩
              have HQ7 := Lib.hid (HQ6.out.did hf7 hd7)
              have HMS7 := Lib.hid (HMS6.out.did hd7); have HMU7 := Lib.hid (HMU6.out.did hd7)
              have HVR := Lib.hid hvr
              obtain ⟨VL, hVL⟩ : ∃ VL, VL = numsF false m2.files := ⟨_, rfl⟩
              have hVl : VL.length ≤ 80 := by rw [hVL]; exact Nat.le_trans (nums_len _ _) HLM.out.1
              rw [← hVL] at HVR ⊢
              have HVLE := Lib.hid hVL
              obtain ⟨nV, hnV⟩ : ∃ nV, nV = VL.length := ⟨_, rfl⟩
              have HNV := Lib.hid hnV
              rw [← hnV] at hVl ⊢
              clear hvr hf7 hd7 hVL hnV HLS HMS6 HMU6 HQ6
              go_wp2_with fail
              go_loopw [85] (fun i wr => ∃ (j : Nat) (S R : Nat → Prop), j ≤ nV ∧ i = .int .i64 j ∧ Q7 K w wr p S R m2 ∧ Own7 strH w wr S R bw cn (fun n => (n ∈ NL ∧ n ∉ UL) ∧ n ∉ VL.take j) val ∧ Own7 boolH w wr S R (bw + 1) cnt (fun n => n ∈ UL) (fun _ => .bool true) ∧ RdN S wr va (u32V VL)) (fun i _ => nV - (intOf i).toNat)
              case atStart => exact ⟨0, S7, R7, Nat.zero_le _, rfl, HQ7.out, { HMS7.out with mp := HMS7.out.mp.iff (fun n => by simp) }, HMU7.out, HVR.out⟩
              case round =>
                obtain ⟨j, S8, R8, hj, rfl, hq, hmw, hmu, hru⟩ := hrel
                have HQ := Lib.hid hq; have HMW := Lib.hid hmw; have HMU := Lib.hid hmu; have HRU := Lib.hid hru
                have HJ := Lib.hid hj
                clear hq hmw hmu hru HQ7 HMS7 HMU7 HVR
                by_cases hlt : j < nV
                · have hjL : j < VL.length := by rw [← HNV.out]; exact hlt
                  obtain ⟨rb, off, rfl, hrb, hrs, hrc⟩ := HRU.out (by rw [u32V_length]; omega)
                  have e1 : wr.cell? ⟨rb, off + j, none⟩ = some (.int .u32 ((VL[j] : Nat) : Int)) := hrc j _ (by simp [u32V, List.getElem?_eq_getElem hjL])
                  have HTK := Lib.hid (take_gone hjL (fun n => n ∈ NL ∧ n ∉ UL))
                  have HFR := Lib.hid (take_fresh (by rw [HVLE.out]; exact nums_sorted (K.ok HQ.out.fs).1) hjL)
                  have hin : VL[j] ∈ numsF false m2.files := by rw [← HVLE.out]; exact List.getElem_mem _
                  have HN := Lib.hid (nums_u32 HUM.out hin)
                  have HLT := Lib.hid hlt
                  have HRT2 := Lib.hid (read_there (K.ok HQ.out.fs) hin)
                  have HCN := Lib.hid (HCT.out _ hin)
                  clear hin
                  generalize VL[j] = n at *
                  have hcr := K.read wr S8 R8 p m2 n HQ.out.fs (HLM.out.bnd (by omega)) HN.out
                  rw [show (readF m2 n).2 = 0 by rw [HRT2.out]] at hcr
                  have HSFn := Lib.hid (fun h1 h2 => (HSF.out n h1 h2).2)
                  have hv0 : val n = .string (readF m n).1 := by rw [HVAL.out]
                  generalize (readF m2 n).1 = B at hcr HSFn
                  have HCR := Lib.hid hcr; have HV0 := Lib.hid hv0
                  clear hrs hrc hjL hcr HRT2 hv0
                  go_wp2_with fail
                  refine HCR.out.mono ?_
                  rintro e w8 ⟨S9, R9, sa, sc, rfl, _, _, hnew, hf9, hd9⟩
                  have HQ9 := Lib.hid (HQ.out.did hf9 hd9)
                  have HMW9 := Lib.hid (HMW.out.did hd9); have HMU9 := Lib.hid (HMU.out.did hd9)
                  have HRU9 := Lib.hid (hd9.rdn HRU.out)
                  have hcv := hnew.str7 sc
                  obtain ⟨D, ho, _, hdel⟩ := HMW9.out.mp.open
                  have HO := Lib.hid ho; have HDEL := Lib.hid hdel
                  clear hnew hf9 hd9 HCR HQ HMW HMU HRU ho hdel
                  by_cases hin : n ∈ UL
                  · have hls := HMW9.out.mp.str_no HN.out (fun h => h.1.2 hin)
                    have hlk := HMU9.out.mp.bool_yes HN.out hin rfl
                    clear hin hcv
                    go_wp2_with (at_delete; refine wpList_delete_own _ rfl _ _ 41 35 rfl 9 lawF Try.underlying41 strH bw cn D rfl HO.out _ _ rfl (keyF_of HN.out) ?_; intro w1 hown1 hturn1; have HO1 := Lib.hid hown1; have HT1 := Lib.hid hturn1; clear hown1 hturn1)
                    go_roundw
                    case rel => exact ⟨j + 1, S9, R9, HLT.out, by go_num, HQ9.out.turn HT1.out.grown HMW9.out.ge HMW9.out.ns HMW9.out.nr, { HMW9.out with mp := (HDEL.out _ _ _ HO1.out).iff HTK.out }, HMU9.out.turn HT1.out.grown (by omega), RdN.turn HRU9.out HMW9.out.mp HT1.out.grown⟩
                    case measure => have := HLT.out; simp [intOf]; omega
                  · have hnl : n ∈ NL := HCN.out.elim id (fun h => absurd h hin)
                    have hls := HMW9.out.mp.str_yes HN.out ⟨⟨hnl, hin⟩, HFR.out⟩
                    rw [HV0.out, ← HSFn.out hnl hin] at hls
                    clear hin hnl
                    go_wp2_with (at_delete; refine wpList_delete_own _ rfl _ _ 41 35 rfl 9 lawF Try.underlying41 strH bw cn D rfl HO.out _ _ rfl (keyF_of HN.out) ?_; intro w1 hown1 hturn1; have HO1 := Lib.hid hown1; have HT1 := Lib.hid hturn1; clear hown1 hturn1)
                    go_roundw
                    case rel => exact ⟨j + 1, S9, R9, HLT.out, by go_num, HQ9.out.turn HT1.out.grown HMW9.out.ge HMW9.out.ns HMW9.out.nr, { HMW9.out with mp := (HDEL.out _ _ _ HO1.out).iff HTK.out }, HMU9.out.turn HT1.out.grown (by omega), RdN.turn HRU9.out HMW9.out.mp HT1.out.grown⟩
                    case measure => have := HLT.out; simp [intOf]; omega
                · have hjn : nV = j := by omega
                  subst hjn
                  have HEM : Hid (∀ n, ¬ ((n ∈ NL ∧ n ∉ UL) ∧ n ∉ VL.take nV)) := fun n h => by
                    rw [HNV.out, List.take_length, HVLE.out] at h
                    exact h.2 (HSF.out n h.1.1 h.1.2).1
                  clear hlt hj HMU HRU HJ
                  go_wp2_with fail
                  refine (fixed_any K wr).mono ?_
                  rintro e w9 ⟨rfl, hb9⟩
                  have HQ9 := Lib.hid (HQ.out.below hb9)
                  have hln := fun ty => (HMW.out.below hb9).mp.none HEM.out ty _ _ Try.underlying41
                  have hun := K.unsafe_ w9 S8 R8 p m2 HQ9.out.fs (HLM.out.bnd (by omega))
                  rw [HNO.out] at hun
                  have HUN2 := Lib.hid hun
                  clear hb9 HQ HMW hun
                  go_wp2_with fail
                  refine HUN2.out.mono ?_
                  rintro e w10 ⟨S10, R10, qa, qc, rfl, _, _, _, hf10, hd10⟩
                  have HQ10 := Lib.hid (HQ9.out.did hf10 hd10)
                  have hdw := K.down w10 S10 R10 p m2 HQ10.out.fs
                  rw [HDN.out] at hdw
                  have HDW := Lib.hid hdw
                  clear hf10 hd10 hdw hln HUN2 HQ9
                  go_wp2_with fail
                  refine HDW.out.mono ?_
                  rintro e w11 ⟨S11, R11, rfl, hf11, hd11⟩
                  have HQ11 := Lib.hid (HQ10.out.did hf11 hd11)
                  clear hf11 hd11
                  go_wp2_with fail
                  go_ret
                  exact ⟨rfl, HQ11.out.bw⟩
end Go.Proofs.Ythfhmohbfoolnaa
