import Derived.Test.YthbgnkkepfbmjaaGreatJ1
import Derived.Test.YthbgnkkepfbmjaaGreatJa
import Derived.Test.YthbgnkkepfbmjaaGreatJk
import Derived.Test.YthbgnkkepfbmjaaGreatJ2
import Derived.Test.YthbgnkkepfbmjaaGreatJh
namespace Go.Proofs.YthbgnkkepfbmjaaGreat
open Go Go.RowKit Go.Sort

/-! The law's ops on a log, walked. -/
/-- What drawn leaves. -/
def DrawnOut (F : FsKit) (w : World) (S R T : Nat → Prop) (p : Nat) (k : Nat) (e : Ending) (w' : World) : Prop :=
  ∃ v S' R' T' m', e = .returned v ∧ F.Fs w' S' R' p m' ∧ Lim k m' ∧ NumOk m' ∧ DidL S R T S' R' T' w w'
theorem DrI.out {F : FsKit} {LK : LogKit F} {w : World} {S R T : Nat → Prop} {p q : Nat} {K : Int} {k N : Nat} {wr w' : World} {S1 R1 T1 : Nat → Prop} {m1 : FSm} {g1 : LgM} {f : Nat} {a : Option Addr} {c : Nat} {Rr : List Rw} {s : Int} {t : ByteArray} {kk : Bool}
    (h : DrI F LK w S R T p q K k N wr S1 R1 T1 m1 g1 f a c Rr s t kk) (ho : Off (fun j => w.heap.size ≤ j ∧ j ≤ w.heap.size + 1) wr w') {k2 : Nat} (hk : k ≤ k2) (v : Value) : DrawnOut F w S R T p k2 (.returned v) w' := by
  refine ⟨v, S1, R1, T1, m1, rfl, F.move h.fs ho.size fun j hj => ho.block j (hj.elim ((F.low h.fs).1 j) ((F.low h.fs).2 j)) fun e => ?_, h.lim.more hk, h.num, ?_⟩
  · have := h.far j e.1 e.2
    exact hj.elim this.1 this.2.1
  · exact ⟨h.did.s, h.did.r, h.did.t, h.did.dis, ⟨ho.os.trans h.did.off.os, ho.tape.trans h.did.off.tape, ho.output.trans h.did.off.output, Nat.le_trans h.did.off.size ho.size, fun j hj hn => (ho.block j (Nat.lt_of_lt_of_le hj h.did.off.size) fun e => by omega).trans (h.did.off.block j hj hn)⟩⟩
theorem MB.range' {w : World} {b f : Nat} {K s : Int} {v : Value} {t : ByteArray} {k : Bool} (h : MB w b K f v s t k) : w.rangeAt b 0 [.int .i64 K, .int .u32 (f : Int), v, .int .i64 s, .string t, .bool k] := h.range
set_option maxRecDepth 20000 in
set_option maxHeartbeats 4000000 in
theorem drawn_any (F : FsKit) (LK : LogKit F) (w : World) (S R T : Nat → Prop) (p q : Nat) (m : FSm) (g : LgM) (K : Int) (k0 : Nat) (a : Option Addr) (c n : Nat) (L : List OpM) (hn : n = L.length) (hl : n ≤ 60) (hk0 : k0 ≤ 1000)
    (hF : F.Fs w S R p m) (hL : LK.At w T p q g) (hd : Dis T S R) (hlim : Lim k0 m) (hnum : NumOk m) (hg : GNum g) (hr : RdN (fun k => S k ∨ T k) w a (flatG OpM.l L)) (hops : ∀ x ∈ L, OpN (fun k => S k ∨ T k) w x ∧ x.sp.length ≤ 60) :
    Calls Tryz.prog 18 #[.pointer (some ⟨q, 0, none⟩), .int .i64 K, .slice a n c] w (DrawnOut F w S R T p (k0 + 240)) := by
  have HN := Lib.hid hn; have HR := Lib.hid hr; have HOPS := Lib.hid hops
  have HI0 : Hid (∀ v, v = (w.alloc (.cells #[.int .i64 0, .int .u32 0, .slice none 0 0, .int .i64 0, .string ⟨#[]⟩, .bool false] 57)).alloc (.cells #[.int .i64 K, .int .u32 0, .slice none 0 0, .int .i64 0, .string ⟨#[]⟩, .bool false] 57) →
      DrI F LK w S R T p q K k0 0 v S R T m g 0 none 0 [] 0 ⟨#[]⟩ false) := fun v hv => by
    have hb : Below w.heap.size w v := by rw [hv]; exact (box1 w _).alloc (by simp) _
    refine ⟨F.below hF hb, LK.move hL hb.size fun j hj => hb.block j (LK.low hL j hj), DidL.of_did' (LK.low hL) hd (Did.after hb (Did.refl _ _ _)), hlim, hnum, hg, ?_, ?_, ?_, fun j h1 _ => ?_, ?_, by omega⟩
    · rw [hv]
      have := heap_alloc_new (w.alloc (.cells #[.int .i64 0, .int .u32 0, .slice none 0 0, .int .i64 0, .string ⟨#[]⟩, .bool false] 57)) (.cells #[.int .i64 K, .int .u32 0, .slice none 0 0, .int .i64 0, .string ⟨#[]⟩, .bool false] 57)
      rw [show (w.alloc (.cells #[.int .i64 0, .int .u32 0, .slice none 0 0, .int .i64 0, .string ⟨#[]⟩, .bool false] 57)).heap.size = w.heap.size + 1 by simp] at this
      exact this
    · rw [hv]; exact World.there_alloc (there_last _ _ _ _ _ rfl rfl) _
    · rw [hv]; simp
    · refine ⟨fun e => ?_, fun e => ?_, fun e => ?_⟩
      · have := (F.low hF).1 j e; omega
      · have := (F.low hF).2 j e; omega
      · have := LK.low hL j e; omega
    · exact ⟨fun h => absurd h (by simp [flatG]), Nat.zero_le _, Nat.zero_le _, fun _ h => absurd h (by simp), Nat.zero_le _, fun _ h => absurd h (by simp)⟩
  clear hn hr hops hF hL hd hlim hnum hg
  obtain ⟨v, hv⟩ : ∃ v, v = (w.alloc (.cells #[.int .i64 0, .int .u32 0, .slice none 0 0, .int .i64 0, .string ⟨#[]⟩, .bool false] 57)).alloc (.cells #[.int .i64 K, .int .u32 0, .slice none 0 0, .int .i64 0, .string ⟨#[]⟩, .bool false] 57) := ⟨_, rfl⟩
  have HI := Lib.hid (HI0.out v hv)
  clear HI0
  go_enter Tryz.func18, Tryz.ntmps18
  go_wp2_with fail
  rw [← hv]
  clear hv
  go_loopw [19] (fun i wr => ∃ (j : Nat) (S1 R1 T1 : Nat → Prop) (m1 : FSm) (g1 : LgM) (f : Nat) (a2 : Option Addr) (c2 : Nat) (Rr : List Rw) (s : Int) (t : ByteArray) (kk : Bool), j ≤ n ∧ i = .int .i64 j ∧ DrI F LK w S R T p q K (k0 + 4 * j) j wr S1 R1 T1 m1 g1 f a2 c2 Rr s t kk) (fun i _ => n - (intOf i).toNat)
  case atStart => exact ⟨0, S, R, T, m, g, 0, none, 0, [], 0, _, false, Nat.zero_le _, rfl, HI.out⟩
  case round =>
    obtain ⟨j, S1, R1, T1, m1, g1, f, a2, c2, Rr, s, t, kk, hj, rfl, hI⟩ := hrel
    have HW := Lib.hid hI
    clear hI
    by_cases hlt : j < n
    · have hjL : j < L.length := by rw [← HN.out]; exact hlt
      have hrw : RdN (fun k => S1 k ∨ T1 k) wr a (flatG OpM.l L) := HR.out.off HW.out.did.off fun k hk => by
        rcases hk with hk | hk
        · exact (HW.out.did.s k hk).imp .inl id
        · exact (HW.out.did.t k hk).imp .inr id
      obtain ⟨b, off, rfl, hbl, q0, q1, q2, q3⟩ := op_elem hrw.rd hjL
      obtain ⟨x, hx⟩ : ∃ x, L[j] = x := ⟨_, rfl⟩
      have hxm : x ∈ L := by rw [← hx]; exact List.getElem_mem _
      rw [hx] at q0 q1 q2 q3
      have HXN : Hid (OpN (fun k => S1 k ∨ T1 k) wr x ∧ x.sp.length ≤ 60) := by
        have h := HOPS.out x hxm
        refine ⟨h.1.off HW.out.did.off fun k hk => ?_, h.2⟩
        rcases hk with hk | hk
        · exact (HW.out.did.s k hk).imp .inl id
        · exact (HW.out.did.t k hk).imp .inr id
      obtain ⟨ns, hns⟩ : ∃ ns, ns = x.sp.length := ⟨_, rfl⟩
      obtain ⟨nf, hnf⟩ : ∃ nf, nf = x.ft.length := ⟨_, rfl⟩
      rw [← hns] at q1
      rw [← hnf] at q3
      have HNS := Lib.hid hns; have HLT := Lib.hid hlt
      have i1 : (0 : Int) ≤ (j : Int) := by omega
      have i2 : (j : Int) < (n : Int) := by omega
      obtain ⟨w1, hw1⟩ : ∃ w1, w1 = wr.alloc (.cells #[.int .i64 x.kind, .slice x.sa ns x.sc, .int .i64 x.size, .slice x.fa nf x.fc] 100) := ⟨_, rfl⟩
      have HB1 : Hid (Below wr.heap.size wr w1) := by show Below _ _ _; rw [hw1]; exact box1 _ _
      have HI1 := Lib.hid (HW.out.below HB1.out)
      have HRG : Hid (w1.rangeAt wr.heap.size 0 [.int .i64 x.kind, .slice x.sa ns x.sc, .int .i64 x.size, .slice x.fa nf x.fc]) := by show World.rangeAt _ _ _ _; rw [hw1]; exact rangeAt_last wr _ _ _ rfl
      have HXN1 : Hid (OpN (fun k => S1 k ∨ T1 k) w1 x) := HXN.out.1.off (Off.of_below HB1.out) fun _ h => .inl h
      have HLOW : Hid (w.heap.size + 1 < wr.heap.size ∧ wr.heap.size < w1.heap.size) := ⟨by have := HW.out.sz; omega, by rw [hw1]; simp⟩
      obtain ⟨kd, hkd⟩ : ∃ kd, kd = x.kind := ⟨_, rfl⟩
      rw [← hkd] at q0 HRG hw1
      clear hx hxm hns hnf hlt hrw hkd
      by_cases hk0 : kd = 0
      · have b0 : (kd == 0) = true := by simp [hk0]
        clear hk0
        have hbody := opBody_any kd x.sa ns x.sc x.size x.fa nf x.fc x.sp w1 HNS.out HXN1.out.1.rd HXN.out.2 HXN1.out.2.2.2
        unfold opV at hbody
        have HBODY := Lib.hid hbody
        clear hbody
        obtain ⟨BB, hBB⟩ : ∃ BB, BB = putB x.sp := ⟨_, rfl⟩
        have hble : BB.length ≤ 2406 := by rw [hBB]; exact putB_le
        rw [← hBB] at HBODY
        clear hBB
        go_wp2_with fail
        rw [← hw1]
        clear hw1
        refine HBODY.out.mono ?_
        rintro e w2 ⟨g2, cb, rfl, _, _, _, hg2, hra, hb2⟩
        have HI2 := Lib.hid (HI1.out.below hb2)
        have hcv := run_string_rd (P := Tryz.prog) w2 38 9 5 Tryz.underlying38 Tryz.underlying5 Tryz.underlying9 (B := w2.heap.size) (a := some ⟨g2, 0, none⟩) (l := BB) BB.length cb (fun _ => ⟨g2, 0, rfl, hg2, fun j u hu => hra j u hu⟩) rfl
        have kb := fun (w : World) (S : ByteArray) => run_bytes_of_string (P := Tryz.prog) w 9 38 5 S Tryz.underlying9 Tryz.underlying38 Tryz.underlying5
        obtain ⟨SS, hSS⟩ : ∃ SS, SS = bs BB := ⟨_, rfl⟩
        have HSS := Lib.hid hSS
        have hsz : SS.size = BB.length := by rw [hSS, bs_size]
        have HSZ := Lib.hid hsz
        rw [← hSS] at hcv
        clear hra hb2 hg2 hSS hsz
        go_wp2_with fail
        clear hcv kb
        obtain ⟨hra, _⟩ := alloc_bytes w2 SS (grownCap w2 SS.size 0 5) ((bytesRow SS (grownCap w2 SS.size 0 5)).size, (bytesRow SS (grownCap w2 SS.size 0 5)).size + 1) (by unfold bytesRow; simp)
        obtain ⟨w3, hw3⟩ : ∃ w3, w3 = (w2.alloc (.cells (bytesRow SS (grownCap w2 SS.size 0 5)) 5 ((bytesRow SS (grownCap w2 SS.size 0 5)).size, (bytesRow SS (grownCap w2 SS.size 0 5)).size + 1))).drew := ⟨_, rfl⟩
        have hra3 : w3.rangeAt w2.heap.size 0 (bV SS.data.toList) := by rw [hw3]; exact (World.rangeAt_drew _ _ _ _).2 hra
        have hb3 : Below w2.heap.size w2 w3 := by rw [hw3]; exact Below_drew ((Below.refl _ _).alloc (Nat.le_refl _) _)
        have hs3 : w2.heap.size < w3.heap.size := by rw [hw3]; simp
        have HI3 := Lib.hid (HI2.out.below hb3)
        have hfr := DrI.fresh HI2.out
        have HRD3 : Hid (RdN (fun k => S1 k ∨ T1 k) w3 (some ⟨w2.heap.size, 0, none⟩) (bV BB)) := fun _ => ⟨w2.heap.size, 0, rfl, hs3, hfr, fun j u hu => hra3 j u (by rw [HSS.out, bs_toList]; exact hu)⟩
        rw [← hw3]
        clear hra hw3 hra3 hb3 hs3 hfr
        have hap : ∀ (n c : Nat), n = BB.length → n ≤ c → c ≤ maxLen → Calls Tryz.prog 24 #[.pointer (some ⟨q, 0, none⟩), .slice (some ⟨w2.heap.size, 0, none⟩) n c] w3 _ := fun n c hn hc hm => by
          subst hn
          exact LK.append w3 S1 R1 T1 p q m1 g1 (some ⟨w2.heap.size, 0, none⟩) c BB HI3.out.fs HI3.out.log HI3.out.did.dis ⟨⟨_, by omega, HI3.out.lim⟩, HI3.out.num⟩ HRD3.out (by omega) hc hm
        have HAP := Lib.hid hap
        clear hap
        refine (HAP.out _ _ HSZ.out (grownCap_ge _ _ _ _) (grownCap_le_maxLen _ _ _ _ (by unfold maxLen; rw [HSZ.out]; omega))).mono ?_
        rintro e w4 ⟨S2, R2, T2, rfl, hF2, hL2, hD2⟩
        obtain ⟨hn2, hg2⟩ := num_appendL HI3.out.num HI3.out.gn BB
        have HI4 := Lib.hid (HI3.out.act hF2 hL2 hD2 (lim_appendL HI3.out.lim g1 BB) hn2 hg2)
        obtain ⟨ev, hev⟩ : ∃ ev, (appendL m1 g1 BB).1 = ev := ⟨_, rfl⟩
        rw [hev]
        clear hF2 hL2 hD2 hn2 hg2 hev HI2 HI3 HRD3 HAP
        by_cases h0 : ev = 0
        · have e0 : (ev == 0) = true := by simp [h0]
          clear h0
          have HPUT := Lib.hid (mdPut_any (K := K) (f := f) (s := s) (t := t) (kk := kk) w4 HI4.out.md (by omega) HI4.out.low SS)
          unfold mdV at HPUT
          have HRG4 := Lib.hid HI4.out.box.range
          go_wp2_with (refine wpList_load_mid rfl 57 (.tmp 8) rfl (w.heap.size + 1) 0 rfl [.int .i64 K, .int .u32 (f : Int), .slice a2 Rr.length c2, .int .i64 s, .string t, .bool kk] _ HRG4.out Tryz.underlying57 rfl size_md ?_)
          refine HPUT.out.mono ?_
          rintro e w5 ⟨⟨a5, c5, R5, rfl, hm5, h05⟩, hb5⟩
          have HI5 := Lib.hid (HI4.out.below hb5)
          obtain ⟨k5, hk5⟩ : ∃ k5, R5.length = k5 + 1 := ⟨R5.length - 1, by omega⟩
          have HK5 := Lib.hid hk5
          have HM5 := Lib.hid hm5
          have hk60 : k5 + 1 ≤ 61 := by have := hm5.few; omega
          rw [hk5]
          clear hk5 h05 hb5 hm5
          have y0 := HI5.out.box.cell 0 (u := .int .i64 K) rfl
          have y1 := HI5.out.box.cell 1 (u := .int .u32 (f : Int)) rfl
          have y2 := HI5.out.box.cell 2 (u := .slice a2 Rr.length c2) rfl
          have y3 := HI5.out.box.cell 3 (u := .int .i64 s) rfl
          have y4 := HI5.out.box.cell 4 (u := .string t) rfl
          have y5 := HI5.out.box.cell 5 (u := .bool kk) rfl
          have z0 := HI5.out.box.fz 0
          have z1 := HI5.out.box.fz 1
          have z2 := HI5.out.box.fz 2
          have z3 := HI5.out.box.fz 3
          have z4 := HI5.out.box.fz 4
          have z5 := HI5.out.box.fz 5
          obtain ⟨w6, hw6⟩ : ∃ w6, w6 = w5.setCells (w.heap.size + 1) 0 (mdV K f (.slice a5 (k5 + 1) c5) s t kk).toList := ⟨_, rfl⟩
          have HI6 := Lib.hid (HI5.out.store (R2 := R5) (a2 := a5) (c2 := c5) ((OffS (mdV K f (.slice a5 R5.length c5) s t kk).toList 0).more' fun k e => by subst e; omega) (HI5.out.box.setAll K f (.slice a5 R5.length c5) s t kk) (World.there_setCells HI5.out.there _ _ _) HM5.out HI5.out.flt)
          rw [HK5.out, ← hw6] at HI6
          have hw6' : w6 = (((((w5.setCell ⟨w.heap.size + 1, 0, none⟩ (.int .i64 K)).setCell ⟨w.heap.size + 1, 1, none⟩ (.int .u32 (f : Int))).setCell ⟨w.heap.size + 1, 2, none⟩ (.slice a5 (k5 + 1) c5)).setCell ⟨w.heap.size + 1, 3, none⟩ (.int .i64 s)).setCell ⟨w.heap.size + 1, 4, none⟩ (.string t)).setCell ⟨w.heap.size + 1, 5, none⟩ (.bool kk) := hw6
          clear hw6
          go_upto_region 12 with fail
          rw [← hw6']
          clear hw6' y0 y1 y2 y3 y4 y5 z0 z1 z2 z3 z4 z5
          obtain ⟨b6, off6, ha6, hb6, hc6⟩ := HI6.out.md.elem (i := k5) (by rw [HK5.out]; omega)
          obtain ⟨xr, hxr⟩ : ∃ xr, R5[k5]'(by rw [HK5.out]; omega) = xr := ⟨_, rfl⟩
          rw [hxr] at hc6
          obtain ⟨nv, hnv⟩ : ∃ nv, nv = xr.vs.length := ⟨_, rfl⟩
          rw [← hnv] at hc6
          subst ha6
          have x2 : w6.cell? ⟨w.heap.size + 1, 2, none⟩ = some (.slice (some ⟨b6, off6, none⟩) (k5 + 1) c5) := by rw [← HK5.out]; exact HI6.out.box.cell 2 rfl
          have j1 : (0 : Int) ≤ (k5 : Int) := by omega
          have j2 : (k5 : Int) < ((k5 + 1 : Nat) : Int) := by omega
          have j3 : (k5 : Int) < (k5 : Int) + 1 := by omega
          have hrg6 := HI6.out.box.range
          rw [HK5.out] at hrg6
          have HRG6 := Lib.hid hrg6
          have hall6 := mdAll_any (K := K) (f := f) (s := s) (t := t) (k := kk) w6 HI6.out.md (by omega)
          rw [HK5.out] at hall6
          unfold mdV at hall6
          have HALL6 := Lib.hid hall6
          clear hxr hnv hrg6 hall6
          by_cases hkv : (nv : Int) = K
          · have ek : ((nv : Int) == K) = true := by simp [hkv]
            clear hkv
            go_wp2_with (refine wpList_load_mid rfl 57 (.tmp 8) rfl (w.heap.size + 1) 0 rfl [.int .i64 K, .int .u32 (f : Int), .slice (some ⟨b6, off6, none⟩) (k5 + 1) c5, .int .i64 s, .string t, .bool kk] _ HRG6.out Tryz.underlying57 rfl size_md ?_)
            refine HALL6.out.mono ?_
            rintro e w7 ⟨⟨a9, n9, c9, rfl, hn9⟩, hb9⟩
            have HI7 := Lib.hid (HI6.out.below hb9)
            have x3 := HI7.out.box.cell 3 (u := .int .i64 s) rfl
            have f3 := HI7.out.box.fz 3
            clear hn9 hb9
            go_wp2_with fail
            go_roundw
            case rel => exact ⟨j + 1, S2, R2, T2, _, _, f, _, c5, R5, (n9 : Int), t, kk, HLT.out, by go_num, (HI7.out.store ((OffS [.int .i64 (n9 : Int)] 3).more' fun k e => by subst e; omega) (HI7.out.box.set3 _) (there_set HI7.out.there) HI7.out.md HI7.out.flt).more (by omega) (by omega)⟩
            case measure => have := HLT.out; simp [intOf]; omega
          · have ek : ((nv : Int) == K) = false := by simp [hkv]
            clear hkv
            go_wp2_with fail
            go_roundw
            case rel => exact ⟨j + 1, S2, R2, T2, _, _, f, _, c5, R5, s, t, kk, HLT.out, by go_num, HI6.out.more (by omega) (by omega)⟩
            case measure => have := HLT.out; simp [intOf]; omega
        have e0 : (ev == 0) = false := by simp [h0]
        clear h0
        by_cases h7 : ev = 7
        · have e7 : (ev == 7) = true := by simp [h7]
          clear h7
          have f4 := HI4.out.box.fz 4
          have x4 := HI4.out.box.cell 4 (u := .string t) rfl
          obtain ⟨w5, hw5⟩ : ∃ w5, w5 = w4.setCell ⟨w.heap.size + 1, 4, none⟩ (.string SS) := ⟨_, rfl⟩
          have HI5 := Lib.hid (HI4.out.store ((OffS [.string SS] 4).more' fun k e => by subst e; omega) (HI4.out.box.set4 SS) (there_set HI4.out.there) HI4.out.md HI4.out.flt)
          rw [show w4.setCells (w.heap.size + 1) 4 [.string SS] = w4.setCell ⟨w.heap.size + 1, 4, none⟩ (.string SS) from rfl, ← hw5] at HI5
          go_upto_region 16 with fail
          rw [← hw5]
          clear hw5 f4 x4
          have HR9 := Lib.hid HI5.out.box.range
          have HT9 := Lib.hid HI5.out.there
          go_wp2_with (first
            | (refine wpList_load_mid rfl 57 (.tmp 8) rfl (w.heap.size + 1) 0 rfl [.int .i64 K, .int .u32 (f : Int), .slice a2 Rr.length c2, .int .i64 s, .string SS, .bool kk] _ HR9.out Tryz.underlying57 rfl size_md ?_)
            | (refine wpList_store_mid rfl 57 (.tmp 6) (.tmp 59) rfl w.heap.size 0 #[.int .i64 K, .int .u32 (f : Int), .slice a2 Rr.length c2, .int .i64 s, .string SS, .bool kk] rfl rfl HT9.out size_md (by simp [Value.oneCell']) ?_))
          refine bodyPost_ret (v := .tuple #[.agg #[.int .i64 K, .int .u32 (f : Int), .slice a2 Rr.length c2, .int .i64 s, .string SS, .bool kk], .bool true]) (results_cell_two (p := 6) (u := 7) (ty := 57) (b := w.heap.size) (x := .bool true) rfl rfl rfl (run_loadVar_mid (P := Tryz.prog) _ w.heap.size 0 57 _ _ (World.rangeAt_setCells_same _ w.heap.size 0 _ HT9.out) Tryz.underlying57 rfl size_md)) rfl ?_
          exact HI5.out.out ((OffS _ 0).more' fun k e => by subst e; omega) (by omega) _
        have e7 : (ev == 7) = false := by simp [h7]
        clear h7
        go_wp2_with fail
        go_roundw
        case rel => exact ⟨j + 1, S2, R2, T2, _, _, f, a2, c2, Rr, s, t, kk, HLT.out, by go_num, HI4.out.more (by omega) (by omega)⟩
        case measure => have := HLT.out; simp [intOf]; omega
      have b0 : (kd == 0) = false := by simp [hk0]
      by_cases hk1 : kd = 1
      · have b1 : (kd == 1) = true := by simp [hk1]
        clear hk1 hk0
        go_wp2_with fail
        rw [← hw1]
        clear hw1
        refine (LK.flush w1 S1 R1 T1 p q m1 g1 HI1.out.fs HI1.out.log HI1.out.did.dis ⟨⟨_, by omega, HI1.out.lim⟩, HI1.out.num⟩).mono ?_
        rintro e w2 ⟨S2, R2, T2, rfl, hF2, hL2, hD2⟩
        obtain ⟨hn2, hg2⟩ := num_flushL HI1.out.num HI1.out.gn
        have HI2 := Lib.hid (HI1.out.act hF2 hL2 hD2 (lim_flushL HI1.out.lim g1) hn2 hg2)
        obtain ⟨ev, hev⟩ : ∃ ev, (flushL m1 g1).1 = ev := ⟨_, rfl⟩
        rw [hev]
        clear hF2 hL2 hD2 hn2 hg2 hev
        by_cases h7 : ev = 7
        · have e7 : (ev == 7) = true := by simp [h7]
          clear h7
          have HR9 := Lib.hid HI2.out.box.range
          have HT9 := Lib.hid HI2.out.there
          go_wp2_with (first
            | (refine wpList_load_mid rfl 57 (.tmp 8) rfl (w.heap.size + 1) 0 rfl [.int .i64 K, .int .u32 (f : Int), .slice a2 Rr.length c2, .int .i64 s, .string t, .bool kk] _ HR9.out Tryz.underlying57 rfl size_md ?_)
            | (refine wpList_store_mid rfl 57 (.tmp 6) (.tmp 66) rfl w.heap.size 0 #[.int .i64 K, .int .u32 (f : Int), .slice a2 Rr.length c2, .int .i64 s, .string t, .bool kk] rfl rfl HT9.out size_md (by simp [Value.oneCell']) ?_))
          refine bodyPost_ret (v := .tuple #[.agg #[.int .i64 K, .int .u32 (f : Int), .slice a2 Rr.length c2, .int .i64 s, .string t, .bool kk], .bool true]) (results_cell_two (p := 6) (u := 7) (ty := 57) (b := w.heap.size) (x := .bool true) rfl rfl rfl (run_loadVar_mid (P := Tryz.prog) _ w.heap.size 0 57 _ _ (World.rangeAt_setCells_same _ w.heap.size 0 _ HT9.out) Tryz.underlying57 rfl size_md)) rfl ?_
          exact HI2.out.out ((OffS _ 0).more' fun k e => by subst e; omega) (by omega) _
        have e7 : (ev == 7) = false := by simp [h7]
        clear h7
        have HRG2 := Lib.hid HI2.out.box.range
        have HALL2 := Lib.hid (mdAll_any (K := K) (f := f) (s := s) (t := t) (k := kk) w2 HI2.out.md (by omega))
        unfold mdV at HALL2
        go_wp2_with (refine wpList_load_mid rfl 57 (.tmp 8) rfl (w.heap.size + 1) 0 rfl [.int .i64 K, .int .u32 (f : Int), .slice a2 Rr.length c2, .int .i64 s, .string t, .bool kk] _ HRG2.out Tryz.underlying57 rfl size_md ?_)
        refine HALL2.out.mono ?_
        rintro e w3 ⟨⟨a9, n9, c9, rfl, hn9⟩, hb9⟩
        have HI3 := Lib.hid (HI2.out.below hb9)
        have x3 := HI3.out.box.cell 3 (u := .int .i64 s) rfl
        have f3 := HI3.out.box.fz 3
        clear hn9 hb9
        go_wp2_with fail
        go_roundw
        case rel => exact ⟨j + 1, S2, R2, T2, _, _, f, a2, c2, Rr, (n9 : Int), t, kk, HLT.out, by go_num, (HI3.out.store ((OffS [.int .i64 (n9 : Int)] 3).more' fun k e => by subst e; omega) (HI3.out.box.set3 _) (there_set HI3.out.there) HI3.out.md HI3.out.flt).more (by omega) (by omega)⟩
        case measure => have := HLT.out; simp [intOf]; omega
      have b1 : (kd == 1) = false := by simp [hk1]
      by_cases hk2 : kd = 2
      · have b2 : (kd == 2) = true := by simp [hk2]
        clear hk1 hk0 hk2
        go_wp2_with fail
        rw [← hw1]
        clear hw1
        refine (LK.expire w1 S1 R1 T1 p q m1 g1 HI1.out.fs HI1.out.log HI1.out.did.dis ⟨⟨_, by omega, HI1.out.lim⟩, HI1.out.num⟩).mono ?_
        rintro e w2 ⟨S2, R2, T2, rfl, hF2, hL2, hD2⟩
        obtain ⟨hn2, hg2⟩ := num_expireL HI1.out.num HI1.out.gn
        have HI2 := Lib.hid (HI1.out.act hF2 hL2 hD2 (lim_expireL HI1.out.lim g1) hn2 hg2)
        obtain ⟨ev, hev⟩ : ∃ ev, (expireL m1 g1).1 = ev := ⟨_, rfl⟩
        rw [hev]
        clear hF2 hL2 hD2 hn2 hg2 hev
        by_cases h7 : ev = 7
        · have e7 : (ev == 7) = true := by simp [h7]
          clear h7
          have f5 := HI2.out.box.fz 5
          have x5 := HI2.out.box.cell 5 (u := .bool kk) rfl
          obtain ⟨w3, hw3⟩ : ∃ w3, w3 = w2.setCell ⟨w.heap.size + 1, 5, none⟩ (.bool true) := ⟨_, rfl⟩
          have HI3 := Lib.hid (HI2.out.store ((OffS [.bool true] 5).more' fun k e => by subst e; omega) (HI2.out.box.set5 true) (there_set HI2.out.there) HI2.out.md HI2.out.flt)
          rw [show w2.setCells (w.heap.size + 1) 5 [.bool true] = w2.setCell ⟨w.heap.size + 1, 5, none⟩ (.bool true) from rfl, ← hw3] at HI3
          go_upto_region 26 with fail
          rw [← hw3]
          clear hw3 f5 x5
          have HR9 := Lib.hid HI3.out.box.range
          have HT9 := Lib.hid HI3.out.there
          go_wp2_with (first
            | (refine wpList_load_mid rfl 57 (.tmp 8) rfl (w.heap.size + 1) 0 rfl [.int .i64 K, .int .u32 (f : Int), .slice a2 Rr.length c2, .int .i64 s, .string t, .bool true] _ HR9.out Tryz.underlying57 rfl size_md ?_)
            | (refine wpList_store_mid rfl 57 (.tmp 6) (.tmp 78) rfl w.heap.size 0 #[.int .i64 K, .int .u32 (f : Int), .slice a2 Rr.length c2, .int .i64 s, .string t, .bool true] rfl rfl HT9.out size_md (by simp [Value.oneCell']) ?_))
          refine bodyPost_ret (v := .tuple #[.agg #[.int .i64 K, .int .u32 (f : Int), .slice a2 Rr.length c2, .int .i64 s, .string t, .bool true], .bool true]) (results_cell_two (p := 6) (u := 7) (ty := 57) (b := w.heap.size) (x := .bool true) rfl rfl rfl (run_loadVar_mid (P := Tryz.prog) _ w.heap.size 0 57 _ _ (World.rangeAt_setCells_same _ w.heap.size 0 _ HT9.out) Tryz.underlying57 rfl size_md)) rfl ?_
          exact HI3.out.out ((OffS _ 0).more' fun k e => by subst e; omega) (by omega) _
        have e7 : (ev == 7) = false := by simp [h7]
        clear h7
        by_cases h0 : ev = 0
        · have e0 : (ev == 0) = true := by simp [h0]
          clear h0
          have x2 := HI2.out.box.cell 2 (u := .slice a2 Rr.length c2) rfl
          by_cases hz : Rr.length = 0
          · have ez : ((Rr.length : Int) == 0) = true := by simp [hz]
            clear hz
            have HR9 := Lib.hid HI2.out.box.range
            have HT9 := Lib.hid HI2.out.there
            go_wp2_with (first
              | (refine wpList_load_mid rfl 57 (.tmp 8) rfl (w.heap.size + 1) 0 rfl [.int .i64 K, .int .u32 (f : Int), .slice a2 Rr.length c2, .int .i64 s, .string t, .bool kk] _ HR9.out Tryz.underlying57 rfl size_md ?_)
              | (refine wpList_store_mid rfl 57 (.tmp 6) (.tmp 85) rfl w.heap.size 0 #[.int .i64 K, .int .u32 (f : Int), .slice a2 Rr.length c2, .int .i64 s, .string t, .bool kk] rfl rfl HT9.out size_md (by simp [Value.oneCell']) ?_))
            refine bodyPost_ret (v := .tuple #[.agg #[.int .i64 K, .int .u32 (f : Int), .slice a2 Rr.length c2, .int .i64 s, .string t, .bool kk], .bool false]) (results_cell_two (p := 6) (u := 7) (ty := 57) (b := w.heap.size) (x := .bool false) rfl rfl rfl (run_loadVar_mid (P := Tryz.prog) _ w.heap.size 0 57 _ _ (World.rangeAt_setCells_same _ w.heap.size 0 _ HT9.out) Tryz.underlying57 rfl size_md)) rfl ?_
            exact HI2.out.out ((OffS _ 0).more' fun k e => by subst e; omega) (by omega) _
          have ez : ((Rr.length : Int) == 0) = false := beq_eq_false_iff_ne.2 (by omega)
          have HEX := Lib.hid (mdExpired_any (K := K) (s := s) (t := t) (kk := kk) w2 HI2.out.md HI2.out.flt (by omega) (by omega))
          unfold mdV at HEX
          have HRG3 := Lib.hid HI2.out.box.range
          clear hz
          go_wp2_with (refine wpList_load_mid rfl 57 (.tmp 8) rfl (w.heap.size + 1) 0 rfl [.int .i64 K, .int .u32 (f : Int), .slice a2 Rr.length c2, .int .i64 s, .string t, .bool kk] _ HRG3.out Tryz.underlying57 rfl size_md ?_)
          refine HEX.out.mono ?_
          rintro e w3 ⟨⟨f3, s3, a3, c3, R3, rfl, hf3, hm3⟩, hb3⟩
          have HI3 := Lib.hid (HI2.out.below hb3)
          have HM3 := Lib.hid hm3; have HF3 := Lib.hid hf3
          clear hm3 hb3 hf3
          have y0 := HI3.out.box.cell 0 (u := .int .i64 K) rfl
          have y1 := HI3.out.box.cell 1 (u := .int .u32 (f : Int)) rfl
          have y2 := HI3.out.box.cell 2 (u := .slice a2 Rr.length c2) rfl
          have y3 := HI3.out.box.cell 3 (u := .int .i64 s) rfl
          have y4 := HI3.out.box.cell 4 (u := .string t) rfl
          have y5 := HI3.out.box.cell 5 (u := .bool kk) rfl
          have z0 := HI3.out.box.fz 0
          have z1 := HI3.out.box.fz 1
          have z2 := HI3.out.box.fz 2
          have z3 := HI3.out.box.fz 3
          have z4 := HI3.out.box.fz 4
          have z5 := HI3.out.box.fz 5
          go_wp2_with fail
          go_roundw
          case rel => exact ⟨j + 1, S2, R2, T2, _, _, f3, a3, c3, R3, s3, t, kk, HLT.out, by go_num, (HI3.out.store ((OffS (mdV K f3 (.slice a3 R3.length c3) s3 t kk).toList 0).more' fun k e => by subst e; omega) (HI3.out.box.setAll K f3 (.slice a3 R3.length c3) s3 t kk) (World.there_setCells HI3.out.there _ _ _) HM3.out HF3.out).more (by omega) (by omega)⟩
          case measure => have := HLT.out; simp [intOf]; omega
        have e0 : (ev == 0) = false := by simp [h0]
        clear h0
        go_wp2_with fail
        go_roundw
        case rel => exact ⟨j + 1, S2, R2, T2, _, _, f, a2, c2, Rr, s, t, kk, HLT.out, by go_num, HI2.out.more (by omega) (by omega)⟩
        case measure => have := HLT.out; simp [intOf]; omega
      have b2 : (kd == 2) = false := by simp [hk2]
      clear hk0 hk1 hk2
      go_wp2_with fail
      rw [← hw1]
      clear hw1
      go_roundw
      case rel => exact ⟨j + 1, S1, R1, T1, m1, g1, f, a2, c2, Rr, s, t, kk, HLT.out, by go_num, HI1.out.more (by omega) (by omega)⟩
      case measure => have := HLT.out; simp [intOf]; omega
    · have : j = n := by omega
      subst this
      have HR1 := Lib.hid HW.out.box.range
      have HT1 := Lib.hid HW.out.there
      go_wp2_with (first
        | (refine wpList_load_mid rfl 57 (.tmp 8) rfl (w.heap.size + 1) 0 rfl [.int .i64 K, .int .u32 (f : Int), .slice a2 Rr.length c2, .int .i64 s, .string t, .bool kk] _ HR1.out Tryz.underlying57 rfl size_md ?_)
        | (refine wpList_store_mid rfl 57 (.tmp 6) (.tmp 89) rfl w.heap.size 0 #[.int .i64 K, .int .u32 (f : Int), .slice a2 Rr.length c2, .int .i64 s, .string t, .bool kk] rfl rfl HT1.out size_md (by simp [Value.oneCell']) ?_))
      refine bodyPost_ret (v := .tuple #[.agg #[.int .i64 K, .int .u32 (f : Int), .slice a2 Rr.length c2, .int .i64 s, .string t, .bool kk], .bool true]) (results_cell_two (p := 6) (u := 7) (ty := 57) (b := w.heap.size) (x := .bool true) rfl rfl rfl (run_loadVar_mid (P := Tryz.prog) _ w.heap.size 0 57 _ _ (World.rangeAt_setCells_same _ w.heap.size 0 _ HT1.out) Tryz.underlying57 rfl size_md)) rfl ?_
      exact HW.out.out ((OffS _ 0).more' fun k e => by subst e; omega) (by omega) _
end Go.Proofs.YthbgnkkepfbmjaaGreat

namespace Go.Proofs.YthbgnkkepfbmjaaGreat
open Go.ChangeShapes Go.WideShapes Go.ChangeAt Go.RowKit Go.Deep Go.Joins

/-! How the law's ops, and fates, are opened. -/
theorem cells8_bool : Tryz.prog.cellsOf 4 = 1 := by kernel_rfl
theorem cells8_int : Tryz.prog.cellsOf 3 = 1 := by kernel_rfl
theorem cells8_bytes : Tryz.prog.cellsOf 38 = 1 := by kernel_rfl
theorem cells8_spans : Tryz.prog.cellsOf 98 = 1 := by kernel_rfl
theorem cells8_fates : Tryz.prog.cellsOf 50 = 1 := by kernel_rfl
theorem cells8_fate : Tryz.prog.cellsOf 111 = 3 := by kernel_rfl
theorem cells8_op : Tryz.prog.cellsOf 100 = 4 := by kernel_rfl
deriving instance Inhabited for Ft
deriving instance Inhabited for OpM
def FtArg (w : World) (t : Ft) : Prop := Rd w w.heap.size t.ga (bV t.g) ∧ t.g.length ≤ t.gc ∧ t.gc ≤ maxLen ∧ -9223372036854775808 ≤ t.bytes ∧ t.bytes ≤ 9223372036854775807
def OpArg (w : World) (x : OpM) : Prop := OpAt w x
section
variable {H : Type} {enc : TypeId × Value → H} {w : World} {base : Nat} {spare : Nat → Bool} {held : Bool}
set_option maxRecDepth 100000 in
theorem fate_cells {fuel : Nat} {cs : List Value} {x : DataW H × List MemPlace} (h : DataW.trod enc Tryz.prog w base spare held fuel 111 cs = some x) : ∃ s : Ft, FtArg w s ∧ cs = s.l := by
  obtain ⟨xs, n, _, hx, hcl, hlen, hg⟩ := DataW.trod_struct Tryz.underlying111 h
  rw [cells8_fate] at hcl
  match cs, hcl with
  | [c0, c1, c2], _ =>
    have hl : xs.length = 3 := hlen
    have g0 : DataW.trod enc Tryz.prog w base spare held n 4 [c0] = xs[0]? := by simpa [cells8_bool] using hg 0 _ rfl
    have g1 : DataW.trod enc Tryz.prog w base spare held n 3 [c1] = xs[1]? := by simpa [cells8_int] using hg 1 _ rfl
    have g2 : DataW.trod enc Tryz.prog w base spare held n 38 [c2] = xs[2]? := by simpa [cells8_bytes] using hg 2 _ rfl
    obtain ⟨x0, rfl⟩ := one_bool (by omega) Tryz.underlying4 g0
    obtain ⟨x1, rfl, h1⟩ := one_num (by omega) Tryz.underlying3 g1
    rw [List.getElem?_eq_getElem (by omega)] at g2
    obtain ⟨l, a, k, e, k1, k2, k3⟩ := bytes_cells Tryz.underlying38 Tryz.underlying5 (by kernel_rfl) g2
    injection e with e _
    subst e
    have hb := i64_of h1
    exact ⟨⟨x0, x1, a, k, l⟩, ⟨k3, k1, k2, hb.1, by show x1 ≤ _; have := hb.2; omega⟩, rfl⟩
set_option maxRecDepth 100000 in
theorem op_cells {fuel : Nat} {cs : List Value} {x : DataW H × List MemPlace} (h : DataW.trod enc Tryz.prog w base spare held fuel 100 cs = some x) : ∃ s : OpM, OpArg w s ∧ cs = s.l := by
  obtain ⟨xs, n, _, hx, hcl, hlen, hg⟩ := DataW.trod_struct Tryz.underlying100 h
  rw [cells8_op] at hcl
  match cs, hcl with
  | [c0, c1, c2, c3], _ =>
    have hl : xs.length = 4 := hlen
    have g0 : DataW.trod enc Tryz.prog w base spare held n 3 [c0] = xs[0]? := by simpa [cells8_int] using hg 0 _ rfl
    have g1 : DataW.trod enc Tryz.prog w base spare held n 98 [c1] = xs[1]? := by simpa [cells8_spans] using hg 1 _ rfl
    have g2 : DataW.trod enc Tryz.prog w base spare held n 3 [c2] = xs[2]? := by simpa [cells8_int] using hg 2 _ rfl
    have g3 : DataW.trod enc Tryz.prog w base spare held n 50 [c3] = xs[3]? := by simpa [cells8_fates] using hg 3 _ rfl
    obtain ⟨x0, rfl, _⟩ := one_num (by omega) Tryz.underlying3 g0
    obtain ⟨x2, rfl, _⟩ := one_num (by omega) Tryz.underlying3 g2
    rw [List.getElem?_eq_getElem (by omega)] at g1 g3
    obtain ⟨L, sa, sk, hL, rfl, s1, s2, s3⟩ := rows_cell (fun s : Sp => s.c.toList) c_len (by omega) (fun s : Sp => s.Ok) Tryz.underlying98 cells_sp (fun _ _ _ h => sp_cells h) g1
    obtain ⟨T, fa, fk, _, rfl, f1, f2, _⟩ := rows_cell Ft.l (fun _ => rfl) (by omega) (FtArg w) Tryz.underlying50 cells8_fate (fun _ _ _ h => fate_cells h) g3
    exact ⟨⟨x0, sa, sk, L, x2, fa, fk, T⟩, ⟨s3, s1, s2, hL, f1, f2⟩, rfl⟩
set_option maxRecDepth 100000 in
/-- Ops that came in. -/
theorem open_ops {b0 : Nat} {r : Reach} {v : Value} {d : DataW H} {p : List MemPlace} (hv : Value.okWide Tryz.prog w r b0 49 v) (h : DataW.Trod enc Tryz.prog w base spare held 49 v d p) :
    ∃ (L : List OpM) (a : Option Addr) (c : Nat), (∀ s ∈ L, OpArg w s) ∧ v = .slice a L.length c ∧ L.length ≤ c ∧ c ≤ maxLen ∧ Rd w w.heap.size a (flatG OpM.l L) := by
  obtain ⟨a, len, cap, rfl⟩ := okWide_slice Tryz.underlying49 hv
  obtain ⟨fuel, hf⟩ := h
  exact rows_cell OpM.l (fun _ => rfl) (by omega) (OpArg w) Tryz.underlying49 cells8_op (fun _ _ _ h => op_cells h) hf
set_option maxRecDepth 100000 in
/-- Fates that came in. -/
theorem open_fates {b0 : Nat} {r : Reach} {v : Value} {d : DataW H} {p : List MemPlace} (hv : Value.okWide Tryz.prog w r b0 50 v) (h : DataW.Trod enc Tryz.prog w base spare held 50 v d p) :
    ∃ (L : List Ft) (a : Option Addr) (c : Nat), (∀ s ∈ L, FtArg w s) ∧ v = .slice a L.length c ∧ L.length ≤ c ∧ c ≤ maxLen ∧ Rd w w.heap.size a (flatG Ft.l L) := by
  obtain ⟨a, len, cap, rfl⟩ := okWide_slice Tryz.underlying50 hv
  obtain ⟨fuel, hf⟩ := h
  exact rows_cell Ft.l (fun _ => rfl) (by omega) (FtArg w) Tryz.underlying50 cells8_fate (fun _ _ _ h => fate_cells h) hf
end
end Go.Proofs.YthbgnkkepfbmjaaGreat

namespace Go.Proofs.YthbgnkkepfbmjaaGreat
open Go Go.RowKit Go.Sort

/-! The law SeglogAgain. -/
theorem flat_by (xs : List By) : flatG By.l xs = xs.map By.v := by
  induction xs with
  | nil => rfl
  | cons x R ih => rw [flatG_cons, ih]; rfl
set_option maxHeartbeats 1000000 in
theorem sameBy_any (a1 a2 : Option Addr) (n1 n2 c1 c2 : Nat) (xs : List By) (L : List (List UInt8)) (w : World) (h1 : n1 = xs.length) (h2 : n2 = xs.length) (hr1 : Rd w w.heap.size a1 (flatG By.l xs)) (hr2 : Rd w w.heap.size a2 (sV L)) (hL : L = xs.map By.b) (hb : ∀ x ∈ xs, ByArg w x) (hl : xs.length ≤ 1000000000000) :
    Calls Tryz.prog 23 #[.slice a1 n1 c1, .slice a2 n2 c2] w fun e w' => e = .returned (.bool true) ∧ Below w.heap.size w w' := by
  subst hL
  rw [flat_by] at hr1
  have H1 := Lib.hid h1; have H2 := Lib.hid h2; have R1 := Lib.hid hr1; have R2 := Lib.hid hr2; have HB := Lib.hid hb
  have hn : n1 = n2 := by omega
  have hn1 : n1 ≤ 1000000000000 := by omega
  clear hl
  clear h1 h2 hr1 hr2 hb
  subst hn
  go_enter Tryz.func23, Tryz.ntmps23
  go_wp2_with fail
  go_loopw [13] (fun i wr => ∃ k : Nat, k ≤ n1 ∧ i = .int .i64 k ∧ Below w.heap.size w wr) (fun i _ => n1 - (intOf i).toNat)
  case atStart => exact ⟨0, Nat.zero_le _, rfl, Below.refl _ _⟩
  case round =>
    obtain ⟨k, hk, rfl, hb⟩ := hrel
    by_cases hlt : k < n1
    · have hkx : k < xs.length := by rw [← H1.out]; exact hlt
      obtain ⟨b1, o1, rfl, hb1, hc1⟩ := R1.out (by rw [List.length_map]; omega)
      obtain ⟨b2, o2, rfl, hb2, hc2⟩ := R2.out (by rw [sV_length, List.length_map]; omega)
      obtain ⟨x, hx⟩ : ∃ x, xs[k] = x := ⟨_, rfl⟩
      have hxm : x ∈ xs := by rw [← hx]; exact List.getElem_mem _
      have hbx := HB.out x hxm
      have q1 : wr.cell? ⟨b1, o1 + k, none⟩ = some (.slice x.a x.b.length x.c) := by
        rw [hb.cell (p := ⟨b1, o1 + k, none⟩) hb1]; exact hc1 k _ (by rw [List.getElem?_map, List.getElem?_eq_getElem hkx, hx]; rfl)
      have q2 : wr.cell? ⟨b2, o2 + k, none⟩ = some (.string (bs x.b)) := by
        rw [hb.cell (p := ⟨b2, o2 + k, none⟩) hb2]; exact hc2 k _ (by rw [sV, List.getElem?_map, List.getElem?_map, List.getElem?_eq_getElem hkx, hx]; rfl)
      have hrd := hbx.1.below hb
      have cv := run_string_rd (P := Tryz.prog) wr 38 9 5 Tryz.underlying38 Tryz.underlying5 Tryz.underlying9 (l := x.b) x.b.length x.c (hrd.more hb.size) rfl
      have cv2 := run_string_rd (P := Tryz.prog) wr.drew 38 9 5 Tryz.underlying38 Tryz.underlying5 Tryz.underlying9 (l := x.b) x.b.length x.c ((hrd.more hb.size).below (Below_drew (Below.refl wr.heap.size wr))) rfl
      have HBW := Lib.hid hb
      have HLT := Lib.hid hlt
      have HBD := Lib.hid (Below_drew hb)
      clear hc1 hc2 hbx hrd hx hxm hb
      go_wp2_with fail
      go_region
      clear cv cv2 q1 q2
      go_wp2_with fail
      go_roundw
      case rel => exact ⟨k + 1, HLT.out, by go_num, HBD.out⟩
      case measure => have := HLT.out; simp [intOf]; omega
    · have : k = n1 := by omega
      subst this
      go_wp2_with fail
      go_ret
      exact ⟨rfl, hb⟩
theorem segB_is {b : List UInt8} {k : Nat} {x : List UInt8} (h : x ∈ segB b k) : isB x = true := by
  unfold segB bodiesF at h
  exact List.all_eq_true.1 List.all_takeWhile x h
theorem open_small {m : FSm} {keep room : Int} (k : 1 ≤ keep ∧ keep ≤ 16) (r : 1 ≤ room ∧ room ≤ 32) : (⟨keep.toNat, room.toNat, (openF m keep room).2.2, false⟩ : LgM).Small := by
  have hseg : ∀ s ∈ (openF m keep room).2.2, ∃ n, s = sgOf m keep.toNat n := fun s hs => by
    have hm : ∀ n, s ∈ (mendF m keep.toNat n).2.2 → ∃ n, s = sgOf m keep.toNat n := fun n hs => by
      unfold mendF at hs
      repeat' split at hs
      all_goals first
        | (simp at hs; done)
        | (simp at hs; exact ⟨n, hs⟩)
    unfold openF at hs
    split at hs
    · cases hs
    split at hs
    · cases hs
    split at hs
    · cases hs
    split at hs
    · cases hs
    split at hs
    · cases hs
    split at hs
    · cases hs
    rcases List.mem_append.1 hs with hs | hs
    · obtain ⟨n, _, rfl⟩ := List.mem_map.1 hs; exact ⟨n, rfl⟩
    · exact hm _ hs
  have hlen : (openF m keep room).2.2.length ≤ 32 := by
    have hm : ∀ n, (mendF m keep.toNat n).2.2.length ≤ 1 := fun n => by
      unfold mendF
      repeat' split
      all_goals simp
    unfold openF
    split
    · exact Nat.zero_le _
    split
    · exact Nat.zero_le _
    split
    · exact Nat.zero_le _
    rename_i h3
    split
    · exact Nat.zero_le _
    split
    · exact Nat.zero_le _
    split
    · exact Nat.zero_le _
    rename_i n hn
    obtain ⟨A, hA⟩ := List.getLast?_eq_some_iff.1 hn
    show (List.map _ _ ++ _).length ≤ 32
    rw [List.length_append, List.length_map]
    have := hm n
    rw [hA, List.length_append] at h3
    rw [hA, List.dropLast_concat]
    simp at h3
    omega
  refine ⟨fun b hb => ?_, ?_⟩
  · obtain ⟨s, hs, hb⟩ := List.mem_flatMap.1 hb
    obtain ⟨n, rfl⟩ := hseg s hs
    have := isB_small (segB_is hb)
    omega
  · have hf : ∀ (A : List SgM), (∀ s ∈ A, s.L.length ≤ 16) → (A.flatMap SgM.L).length ≤ A.length * 16 := fun A => by
      induction A with
      | nil => intro _; simp
      | cons s A ih =>
        intro h
        rw [List.flatMap_cons, List.length_append, List.length_cons]
        have := ih fun x hx => h x (List.mem_cons_of_mem _ hx)
        have := h s (List.mem_cons_self ..)
        omega
    have := hf _ fun s hs => by
      obtain ⟨n, rfl⟩ := hseg s hs
      have := seg_few (byF m n) keep.toNat
      show (segB _ _).length ≤ 16
      omega
    refine Nat.le_trans this ?_
    omega
/-- A file system of the law's own. -/
structure FL (F : FsKit) (w0 : World) (B : Nat) (w : World) (p k : Nat) (m : FSm) (S R : Nat → Prop) : Prop where
  fs : F.Fs w S R p m
  lim : Lim k m
  num : NumOk m
  bel : Below B w0 w
  hB : B ≤ w.heap.size
  hs : ∀ j, S j → B ≤ j
theorem FL.did {F : FsKit} {w0 w w' : World} {B p k k' : Nat} {m m' : FSm} {S R S' R' : Nat → Prop} (h : FL F w0 B w p k m S R) (hF : F.Fs w' S' R' p m') (hd : Did S R S' R' w w') (hl : Lim k' m') (hn : NumOk m') : FL F w0 B w' p k' m' S' R' := by
  have hB := h.hB
  refine ⟨hF, hl, hn, h.bel.trans ⟨hd.off.os, hd.off.tape, hd.off.output, hd.off.size, fun j hj => hd.off.block j (by omega) fun e => by have := h.hs j e; omega⟩, Nat.le_trans hB hd.off.size, fun j hj => ?_⟩
  rcases hd.s j hj with e | e
  · exact h.hs j e
  · omega
theorem FL.fit {F : FsKit} {w0 w : World} {B p k : Nat} {m : FSm} {S R : Nat → Prop} (h : FL F w0 B w p k m S R) (hk : k ≤ 9000) : Fit m := ⟨⟨k, hk, h.lim⟩, h.num⟩
theorem LL.fl {F : FsKit} {LK : LogKit F} {w0 w : World} {B p q k : Nat} {m : FSm} {g : LgM} {S R T : Nat → Prop} (h : LL F LK w0 B w p q k m g S R T) : FL F w0 B w p k m S R := ⟨h.fs, h.lim, h.num, h.bel, h.hB, h.hs⟩
theorem lim_fuse {k : Nat} {m : FSm} (h : Lim k m) (f : Int) : Lim k { m with fuse := f } := h
theorem num_fuse {m : FSm} (h : NumOk m) (f : Int) : NumOk { m with fuse := f } := h
end Go.Proofs.YthbgnkkepfbmjaaGreat

namespace Go.Proofs.YthbgnkkepfbmjaaGreat
open Go Go.RowKit Go.Sort

/-! The law SeglogAgain, walked. -/
theorem Dis.did {T S R S' R' : Nat → Prop} {w w' : World} (hd : Dis T S R) (hlow : ∀ j, T j → j < w.heap.size) (h : Did S R S' R' w w') : Dis T S' R' := (DidL.of_did' hlow hd h).dis
theorem again_cases {m : FSm} {keep room : Int} (h : Calm m) (hg : 1 ≤ keep ∧ keep ≤ 16 ∧ 1 ≤ room ∧ room ≤ 32) : (openF m keep room).1 = 3 ∨ ((openF m keep room).1 = 0 ∧ (openF m keep room).2.1.down = false ∧ openF { (openF m keep room).2.1 with fuse := 0 } keep room = (0, { (openF m keep room).2.1 with fuse := 0 }, (openF m keep room).2.2)) := by
  rcases open_again h hg with e | ⟨e1, e2, e3⟩ | ⟨s, e⟩
  · left; rw [e]
  · exact .inr ⟨e1, e2.down, e3⟩
  · left; rw [e]
theorem LL.drawnFL {F : FsKit} {LK : LogKit F} {w0 w w' : World} {B p q k k' : Nat} {m m' : FSm} {g : LgM} {S R T S' R' T' : Nat → Prop} (h : LL F LK w0 B w p q k m g S R T) (hF : F.Fs w' S' R' p m') (hd : DidL S R T S' R' T' w w') (hl : Lim k' m') (hn : NumOk m') : FL F w0 B w' p k' m' S' R' := by
  have hB := h.hB
  refine ⟨hF, hl, hn, h.bel.trans ⟨hd.off.os, hd.off.tape, hd.off.output, hd.off.size, fun j hj => hd.off.block j (by omega) fun e => ?_⟩, Nat.le_trans hB hd.off.size, fun j hj => ?_⟩
  · rcases e with e | e
    · have := h.hs j e; omega
    · have := h.ht j e; omega
  · rcases hd.s j hj with e | e
    · exact h.hs j e
    · omega
/-- A log that stands by. -/
theorem at_did {F : FsKit} {LK : LogKit F} {w w' : World} {p q : Nat} {g : LgM} {T S R S' R' : Nat → Prop} (h : LK.At w T p q g) (hd : Dis T S R) (h2 : Did S R S' R' w w') : LK.At w' T p q g ∧ Dis T S' R' :=
  ⟨LK.move h h2.off.size fun j hj => h2.off.block j (LK.low h j hj) (hd j hj).1, hd.did (LK.low h) h2⟩
theorem at_below {F : FsKit} {LK : LogKit F} {w w' : World} {p q : Nat} {g : LgM} {T : Nat → Prop} (h : LK.At w T p q g) (hb : Below w.heap.size w w') : LK.At w' T p q g := LK.move h hb.size fun j hj => hb.block j (LK.low h j hj)
theorem open_fl {F : FsKit} {LK : LogKit F} {w0 w : World} {B p k : Nat} {m : FSm} {S R : Nat → Prop} (h : FL F w0 B w p k m S R) (hk : k ≤ 8998) {K M : Nat} (hK : 1 ≤ K ∧ K ≤ 16) (hM : 1 ≤ M ∧ M ≤ 32) (r : Int × FSm × List SgM) (hr : openF m (K : Int) (M : Int) = r) :
    Calls Tryz.prog 16 #[.pointer (some ⟨p, 0, none⟩), .int .i64 (K : Int), .int .i64 (M : Int)] w fun e w' => ∃ S' R' v, e = .returned (.tuple #[.pointer v, .int .i64 r.1]) ∧ FL F w0 B w' p (k + 2) r.2.1 S' R' ∧ Did S R S' R' w w' ∧
      (r.1 = 0 → ∃ q T, v = some ⟨q, 0, none⟩ ∧ LK.At w' T p q ⟨K, M, r.2.2, false⟩ ∧ Dis T S' R') := by
  refine (LK.open_ w S R p m (K : Int) (M : Int) h.fs (h.fit (by omega)) (by omega) (by omega) (by omega) (by omega)).mono ?_
  rintro e w' ⟨S', R', v, he, hF, hd, ho⟩
  have hn := num_openF h.num (K : Int) (M : Int)
  have hl := lim_openF h.lim (K : Int) (M : Int)
  rw [hr] at he hF ho hn hl
  refine ⟨S', R', v, he, h.did hF hd hl hn.1, hd, fun h0 => ?_⟩
  obtain ⟨q, T, h1, h2, _, h4⟩ := ho h0
  exact ⟨q, T, h1, h2, h4⟩
set_option maxRecDepth 20000 in
set_option maxHeartbeats 8000000 in
theorem law_again8 (F : FsKit) (LK : LogKit F) (x y z : Nat) (a : Option Addr) (c : Nat) (L : List OpM) (fa : Option Addr) (fc : Nat) (FT : List Ft) (w : World) (hz : z < 256)
    (hr : Rd w w.heap.size a (flatG OpM.l L)) (hat : ∀ s ∈ L, OpArg w s) (hl : L.length ≤ maxLen) (hfr : Rd w w.heap.size fa (flatG Ft.l FT)) (hft : ∀ t ∈ FT, FtArg w t) (hfl : FT.length ≤ fc) (hfc : fc ≤ maxLen) :
    Calls Tryz.prog 4 #[.agg #[.int .u8 (x : Int), .int .u8 (y : Int), .int .u8 (z : Int)], .slice a L.length c, .slice fa FT.length fc] w fun e w' => e = .returned (.bool true) ∧ Below w.heap.size w w' := by
  have eK : (1 : Int) + (x : Int) % 16 = ((1 + x % 16 : Nat) : Int) := by omega
  have eM : (1 : Int) + (y : Int) % 32 = ((1 + y % 32 : Nat) : Int) := by omega
  have HEK := Lib.hid eK; have HEM := Lib.hid eM
  obtain ⟨K, hK⟩ : ∃ K, K = 1 + x % 16 := ⟨_, rfl⟩
  obtain ⟨M, hM⟩ : ∃ M, M = 1 + y % 32 := ⟨_, rfl⟩
  rw [← hK] at HEK
  rw [← hM] at HEM
  have hK1 : 1 ≤ K ∧ K ≤ 16 := by omega
  have hM1 : 1 ≤ M ∧ M ≤ 32 := by omega
  clear eK eM hK hM
  have HR := Lib.hid hr; have HAT := Lib.hid hat; have HFR := Lib.hid hfr; have HFT := Lib.hid hft; have HFL := Lib.hid hfl; have HFC := Lib.hid hfc; have HLL := Lib.hid hl
  obtain ⟨n, hn⟩ : ∃ n, n = L.length := ⟨_, rfl⟩
  obtain ⟨nf, hnf⟩ : ∃ nf, nf = FT.length := ⟨_, rfl⟩
  have HN := Lib.hid hn; have HNF := Lib.hid hnf
  rw [← hn, ← hnf]
  clear hr hat hfr hft hfl hfc hl hn hnf
  obtain ⟨w0, hw0⟩ : ∃ w0, w0 = w.alloc (.cells #[.int .u8 (x : Int), .int .u8 (y : Int), .int .u8 (z : Int)] 48) := ⟨_, rfl⟩
  have HB0 : Hid (Below w.heap.size w w0) := by show Below _ _ _; rw [hw0]; exact box1 w _
  have HRG : Hid (w0.rangeAt w.heap.size 0 [.int .u8 (x : Int), .int .u8 (y : Int), .int .u8 (z : Int)]) := by show World.rangeAt _ _ _ _; rw [hw0]; exact rangeAt_last w _ _ _ rfl
  have HW0 : Hid (w.heap.size < w0.heap.size) := by show _ < _; rw [hw0]; simp
  have HGR := Lib.hid (greatO_any a n c L w0 HN.out ((HR.out.below HB0.out).more HB0.out.size) (fun s hs => (HAT.out s hs).below HB0.out) (by rw [HN.out]; exact HLL.out))
  obtain ⟨gr, hgr⟩ : ∃ gr, greatO L = gr := ⟨_, rfl⟩
  rw [hgr] at HGR
  have HG := Lib.hid hgr
  clear hgr
  have hfin : ∀ w1, Below w0.heap.size w0 w1 → Below w.heap.size w w1 := fun w1 h => bel2 HB0.out h
  have HFIN := Lib.hid hfin
  clear hfin
  by_cases hbig : gr = true ∨ 40 < nf
  · go_enter Tryz.func4, Tryz.ntmps4
    go_wp2_with fail
    rw [← hw0]
    clear hw0
    refine HGR.out.mono ?_
    rintro e w1 ⟨rfl, hb1⟩
    have HB1 := Lib.hid hb1
    clear hb1
    cases gr
    · have h40 : 40 < nf := by simpa using hbig
      clear hbig
      go_wp2_with fail
      refine (fixed8_any F LK w1).mono ?_
      rintro e w2 ⟨rfl, hb2⟩
      have HB2 := Lib.hid (bel2 HB1.out hb2)
      clear hb2
      go_wp2_with fail
      go_ret
      exact ⟨rfl, HFIN.out _ HB2.out⟩
    · clear hbig
      go_wp2_with fail
      refine (fixed8_any F LK w1).mono ?_
      rintro e w2 ⟨rfl, hb2⟩
      have HB2 := Lib.hid (bel2 HB1.out hb2)
      clear hb2
      go_wp2_with fail
      go_ret
      exact ⟨rfl, HFIN.out _ HB2.out⟩
  have h40 : ¬ 40 < nf := fun h => hbig (.inr h)
  obtain rfl : gr = false := by
    cases gr
    · rfl
    · exact absurd (.inl rfl) hbig
  obtain ⟨hg1, hg2⟩ := greatO_no HG.out
  have hn60 : n ≤ 60 := by rw [HN.out]; exact hg1
  have HG2 := Lib.hid hg2
  clear hbig hg1 hg2
  go_enter Tryz.func4, Tryz.ntmps4
  go_wp2_with fail
  rw [← hw0]
  clear hw0
  refine HGR.out.mono ?_
  rintro e w1 ⟨rfl, hb1⟩
  have HB1 := Lib.hid (bel2 HB0.out hb1)
  have hrg1 := range_below HRG.out hb1 HW0.out
  have HRG1 := Lib.hid hrg1
  have y0 : w1.cell? ⟨w.heap.size, 0, none⟩ = some (.int .u8 (x : Int)) := hrg1 0 _ rfl
  have y1 : w1.cell? ⟨w.heap.size, 1, none⟩ = some (.int .u8 (y : Int)) := hrg1 1 _ rfl
  have HW1 : Hid (w.heap.size < w1.heap.size) := Nat.lt_of_lt_of_le HW0.out hb1.size
  clear hb1 hrg1
  go_wp2_with fail
  go_quiet (fail)
  rw [HEK.out, HEM.out]
  obtain ⟨w2, hw2⟩ : ∃ w2, w2 = w1.drewN nq := ⟨_, rfl⟩
  have HB12 : Hid (Below w1.heap.size w1 w2) := by show Below _ _ _; rw [hw2]; exact Below_drewN (Below.refl _ _) _
  rw [← hw2]
  clear hw2 y0 y1
  have HB2 := Lib.hid (bel2 HB1.out HB12.out)
  have HW2 : Hid (w.heap.size < w2.heap.size) := Nat.lt_of_lt_of_le HW1.out HB12.out.size
  have HY2 : Hid (w2.cell? ⟨w.heap.size, 2, none⟩ = some (.int .u8 (z : Int))) := (HB12.out.cell (p := ⟨w.heap.size, 2, none⟩) HW1.out).trans (HRG1.out 2 _ rfl)
  go_wp2_with fail
  refine (F.new w2).mono ?_
  rintro e w3 ⟨p, S, R, rfl, hF, hS, _, hb3⟩
  have HF := Lib.hid hF; have HS := Lib.hid hS; have HB3 := Lib.hid hb3
  clear hF hS hb3
  go_wp2_with fail
  refine (open_live F LK w2 w3 p S R (K : Int) (M : Int) (by omega) (by omega) HF.out HS.out HB3.out).mono ?_
  rintro e w4 ⟨q, S4, R4, T4, rfl, h4⟩
  rw [Int.toNat_natCast, Int.toNat_natCast] at h4
  have H4 := Lib.hid h4
  have y2 : w4.cell? ⟨w.heap.size, 2, none⟩ = some (.int .u8 (z : Int)) := (h4.bel.cell (p := ⟨w.heap.size, 2, none⟩) HW2.out).trans HY2.out
  clear h4 HF HS HB3
  go_wp2_with fail
  refine (F.fuse w4 S4 R4 p newF (z : Int) H4.out.fs (by omega) (by omega)).mono ?_
  rintro e w5 ⟨S5, R5, rfl, hF5, hd5⟩
  have H5 := Lib.hid (H4.out.act hF5 (LK.move H4.out.log hd5.off.size fun j hj => hd5.off.block j (LK.low H4.out.log j hj) (H4.out.dis j hj).1) (DidL.of_did' (LK.low H4.out.log) H4.out.dis hd5) (lim_fuse H4.out.lim _) (num_fuse H4.out.num _) H4.out.gn)
  clear hF5 hd5 y2
  have hB5 : Below w.heap.size w w5 := bel2 HB2.out H5.out.bel
  have HB5 := Lib.hid hB5
  have hlow5 : ∀ k, (S5 k ∨ T4 k) → w.heap.size ≤ k := fun k hk => Nat.le_trans (Nat.le_of_lt HW2.out) (hk.elim (H5.out.hs k) (H5.out.ht k))
  have HRN5 : Hid (RdN (fun k => S5 k ∨ T4 k) w5 a (flatG OpM.l L)) := RdN.of (HR.out.below hB5) hB5.size hlow5
  have HOP5 : Hid (∀ s ∈ L, OpN (fun k => S5 k ∨ T4 k) w5 s ∧ s.sp.length ≤ 60) := fun s hs => by
    have h := HAT.out s hs
    have hg := great8_le (HG2.out s hs)
    exact ⟨⟨RdN.of (h.1.below hB5) hB5.size hlow5, h.2.1, h.2.2.1, h.2.2.2.1⟩, by omega⟩
  clear hB5 hlow5
  go_wp2_with fail
  refine (drawn_any F LK w5 S5 R5 T4 p q _ _ (K : Int) 2 a c n L HN.out hn60 (by omega) H5.out.fs H5.out.log H5.out.dis H5.out.lim H5.out.num H5.out.gn HRN5.out HOP5.out).mono ?_
  rintro e w6 ⟨v6, S6, R6, T6, m6, rfl, hF6, hl6, hn6, hd6⟩
  have H6 : Hid (FL F w2 w2.heap.size w6 p 242 m6 S6 R6) := H5.out.drawnFL hF6 hd6 hl6 hn6
  clear hF6 hl6 hn6 hd6 H5 H4 HRN5 HOP5
  have hB6 : Below w.heap.size w w6 := bel2 HB2.out H6.out.bel
  have hlow6 : ∀ k, S6 k → w.heap.size ≤ k := fun k hk => Nat.le_trans (Nat.le_of_lt HW2.out) (H6.out.hs k hk)
  have HCR : Hid (∀ n2, n2 = FT.length → Calls Tryz.prog 19 #[.pointer (some ⟨p, 0, none⟩), .slice fa n2 fc] w6 fun e w' => ∃ S' R', e = .returned (.tuple #[]) ∧ F.Fs w' S' R' p (crashF m6 FT) ∧ Did S6 R6 S' R' w6 w') := fun n2 h2 => by
    subst h2
    refine F.crash w6 S6 R6 p m6 fa fc FT H6.out.fs (H6.out.fit (by omega)).bnd (RdN.of (HFR.out.below hB6) hB6.size hlow6) (by have := HNF.out; omega) HFL.out HFC.out fun t ht => ?_
    have h := HFT.out t ht
    exact ⟨RdN.of (h.1.below hB6) hB6.size hlow6, h.2.1, h.2.2.1, h.2.2.2.1, h.2.2.2.2⟩
  clear hB6 hlow6
  go_wp2_with fail
  refine (HCR.out nf HNF.out).mono ?_
  rintro e w7 ⟨S7, R7, rfl, hF7, hd7⟩
  have hok6 := F.ok H6.out.fs
  have HCALM := Lib.hid (calm_crash hok6 FT)
  have H7 : Hid (FL F w2 w2.heap.size w7 p 242 (crashF m6 FT) S7 R7) := H6.out.did hF7 hd7 (lim_crash H6.out.lim hok6 FT) (num_crash hok6 H6.out.num FT)
  obtain ⟨m7, hm7⟩ : ∃ m7, m7 = crashF m6 FT := ⟨_, rfl⟩
  rw [← hm7] at HCALM H7
  clear hF7 hd7 hok6 hm7 HCR H6
  obtain ⟨r8, hr8⟩ : ∃ r8, openF m7 (K : Int) (M : Int) = r8 := ⟨_, rfl⟩
  have HC := Lib.hid (again_cases (keep := (K : Int)) (room := (M : Int)) HCALM.out (by omega))
  have HSMALL := Lib.hid (open_small (m := m7) (keep := (K : Int)) (room := (M : Int)) (by omega) (by omega))
  rw [Int.toNat_natCast, Int.toNat_natCast] at HSMALL
  rw [hr8] at HC HSMALL
  have HR8 := Lib.hid hr8
  clear hr8
  go_wp2_with fail
  refine (open_fl (LK := LK) H7.out (by omega) hK1 hM1 r8 HR8.out).mono ?_
  rintro e w8 ⟨S8, R8, v8, rfl, h8, _, ho8⟩
  have H8 := Lib.hid h8; have HO8 := Lib.hid ho8
  clear h8 ho8 H7
  by_cases h3 : r8.1 = 3
  · obtain ⟨e8, m8, L8⟩ := r8
    obtain rfl : e8 = 3 := h3
    go_wp2_with fail
    refine (fixed8_any F LK w8).mono ?_
    rintro e w9 ⟨rfl, hb9⟩
    have HB9 := Lib.hid hb9
    clear hb9
    go_wp2_with fail
    go_ret
    exact ⟨rfl, bel2 (bel2 HB2.out H8.out.bel) HB9.out⟩
  obtain ⟨h80, hdown, hagain⟩ := HC.out.resolve_left h3
  obtain ⟨q8, T8, hv8, hat8, hdis8⟩ := HO8.out h80
  have HAGAIN := Lib.hid hagain; have HDOWN := Lib.hid hdown
  subst hv8
  obtain ⟨e8, m8, L8⟩ := r8
  obtain rfl : e8 = 0 := h80
  have HAT8 : Hid (LK.At w8 T8 p q8 ⟨K, M, L8, false⟩) := hat8
  have HDIS8 := Lib.hid hdis8
  clear h3 hdown hagain hat8 hdis8 HC HO8
  go_wp2_with fail
  refine (F.fuse w8 S8 R8 p m8 0 H8.out.fs (by omega) (by omega)).mono ?_
  rintro e w9 ⟨S9, R9, rfl, hF9, hd9⟩
  have H9 : Hid (FL F w2 w2.heap.size w9 p 244 { m8 with fuse := 0 } S9 R9) := H8.out.did hF9 hd9 H8.out.lim H8.out.num
  have HX9 := Lib.hid (at_did HAT8.out HDIS8.out hd9)
  clear hF9 hd9 HAT8 HDIS8 H8
  go_wp2_with fail
  refine (open_fl (LK := LK) H9.out (by omega) hK1 hM1 _ HAGAIN.out).mono ?_
  rintro e w10 ⟨S10, R10, v10, rfl, h10, hd10, ho10⟩
  obtain ⟨q10, T10, hv10, hat10, hdis10⟩ := ho10 rfl
  subst hv10
  have H10 := Lib.hid h10
  have HX10 := Lib.hid (at_did HX9.out.1 HX9.out.2 hd10)
  have HY10 : Hid (LK.At w10 T10 p q10 ⟨K, M, L8, false⟩ ∧ Dis T10 S10 R10) := ⟨hat10, hdis10⟩
  clear h10 hd10 ho10 hat10 hdis10 HX9 H9
  go_wp2_with fail
  refine (F.down w10 S10 R10 p _ H10.out.fs).mono ?_
  rintro e w11 ⟨S11, R11, rfl, hF11, hd11⟩
  have H11 := Lib.hid (H10.out.did hF11 hd11 H10.out.lim H10.out.num)
  have HX11 := Lib.hid (at_did HX10.out.1 HX10.out.2 hd11)
  have HY11 := Lib.hid (at_did HY10.out.1 HY10.out.2 hd11)
  rw [show ({ m8 with fuse := 0 } : FSm).down = false from HDOWN.out]
  clear hF11 hd11 HX10 HY10 H10
  go_wp2_with fail
  refine (LK.segs w11 T10 p q10 _ HY11.out.1).mono ?_
  rintro e w12 ⟨rfl, hb12⟩
  have HX12 := Lib.hid (at_below HX11.out.1 hb12); have HY12 := Lib.hid (at_below HY11.out.1 hb12)
  have HB12' := Lib.hid (bel2 (bel2 HB2.out H11.out.bel) hb12)
  clear hb12 HX11 HY11
  go_wp2_with fail
  refine (LK.segs w12 T8 p q8 _ HX12.out).mono ?_
  rintro e w13 ⟨rfl, hb13⟩
  have HX13 := Lib.hid (at_below HX12.out hb13); have HY13 := Lib.hid (at_below HY12.out hb13)
  have HB13 := Lib.hid (bel2 HB12'.out hb13)
  clear hb13 HX12 HY12
  go_wp2_with fail
  refine (LK.bodies w13 T8 p q8 _ HX13.out HSMALL.out).mono ?_
  rintro e w14 ⟨a14, c14, xs, rfl, hx1, hx2, hx3, hx4, hx5, hb14⟩
  have HY14 := Lib.hid (at_below HY13.out hb14)
  have HB14 := Lib.hid (bel2 HB13.out hb14)
  have HX3 := Lib.hid hx3; have HX4 := Lib.hid hx4; have HX5 := Lib.hid hx5
  obtain ⟨nx, hnx⟩ : ∃ nx, nx = xs.length := ⟨_, rfl⟩
  have HNX := Lib.hid hnx
  rw [← hnx] at hx1 ⊢
  have hxl : nx ≤ 100000 := by
    have h := congrArg List.length hx5
    rw [List.length_map] at h
    have := HSMALL.out.2
    omega
  clear hx3 hx4 hx5 hb14 hnx HX13 HY13
  obtain ⟨i0, hi0, hz0, hz1, hz2⟩ := info_parts info_str
  have HZ2 := Lib.hid hz2; clear hz2
  go_wp2_with fail
  go_loopw [16, 110] (fun o i wr => ∃ j : Nat, j ≤ nx ∧ i = .int .i64 j ∧ wr.ownsRow w14.heap.size 9 1 o j (sV ((xs.map By.b).take j)) ∧ Below w14.heap.size w14 wr) (fun _ i _ => nx - (intOf i).toNat)
  case atStart => exact ⟨0, Nat.zero_le _, rfl, World.ownsRow_nil _ _ _ _, Below.refl _ _⟩
  case round =>
    obtain ⟨j, hj, rfl, ho, hb⟩ := hrel
    have HO := Lib.hid ho; have HB := Lib.hid hb
    obtain ⟨oa, oc, rfl, _, _, _⟩ := own_slice ho
    clear ho hb
    by_cases hlt : j < nx
    · have hjx : j < xs.length := by rw [← HNX.out]; exact hlt
      obtain ⟨b1, o1, rfl, hb1, hc1⟩ := HX3.out (by rw [flat_by, List.length_map]; omega)
      obtain ⟨xb, hxb⟩ : ∃ xb, xs[j] = xb := ⟨_, rfl⟩
      have hbx := HX4.out xb (by rw [← hxb]; exact List.getElem_mem _)
      have q1 : wr.cell? ⟨b1, o1 + j, none⟩ = some (.slice xb.a xb.b.length xb.c) := by
        rw [HB.out.cell (p := ⟨b1, o1 + j, none⟩) hb1]; exact hc1 j _ (by rw [flat_by, List.getElem?_map, List.getElem?_eq_getElem hjx, hxb]; rfl)
      have cv := run_string_rd (P := Tryz.prog) wr 38 9 5 Tryz.underlying38 Tryz.underlying5 Tryz.underlying9 (l := xb.b) xb.b.length xb.c ((hbx.1.below HB.out).more HB.out.size) rfl
      have HTK : Hid (sV ((xs.map By.b).take (j + 1)) = sV ((xs.map By.b).take j) ++ [.string (bs xb.b)]) := by
        show _ = _
        rw [List.take_succ_eq_append_getElem (by rw [List.length_map]; exact hjx)]
        unfold sV
        rw [List.map_append, List.getElem_map, hxb]
        rfl
      have HLT := Lib.hid hlt
      have i1 : (0 : Int) ≤ (j : Int) := by omega
      have i2 : (j : Int) < (nx : Int) := by omega
      have HSZ : Hid (w14.heap.size ≤ wr.heap.size) := HB.out.size
      clear hc1 hbx hxb hlt
      go_wp2_with (at_builtin; (refine wpList_append_rd _ rfl (.tmp 114) (.tmp 117) 62 rfl w14.heap.size 9 i0 _ 1 16 Tryz.underlying62 hi0 hz0 hz1 HZ2.out rfl (by omega) _ j _ rfl (own_below HO.out (box1 wr (.cells #[.string (bs xb.b)] 9))) _ _ 1 _ [.string (bs xb.b)] rfl rfl (lit_rd wr #[.string (bs xb.b)] _) (by simp [Value.oneCell']) (by unfold maxLen; omega) (by omega) (by have := HSZ.out; simp; omega) ?_)
                   intro v10 w15 hown10 hg10 _
                   have HO10 := Lib.hid hown10
                   have HB10 := Lib.hid (Below.of_grown (HB.out.alloc HB.out.size (.cells #[.string (bs xb.b)] 9)) hg10 (by have := HSZ.out; simp; omega) (by intro g hg; exact (own_shape HO.out hg).1))
                   clear hown10 hg10)
      go_roundw
      case rel => exact ⟨j + 1, HLT.out, by go_num, by rw [HTK.out]; exact HO10.out, HB10.out⟩
      case measure => have := HLT.out; simp [intOf]; omega
    · have : nx = j := by omega
      subst this
      go_wp2_with fail
      refine (fixed8_any F LK wr).mono ?_
      rintro e w16 ⟨rfl, hb16⟩
      have HY16 := Lib.hid (at_below HY14.out (HB.out.trans (hb16.mono HB.out.size)))
      have HB16 := Lib.hid (bel2 (bel2 HB14.out HB.out) hb16)
      have HO16 := Lib.hid (own_below HO.out hb16)
      clear hb16
      go_wp2_with fail
      refine (LK.bodies w16 T10 p q10 _ HY16.out HSMALL.out).mono ?_
      rintro e w17 ⟨a17, c17, ys, rfl, _, _, hy3, hy4, hy5, hb17⟩
      have HB17 := Lib.hid (bel2 HB16.out hb17)
      have HO17 := Lib.hid (own_below HO16.out hb17)
      have HXY : Hid (xs.map By.b = ys.map By.b) := HX5.out.trans hy5.symm
      have hyl : nx = ys.length := by
        have h := congrArg List.length HXY.out
        rw [List.length_map, List.length_map] at h
        rw [HNX.out]; exact h
      have HYL := Lib.hid hyl; have HY3 := Lib.hid hy3; have HY4 := Lib.hid hy4
      clear hy3 hy4 hy5 hb17 hyl
      go_wp2_with fail
      have hrow := Rd.own HO17.out
      refine (sameBy_any a17 oa ys.length nx c17 oc ys (xs.map By.b) w17 rfl HYL.out HY3.out (by
        have h := HO17.out
        have e : (xs.map By.b).take nx = xs.map By.b := List.take_of_length_le (by rw [List.length_map, HNX.out]; exact Nat.le_refl _)
        rw [e] at h
        exact Rd.own h) HXY.out HY4.out (by have := HYL.out; omega)).mono ?_
      rintro e w18 ⟨rfl, hb18⟩
      have HB18 := Lib.hid (bel2 HB17.out hb18)
      clear hb18 hrow
      go_wp2_with fail
      go_ret
      exact ⟨rfl, HB18.out⟩
end Go.Proofs.YthbgnkkepfbmjaaGreat

