import Derived.Test.YthfhmohbfoolnaaFt
namespace Go.Proofs.Ythfhmohbfoolnaa
open Go Go.RowKit Go.Sort

/-! The chapter's example. -/
def e1 : FSm := (createF newF 1).1
def e2 : FSm := (appendF e1 1 (bs [97, 98])).1
def e3 : FSm := (syncF e2 1).1
def e4 : FSm := (appendF e3 1 (bs [99, 100])).1
theorem e_lim : Lim 1 e1 ∧ Lim 2 e2 ∧ Lim 3 e3 ∧ Lim 4 e4 := by
  have h1 := lim_create lim_new 1
  have h2 := lim_append h1 1 (bs [97, 98]) (by decide)
  have h3 := lim_sync h2 1
  exact ⟨h1, h2, h3, lim_append h3 1 (bs [99, 100]) (by decide)⟩
theorem e_ok : e4.Ok := append_ok (sync_ok (append_ok (create_ok new_ok _) _ _) _) _ _
theorem e_read (ga : Option Addr) (gc : Nat) : readF (crashF e4 [⟨false, 1, ga, gc, [1, 2]⟩]) 1 = (bs [97, 98, 98], 0) := by rfl
theorem e_lim5 (T : List Ft) : Lim 4 (crashF e4 T) := lim_crash e_lim.2.2.2 e_ok T
theorem const_rdn (w : World) (S : Nat → Prop) (hS : ∀ k, S k → k < w.heap.size) (l : List UInt8) (fr : Nat × Nat) : RdN S (w.alloc (.cells (bV l).toArray 5 fr)) (some ⟨w.heap.size, 0, none⟩) (bV l) := fun _ => by
  refine ⟨w.heap.size, 0, rfl, by simp, fun h => by have := hS _ h; omega, fun j u hu => ?_⟩
  rw [World.cell?_alloc_mark, Nat.zero_add]
  simpa using hu
set_option maxRecDepth 20000 in
set_option maxHeartbeats 4000000 in
theorem fixed_any (K : FsKit) (w : World) : Calls Try.prog 8 #[] w fun e w' => e = .returned (.bool true) ∧ Below w.heap.size w w' := by
  have kc := fun (w : World) (C : Array Value) (n c : Nat) => Lib.run_convert_bytes_const (P := Try.prog) w 36 5 C n c Try.underlying36 Try.underlying5
  obtain ⟨l1, l2, l3, l4⟩ := e_lim
  have L1 := Lib.hid (l1.bnd (by omega)); have L2 := Lib.hid (l2.bnd (by omega)); have L3 := Lib.hid (l3.bnd (by omega)); have L4 := Lib.hid (l4.bnd (by omega)); have L0 := Lib.hid (lim_new.bnd (by omega))
  clear l1 l2 l3 l4
  go_enter Try.func8, Try.ntmps8
  go_wp2_with fail
  refine (K.new w).mono ?_
  rintro e w1 ⟨p, S, R, rfl, hf, hs, hr, hb⟩
  have F1 := Lib.hid hf; have HS := Lib.hid hs; have B1 := Lib.hid hb
  clear hf hs hr hb
  go_wp2_with fail
  refine (K.create w1 S R p newF 1 F1.out L0.out (by omega)).mono ?_
  rintro e w2 ⟨S2, R2, rfl, hf, hd⟩
  have F2 : Hid (K.Fs w2 S2 R2 p e1) := hf
  have D2 := Lib.hid hd
  clear hf hd
  go_wp2_with fail
  obtain ⟨W2, hW2⟩ : ∃ W2, W2 = w2.alloc (.cells #[.int .u8 97, .int .u8 98] 5 (2, 3)) := ⟨_, rfl⟩
  have r2 : RdN S2 W2 (some ⟨w2.heap.size, 0, none⟩) (bV [97, 98]) := by rw [hW2]; exact const_rdn w2 S2 (K.low F2.out).1 [97, 98] (2, 3)
  have b2 : Below w2.heap.size w2 W2 := by rw [hW2]; exact box1 _ _
  have B2 := Lib.hid b2; have R2' := Lib.hid r2
  rw [← hW2]
  clear hW2 r2 b2
  refine (K.append W2 S2 R2 p e1 1 (some ⟨w2.heap.size, 0, none⟩) 2 [97, 98] (K.below F2.out B2.out) L1.out (by omega) R2'.out (by decide) (by decide) (by decide)).mono ?_
  rintro e w3 ⟨S3, R3, rfl, hf, hd⟩
  have F3 : Hid (K.Fs w3 S3 R3 p e2) := hf
  have D3 := Lib.hid (D2.out.trans (hd.after B2.out))
  clear hf hd
  go_wp2_with fail
  refine (K.sync w3 S3 R3 p e2 1 F3.out L2.out (by omega)).mono ?_
  rintro e w4 ⟨S4, R4, rfl, hf, hd⟩
  have F4 : Hid (K.Fs w4 S4 R4 p e3) := hf
  have D4 := Lib.hid (D3.out.trans hd)
  clear hf hd
  go_wp2_with fail
  obtain ⟨W4, hW4⟩ : ∃ W4, W4 = w4.alloc (.cells #[.int .u8 99, .int .u8 100] 5 (2, 3)) := ⟨_, rfl⟩
  have r4 : RdN S4 W4 (some ⟨w4.heap.size, 0, none⟩) (bV [99, 100]) := by rw [hW4]; exact const_rdn w4 S4 (K.low F4.out).1 [99, 100] (2, 3)
  have b4 : Below w4.heap.size w4 W4 := by rw [hW4]; exact box1 _ _
  have B4 := Lib.hid b4; have R4' := Lib.hid r4
  rw [← hW4]
  clear hW4 r4 b4
  refine (K.append W4 S4 R4 p e3 1 (some ⟨w4.heap.size, 0, none⟩) 2 [99, 100] (K.below F4.out B4.out) L3.out (by omega) R4'.out (by decide) (by decide) (by decide)).mono ?_
  rintro e w5 ⟨S5, R5, rfl, hf, hd⟩
  have F5 : Hid (K.Fs w5 S5 R5 p e4) := hf
  have D5 := Lib.hid (D4.out.trans (hd.after B4.out))
  clear hf hd
  go_wp2_with fail
  obtain ⟨W5, hW5⟩ : ∃ W5, W5 = (w5.alloc (.cells #[.int .u8 1, .int .u8 2] 5)).alloc (.cells #[.bool false, .int .i64 1, .slice (some ⟨w5.heap.size, 0, none⟩) 2 2] 52) := ⟨_, rfl⟩
  obtain ⟨t, ht⟩ : ∃ t : Ft, t = ⟨false, 1, some ⟨w5.heap.size, 0, none⟩, 2, [1, 2]⟩ := ⟨_, rfl⟩
  have low5 := (K.low F5.out).1
  have b5 : Below w5.heap.size w5 W5 := by rw [hW5]; exact (box1 _ _).alloc (by simp) _
  have r5 : RdN S5 W5 (some ⟨w5.heap.size + 1, 0, none⟩) (flatG Ft.l [t]) := fun _ => by
    refine ⟨w5.heap.size + 1, 0, rfl, by rw [hW5]; simp, fun h => by have := low5 _ h; omega, fun j u hu => ?_⟩
    rw [hW5, World.cell?_alloc_at _ _ _ _ (by simp), Nat.zero_add]
    rw [ht] at hu
    simpa [flatG, Ft.l] using hu
  have t5 : FtIn S5 W5 t := by
    rw [ht]
    refine ⟨fun _ => ⟨w5.heap.size, 0, rfl, by rw [hW5]; simp; omega, fun h => by have := low5 _ h; omega, fun j u hu => ?_⟩, by show 2 ≤ 2; decide, by show 2 ≤ maxLen; decide, by show (-9223372036854775808 : Int) ≤ 1; decide, by show (1 : Int) ≤ 9223372036854775807; decide⟩
    rw [hW5, World.cell?_alloc_lt _ _ _ (by show w5.heap.size < _; simp), World.cell?_alloc_new, Nat.zero_add]
    simpa [bV] using hu
  have B5 := Lib.hid b5; have R5' := Lib.hid r5; have T5 := Lib.hid t5; have HT := Lib.hid ht
  rw [← hW5]
  clear hW5 r5 b5 t5 low5 ht
  refine (K.crash W5 S5 R5 p e4 (some ⟨w5.heap.size + 1, 0, none⟩) 1 [t] (K.below F5.out B5.out) L4.out R5'.out (by simp) (by simp) (by decide) (fun x hx => by rw [List.mem_singleton.1 hx]; exact T5.out)).mono ?_
  rintro e w6 ⟨S6, R6, rfl, hf, hd⟩
  have F6 := Lib.hid hf
  have D6 := Lib.hid (D5.out.trans (hd.after B5.out))
  clear hf hd
  go_wp2_with fail
  refine (K.read w6 S6 R6 p (crashF e4 [t]) 1 F6.out ((e_lim5 [t]).bnd (by omega)) (by omega)).mono ?_
  rintro e w7 ⟨S7, R7, a, c, rfl, _, _, hnb, _, hd⟩
  have D7 := Lib.hid (D6.out.trans hd)
  have hrd : readF (crashF e4 [t]) 1 = (bs [97, 98, 98], 0) := by rw [HT.out]; exact e_read _ _
  rw [hrd] at hnb ⊢
  have HBW : Hid (Below w.heap.size w w7) := B1.out.trans (D7.out.off.below B1.out.size HS.out)
  obtain ⟨g, off, ha, _, hg, _, _, hra, _⟩ := hnb (by decide)
  subst ha
  have hcv := run_string_rd (P := Try.prog) w7 36 9 5 Try.underlying36 Try.underlying5 Try.underlying9 (B := w7.heap.size) (a := some ⟨g, off, none⟩) (l := [97, 98, 98]) 3 c (fun _ => ⟨g, off, rfl, hg, fun j u hu => hra j u hu⟩) rfl
  have hsz : (bs [97, 98, 98]).size = 3 := rfl
  obtain ⟨q1, q2⟩ := str_eq (x := bs [97, 98, 98]) (y := ByteArray.mk #[97, 98, 98]) (b := true) (by decide)
  have e9 : (ByteArray.mk #[97, 98, 98]).toList = [97, 98, 98] := by rw [ByteArray.toList_eq]
  rw [e9] at q1
  clear hra hd hrd q2 e9 hnb
  go_wp2_with fail
  go_ret
  exact ⟨rfl, HBW.out⟩
end Go.Proofs.Ythfhmohbfoolnaa
