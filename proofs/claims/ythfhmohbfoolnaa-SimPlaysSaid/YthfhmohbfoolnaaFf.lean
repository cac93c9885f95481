import Derived.Test.YthfhmohbfoolnaaFe
namespace Go.Proofs.Ythfhmohbfoolnaa
open Go Go.RowKit

theorem there3 {w : World} {b : Nat} (h : w.there b 0 3) : ∃ u0 u1 u2, w.cell? ⟨b, 0, none⟩ = some u0 ∧ w.cell? ⟨b, 1, none⟩ = some u1 ∧ w.cell? ⟨b, 2, none⟩ = some u2 ∧ w.frozen? ⟨b, 0, none⟩ = false ∧ w.frozen? ⟨b, 1, none⟩ = false ∧ w.frozen? ⟨b, 2, none⟩ = false := by
  obtain ⟨a0, b0⟩ := h 0 (by omega)
  obtain ⟨a1, b1⟩ := h 1 (by omega)
  obtain ⟨a2, b2⟩ := h 2 (by omega)
  obtain ⟨u0, e0⟩ := Option.isSome_iff_exists.1 a0
  obtain ⟨u1, e1⟩ := Option.isSome_iff_exists.1 a1
  obtain ⟨u2, e2⟩ := Option.isSome_iff_exists.1 a2
  simp only [Nat.zero_add] at *
  exact ⟨u0, u1, u2, e0, e1, e2, b0, b1, b2⟩
theorem size_setCells' (b : Nat) : ∀ (vs : List Value) (o : Nat) (w : World), (w.setCells b o vs).heap.size = w.heap.size
  | [], _, _ => rfl
  | v :: r, o, w => by rw [World.setCells, size_setCells' b r (o + 1)]; simp
theorem fs_there {w : World} {b : Nat} {us : List Value} (h : w.there b 0 3) : (w.setCells b 0 us).there b 0 3 := World.there_setCells h _ _ _
theorem range3 {w : World} {b : Nat} {u0 u1 u2 : Value} (h : w.rangeAt b 0 [u0, u1, u2]) : w.cell? ⟨b, 0, none⟩ = some u0 ∧ w.cell? ⟨b, 1, none⟩ = some u1 ∧ w.cell? ⟨b, 2, none⟩ = some u2 := by
  exact ⟨h 0 u0 rfl, h 1 u1 rfl, h 2 u2 rfl⟩
theorem set3 {w : World} {b : Nat} {u0 u1 u2 : Value} (h : w.there b 0 3) : (w.setCells b 0 [u0, u1, u2]).cell? ⟨b, 0, none⟩ = some u0 ∧ (w.setCells b 0 [u0, u1, u2]).cell? ⟨b, 1, none⟩ = some u1 ∧ (w.setCells b 0 [u0, u1, u2]).cell? ⟨b, 2, none⟩ = some u2 :=
  range3 (World.rangeAt_setCells_same w b 0 [u0, u1, u2] h)
theorem Rd_sets {w : World} {B b : Nat} {a : Option Addr} {cs : List Value} (h : Rd w B a cs) (us : List Value) (o : Nat) (hb : ∀ g o s, a = some ⟨g, o, s⟩ → g ≠ b) : Rd (w.setCells b o us) B a cs := fun h0 => by
  obtain ⟨g, off, ha, hg, hc⟩ := h h0
  refine ⟨g, off, ha, hg, fun j u hu => ?_⟩
  rw [World.cell?_setCells_out b us o w ⟨g, off + j, none⟩ (fun hb' _ => absurd hb' (hb g off none ha))]
  exact hc j u hu
set_option maxRecDepth 20000 in
set_option maxHeartbeats 4000000 in
theorem act_fs (a : Option Addr) (c : Nat) (m : FSm) (x : Fl) (sync : Bool) (w : World) (hr : Rd w w.heap.size a (flF m.files)) (hl : m.files.length ≤ 1000000000) (hlc : m.files.length ≤ c) (hc : c ≤ maxLen) (hf1 : -9223372036854775808 ≤ m.fuse) (hf2 : m.fuse ≤ 9223372036854775807) :
    Calls Try.prog 51 #[fsv a m.files.length c m.fuse m.down, x.v, .bool sync] w (FsErr w a m.files (actF m x sync)) := by
  have HR := Lib.hid hr; have HC := Lib.hid hc; clear hr hc
  obtain ⟨L, fu, dn⟩ := m
  simp only at *
  unfold fsv Fl.v
  go_enter Try.func51, Try.ntmps51
  by_cases h0 : fu = 0
  · subst h0
    have HACT : Hid (actF ⟨L, 0, dn⟩ x sync = (⟨if sync = true then L else putF L x, 0, true⟩, 7)) := by show _ = _; simp [actF]
    cases sync
    · go_wp2_with fail
      obtain ⟨W3, hW3⟩ : ∃ W3, W3 = (((w.alloc (.cells #[.slice a L.length c, .int .i64 0, .bool dn] 28)).alloc (.cells #[.int .u32 (x.n : Int), .bool x.there, .bool x.kept, .string x.now, .string x.safe] 85)).alloc (.cells #[.slice none 0 0, .int .i64 0, .bool false] 28)) := ⟨_, rfl⟩
      rw [← hW3]
      have HS3 : Hid (W3.heap.size = w.heap.size + 3) := by show _ = _; rw [hW3]; simp
      have HB3 : Hid (Below w.heap.size w W3) := by show Below _ _ _; rw [hW3]; exact ((box1 w _).alloc (by simp) _).alloc (by simp; omega) _
      have HFZ : Hid (W3.there w.heap.size 0 3) := by
        show W3.there _ _ _; rw [hW3]
        exact World.there_alloc (World.there_alloc (there_last w #[.slice a L.length c, .int .i64 0, .bool dn] 28 _ 3 rfl rfl) _) _
      have HRES : Hid (W3.there (w.heap.size + 1 + 1) 0 3) := by
        show W3.there _ _ _; rw [hW3]
        exact there_last _ #[.slice none 0 0, .int .i64 0, .bool false] 28 _ 3 rfl (by simp)
      have HR3 : Hid (Rd W3 W3.heap.size a (flF L)) := (HR.out.below HB3.out).more (by rw [HS3.out]; omega)
      clear hW3
      refine (put_fs a c L 0 dn x W3 HR3.out hl).mono ?_
      rintro e w1 ⟨a1, c1, rfl, q1, q2, q3, q4, q5⟩
      have Q1 := Lib.hid q1; have Q2' := Lib.hid q2; have Q3 := Lib.hid q3; have Q4 := Lib.hid q4; have Q5 := Lib.hid q5; clear q1 q2 q3 q4 q5
      have T1 := Lib.hid (there_below HFZ.out Q5.out (by rw [HS3.out]; omega))
      have T2 := Lib.hid (there_below HRES.out Q5.out (by rw [HS3.out]; omega))
      have HB1 := Lib.hid (HB3.out.trans (Q5.out.mono (by rw [HS3.out]; omega)))
      unfold fsv
      simp only at *
      obtain ⟨y0, y1, y2, g0, g1, g2, k0, k1, k2⟩ := there3 T1.out
      obtain ⟨z0, z1, z2, p0, p1, p2, r0, r1, r2⟩ := there3 T2.out
      have e9 : ((((w1.setCell ⟨w.heap.size, 0, none⟩ (.slice a1 (putF L x).length c1)).setCell ⟨w.heap.size, 1, none⟩ (.int .i64 0)).setCell ⟨w.heap.size, 2, none⟩ (.bool dn)).setCell ⟨w.heap.size, 2, none⟩ (.bool true)).cell? ⟨w.heap.size, 2, none⟩ = some (.bool true) :=
        World.cell?_setCell_same _ _ _ (World.cell?_setCell_same _ _ _ (u := y2) (by rw [World.cell?_setCell_other _ _ _ _ (by simp), World.cell?_setCell_other _ _ _ _ (by simp)]; exact g2))
      go_wp2_with fail
      have T4 : ((w1.setCells w.heap.size 0 [.slice a1 (putF L x).length c1, .int .i64 0, .bool dn]).setCells w.heap.size 2 [.bool true]).there (w.heap.size + 1 + 1) 0 3 := World.there_setCells (World.there_setCells T2.out _ _ _) _ _ _
      refine bodyPost_ret (v := .tuple #[fsv a1 (putF L x).length c1 0 true, .int .i64 7]) (results_cell_two (p := 6) (u := 7) (ty := 28) (b := w.heap.size + 1 + 1) (x := .int .i64 7) rfl rfl rfl (load_fs _ (w.heap.size + 1 + 1) #[.slice a1 (putF L x).length c1, .int .i64 0, .bool true] T4)) rfl ?_
      rw [HACT.out]
      have fr : ∀ g o s, a1 = some ⟨g, o, s⟩ → w.heap.size + 3 ≤ g := fun g o s e => by have := Q4.out g o s e; rw [HS3.out] at this; exact this
      obtain ⟨WA, hWA⟩ : ∃ WA, WA = w1.setCells w.heap.size 0 [.slice a1 (putF L x).length c1, .int .i64 0, .bool dn] := ⟨_, rfl⟩
      obtain ⟨WB, hWB⟩ : ∃ WB, WB = WA.setCells w.heap.size 2 [.bool true] := ⟨_, rfl⟩
      obtain ⟨WC, hWC⟩ : ∃ WC, WC = WB.setCells (w.heap.size + 1 + 1) 0 [.slice a1 (putF L x).length c1, .int .i64 0, .bool true] := ⟨_, rfl⟩
      have ra : Rd WA w1.heap.size a1 (flF (putF L x)) := by rw [hWA]; exact Rd_sets Q3.out _ 0 (fun g o s e => by have := fr g o s e; omega)
      have rb : Rd WB w1.heap.size a1 (flF (putF L x)) := by rw [hWB]; exact Rd_sets ra _ 2 (fun g o s e => by have := fr g o s e; omega)
      have rc : Rd WC w1.heap.size a1 (flF (putF L x)) := by rw [hWC]; exact Rd_sets rb _ 0 (fun g o s e => by have := fr g o s e; omega)
      have ba : Below w.heap.size w WA := by rw [hWA]; exact Below_setCells (Nat.le_refl _) _ 0 _ HB1.out
      have bb : Below w.heap.size w WB := by rw [hWB]; exact Below_setCells (Nat.le_refl _) _ 2 _ ba
      have bc : Below w.heap.size w WC := by rw [hWC]; exact Below_setCells (by omega) _ 0 _ bb
      have sc : WC.heap.size = w1.heap.size := by rw [hWC, hWB, hWA, size_setCells', size_setCells', size_setCells']
      have key : FsErr w a L (⟨if false = true then L else putF L x, 0, true⟩, 7) (.returned (.tuple #[fsv a1 (putF L x).length c1 0 true, .int .i64 7])) WC :=
        ⟨a1, c1, rfl, Q1.out, Q2'.out, rc.more (by rw [sc]; exact Nat.le_refl _), .inr (fun b o s e => by have := fr b o s e; omega), bc⟩
      rw [hWC, hWB, hWA] at key
      exact key
    · go_wp2_with fail
      have hr2 : (((w.alloc (.cells #[.slice a L.length c, .int .i64 0, .bool true] 28)).alloc (.cells #[.int .u32 (x.n : Int), .bool x.there, .bool x.kept, .string x.now, .string x.safe] 85)).alloc (.cells #[.slice a L.length c, .int .i64 0, .bool true] 28)).rangeAt (w.heap.size + 1 + 1) 0 [.slice a L.length c, .int .i64 0, .bool true] := rangeAt_last _ #[.slice a L.length c, .int .i64 0, .bool true] _ _ (by simp)
      refine bodyPost_ret (v := .tuple #[fsv a L.length c 0 true, .int .i64 7]) (results_cell_two (p := 6) (u := 7) (ty := 28) (b := w.heap.size + 1 + 1) (x := .int .i64 7) rfl rfl rfl (run_loadVar_mid (P := Try.prog) _ (w.heap.size + 1 + 1) 0 28 _ _ hr2 Try.underlying28 rfl size_fs)) rfl ?_
      rw [HACT.out]
      have hb : Below w.heap.size w (((w.alloc (.cells #[.slice a L.length c, .int .i64 0, .bool true] 28)).alloc (.cells #[.int .u32 (x.n : Int), .bool x.there, .bool x.kept, .string x.now, .string x.safe] 85)).alloc (.cells #[.slice a L.length c, .int .i64 0, .bool true] 28)) := ((box1 w _).alloc (by simp) _).alloc (by simp; omega) _
      exact ⟨a, c, rfl, hlc, HC.out, (HR.out.below hb).more hb.size, .inl ⟨rfl, rfl⟩, hb⟩
  · by_cases h1 : 0 < fu
    · have hw : IntKind.i64.wrap (fu - 1) = fu - 1 := IntWalk.i64_in _ ⟨by omega, by omega⟩
      have hq : (fu == 0) = false := by simp [h0]
      have HACT : Hid (actF ⟨L, fu, dn⟩ x sync = (⟨putF L x, fu - 1, dn⟩, 0)) := by show _ = _; simp [actF, h0, h1]
      go_wp2_with fail
      obtain ⟨W3, hW3⟩ : ∃ W3, W3 = (((w.alloc (.cells #[.slice a L.length c, .int .i64 (fu - 1), .bool dn] 28)).alloc (.cells #[.int .u32 (x.n : Int), .bool x.there, .bool x.kept, .string x.now, .string x.safe] 85)).alloc (.cells #[.slice none 0 0, .int .i64 0, .bool false] 28)) := ⟨_, rfl⟩
      rw [← hW3]
      have HS3 : Hid (W3.heap.size = w.heap.size + 3) := by show _ = _; rw [hW3]; simp
      have HB3 : Hid (Below w.heap.size w W3) := by show Below _ _ _; rw [hW3]; exact ((box1 w _).alloc (by simp) _).alloc (by simp; omega) _
      have HFZ : Hid (W3.there w.heap.size 0 3) := by
        show W3.there _ _ _; rw [hW3]
        exact World.there_alloc (World.there_alloc (there_last w #[.slice a L.length c, .int .i64 (fu - 1), .bool dn] 28 _ 3 rfl rfl) _) _
      have HRES : Hid (W3.there (w.heap.size + 1 + 1) 0 3) := by
        show W3.there _ _ _; rw [hW3]
        exact there_last _ #[.slice none 0 0, .int .i64 0, .bool false] 28 _ 3 rfl (by simp)
      have HR3 : Hid (Rd W3 W3.heap.size a (flF L)) := (HR.out.below HB3.out).more (by rw [HS3.out]; omega)
      clear hW3
      refine (put_fs a c L (fu - 1) dn x W3 HR3.out hl).mono ?_
      rintro e w1 ⟨a1, c1, rfl, q1, q2, q3, q4, q5⟩
      have Q1 := Lib.hid q1; have Q2' := Lib.hid q2; have Q3 := Lib.hid q3; have Q4 := Lib.hid q4; have Q5 := Lib.hid q5; clear q1 q2 q3 q4 q5
      have T1 := Lib.hid (there_below HFZ.out Q5.out (by rw [HS3.out]; omega))
      have T2 := Lib.hid (there_below HRES.out Q5.out (by rw [HS3.out]; omega))
      have HB1 := Lib.hid (HB3.out.trans (Q5.out.mono (by rw [HS3.out]; omega)))
      unfold fsv
      simp only at *
      obtain ⟨y0, y1, y2, g0, g1, g2, k0, k1, k2⟩ := there3 T1.out
      obtain ⟨z0, z1, z2, p0, p1, p2, r0, r1, r2⟩ := there3 T2.out
      go_wp2_with fail
      refine bodyPost_ret (v := .tuple #[fsv a1 (putF L x).length c1 (fu - 1) dn, .int .i64 0]) (results_cell_two (p := 6) (u := 7) (ty := 28) (b := w.heap.size + 1 + 1) (x := .int .i64 0) rfl rfl rfl (load_fs w1 (w.heap.size + 1 + 1) #[.slice a1 (putF L x).length c1, .int .i64 (fu - 1), .bool dn] T2.out)) rfl ?_
      rw [HACT.out]
      obtain ⟨WC, hWC⟩ : ∃ WC, WC = w1.setCells (w.heap.size + 1 + 1) 0 [.slice a1 (putF L x).length c1, .int .i64 (fu - 1), .bool dn] := ⟨_, rfl⟩
      have fr : ∀ g o s, a1 = some ⟨g, o, s⟩ → w.heap.size + 3 ≤ g := fun g o s e => by have := Q4.out g o s e; rw [HS3.out] at this; exact this
      have rc : Rd WC w1.heap.size a1 (flF (putF L x)) := by rw [hWC]; exact Rd_sets Q3.out _ 0 (fun g o s e => by have := fr g o s e; omega)
      have bc : Below w.heap.size w WC := by rw [hWC]; exact Below_setCells (by omega) _ 0 _ HB1.out
      have sc : WC.heap.size = w1.heap.size := by rw [hWC, size_setCells']
      have key : FsErr w a L (⟨putF L x, fu - 1, dn⟩, 0) (.returned (.tuple #[fsv a1 (putF L x).length c1 (fu - 1) dn, .int .i64 0])) WC :=
        ⟨a1, c1, rfl, Q1.out, Q2'.out, rc.more (by rw [sc]; exact Nat.le_refl _), .inr (fun b o s e => by have := fr b o s e; omega), bc⟩
      rw [hWC] at key
      exact key
    · have hq : (fu == 0) = false := by simp [h0]
      have HACT : Hid (actF ⟨L, fu, dn⟩ x sync = (⟨putF L x, fu, dn⟩, 0)) := by show _ = _; simp [actF, h0, h1]
      go_wp2_with fail
      obtain ⟨W3, hW3⟩ : ∃ W3, W3 = (((w.alloc (.cells #[.slice a L.length c, .int .i64 fu, .bool dn] 28)).alloc (.cells #[.int .u32 (x.n : Int), .bool x.there, .bool x.kept, .string x.now, .string x.safe] 85)).alloc (.cells #[.slice none 0 0, .int .i64 0, .bool false] 28)) := ⟨_, rfl⟩
      rw [← hW3]
      have HS3 : Hid (W3.heap.size = w.heap.size + 3) := by show _ = _; rw [hW3]; simp
      have HB3 : Hid (Below w.heap.size w W3) := by show Below _ _ _; rw [hW3]; exact ((box1 w _).alloc (by simp) _).alloc (by simp; omega) _
      have HFZ : Hid (W3.there w.heap.size 0 3) := by
        show W3.there _ _ _; rw [hW3]
        exact World.there_alloc (World.there_alloc (there_last w #[.slice a L.length c, .int .i64 fu, .bool dn] 28 _ 3 rfl rfl) _) _
      have HRES : Hid (W3.there (w.heap.size + 1 + 1) 0 3) := by
        show W3.there _ _ _; rw [hW3]
        exact there_last _ #[.slice none 0 0, .int .i64 0, .bool false] 28 _ 3 rfl (by simp)
      have HR3 : Hid (Rd W3 W3.heap.size a (flF L)) := (HR.out.below HB3.out).more (by rw [HS3.out]; omega)
      clear hW3
      refine (put_fs a c L fu dn x W3 HR3.out hl).mono ?_
      rintro e w1 ⟨a1, c1, rfl, q1, q2, q3, q4, q5⟩
      have Q1 := Lib.hid q1; have Q2' := Lib.hid q2; have Q3 := Lib.hid q3; have Q4 := Lib.hid q4; have Q5 := Lib.hid q5; clear q1 q2 q3 q4 q5
      have T1 := Lib.hid (there_below HFZ.out Q5.out (by rw [HS3.out]; omega))
      have T2 := Lib.hid (there_below HRES.out Q5.out (by rw [HS3.out]; omega))
      have HB1 := Lib.hid (HB3.out.trans (Q5.out.mono (by rw [HS3.out]; omega)))
      unfold fsv
      simp only at *
      obtain ⟨y0, y1, y2, g0, g1, g2, k0, k1, k2⟩ := there3 T1.out
      obtain ⟨z0, z1, z2, p0, p1, p2, r0, r1, r2⟩ := there3 T2.out
      go_wp2_with fail
      refine bodyPost_ret (v := .tuple #[fsv a1 (putF L x).length c1 (fu) dn, .int .i64 0]) (results_cell_two (p := 6) (u := 7) (ty := 28) (b := w.heap.size + 1 + 1) (x := .int .i64 0) rfl rfl rfl (load_fs w1 (w.heap.size + 1 + 1) #[.slice a1 (putF L x).length c1, .int .i64 (fu), .bool dn] T2.out)) rfl ?_
      rw [HACT.out]
      obtain ⟨WC, hWC⟩ : ∃ WC, WC = w1.setCells (w.heap.size + 1 + 1) 0 [.slice a1 (putF L x).length c1, .int .i64 (fu), .bool dn] := ⟨_, rfl⟩
      have fr : ∀ g o s, a1 = some ⟨g, o, s⟩ → w.heap.size + 3 ≤ g := fun g o s e => by have := Q4.out g o s e; rw [HS3.out] at this; exact this
      have rc : Rd WC w1.heap.size a1 (flF (putF L x)) := by rw [hWC]; exact Rd_sets Q3.out _ 0 (fun g o s e => by have := fr g o s e; omega)
      have bc : Below w.heap.size w WC := by rw [hWC]; exact Below_setCells (by omega) _ 0 _ HB1.out
      have sc : WC.heap.size = w1.heap.size := by rw [hWC, size_setCells']
      have key : FsErr w a L (⟨putF L x, fu, dn⟩, 0) (.returned (.tuple #[fsv a1 (putF L x).length c1 (fu) dn, .int .i64 0])) WC :=
        ⟨a1, c1, rfl, Q1.out, Q2'.out, rc.more (by rw [sc]; exact Nat.le_refl _), .inr (fun b o s e => by have := fr b o s e; omega), bc⟩
      rw [hWC] at key
      exact key
end Go.Proofs.Ythfhmohbfoolnaa
