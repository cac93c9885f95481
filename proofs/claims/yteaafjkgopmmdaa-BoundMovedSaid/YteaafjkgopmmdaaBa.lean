import Derived.Test.YteaafjkgopmmdaaSc
import Derived.Test.YteaafjkgopmmdaaSe
import Derived.Test.YteaafjkgopmmdaaUg
import Derived.Deep.RegionHeldLaw
import Derived.Deep.DeepMust
import Derived.Shelf.SlicesQ.Load
namespace Go.Proofs.Yteaafjkgopmmdaa
open Go Go.Shelf Go.RowKit Go.Sort
set_option linter.unusedVariables false

/-! Pairs of places; the document's Gaps (stage 12). -/
structure Pr where
  client : Int
  server : Int
def Pr.c (p : Pr) : Array Value := #[.int .i64 p.client, .int .i64 p.server]
def Pr.v (p : Pr) : Value := .agg #[.int .i64 p.client, .int .i64 p.server]
/-- The span at a place. -/
def atP (L : List Sp) (x : Int) : Option Sp := if 0 ≤ x then L[x.toNat]? else none
theorem atP_neg {L : List Sp} {x : Int} (h : x < 0) : atP L x = none := by unfold atP; rw [if_neg (by omega)]
theorem atP_far {L : List Sp} {x : Int} (h : (L.length : Int) ≤ x) : atP L x = none := by
  unfold atP; rw [if_pos (by omega), List.getElem?_eq_none (by omega)]
theorem atP_is {L : List Sp} {n : Nat} (h : n < L.length) : atP L (n : Int) = some L[n] := by
  unfold atP; rw [if_pos (by omega), Int.toNat_natCast, List.getElem?_eq_getElem h]
theorem atP_some {L : List Sp} {x : Int} {s : Sp} (h : atP L x = some s) : ∃ n : Nat, ∃ hn : n < L.length, x = (n : Int) ∧ L[n] = s := by
  unfold atP at h
  split at h
  · obtain ⟨hn, e⟩ := List.getElem?_eq_some_iff.1 h
    exact ⟨x.toNat, hn, by omega, e⟩
  · cases h
/-- Lead and rest. -/
def gapsL (L : List Sp) (p : Pr) : Option (Int × Int) :=
  match atP L p.client, atP L p.server with
  | some c, some s => if mayB c && mayB s then some (s.start - c.start, c.start + c.dur - s.start - s.dur) else none
  | _, _ => none
def gapsV : Option (Int × Int) → Value
  | some (x, y) => .tuple #[.int .i64 x, .int .i64 y, .bool true]
  | none => .tuple #[.int .i64 0, .int .i64 0, .bool false]
theorem gaps_c {L : List Sp} {p : Pr} (h : atP L p.client = none) : gapsL L p = none := by unfold gapsL; rw [h]
theorem gaps_s {L : List Sp} {p : Pr} (h : atP L p.server = none) : gapsL L p = none := by
  unfold gapsL; rw [h]; cases atP L p.client <;> rfl
theorem gaps_is {L : List Sp} {p : Pr} {c s : Sp} (hc : atP L p.client = some c) (hs : atP L p.server = some s) : gapsL L p = if mayB c && mayB s then some (s.start - c.start, c.start + c.dur - s.start - s.dur) else none := by
  unfold gapsL; rw [hc, hs]
/-- What a Gaps pays. -/
def GapsPay (F : Nat) : Prop := ∀ (a : Option Addr) (c : Nat) (L : List Sp) (p : Pr) (w : World), Rd w w.heap.size a (flatL L) → L.length ≤ 100000 → (∀ s ∈ L, s.Ok) →
  Calls Try.prog F #[.slice a L.length c, p.v] w fun e w' => e = .returned (gapsV (gapsL L p)) ∧ Below w.heap.size w w'
theorem load_span {w : World} {b o : Nat} {s : Sp} (h : Elem w b o s) : Sem.run Try.prog (loadCellsFrom ⟨b, o, none⟩ 0 8 #[]) w = .ok #[.int .u64 s.trace, .int .u64 s.id, .int .u64 s.parent, .int .u8 s.kind, .string s.host, .string s.name, .int .i64 s.start, .int .i64 s.dur] w := by
  obtain ⟨e0, e1, e2, e3, e4, e5, e6, e7⟩ := h
  refine run_loadCellsFrom_list Try.prog w ⟨b, o, none⟩ s.c.toList 8 rfl fun j v hv => ?_
  rw [add_at]
  rcases j with _ | _ | _ | _ | _ | _ | _ | _ | j
  · simp [Sp.c] at hv; subst hv; exact e0
  · simp [Sp.c] at hv; subst hv; exact e1
  · simp [Sp.c] at hv; subst hv; exact e2
  · simp [Sp.c] at hv; subst hv; exact e3
  · simp [Sp.c] at hv; subst hv; exact e4
  · simp [Sp.c] at hv; subst hv; exact e5
  · simp [Sp.c] at hv; subst hv; exact e6
  · simp [Sp.c] at hv; subst hv; exact e7
  · simp [Sp.c] at hv
theorem Box.at_ (w : World) (s : Sp) (t : TypeId) (n : Nat) (hn : n = w.heap.size) : Box (w.alloc (.cells s.c t)) n s := by subst hn; exact Box.new w s t
set_option maxHeartbeats 8000000 in
theorem refGaps_any : GapsPay 23 := by
  intro a c L p w ha hl hok
  have HA := Lib.hid ha; have HOK := Lib.hid hok; clear ha hok
  have HC := Lib.hid (fun h => gaps_c (L := L) (p := p) h)
  have HS := Lib.hid (fun h => gaps_s (L := L) (p := p) h)
  have HG := Lib.hid (fun x y hx hy => gaps_is (L := L) (p := p) (c := x) (s := y) hx hy)
  obtain ⟨x, y⟩ := p
  simp only [Pr.v] at HC HS HG ⊢
  by_cases hx0 : x < 0
  · have HE := Lib.hid (HC.out (atP_neg hx0))
    go_enter Try.func23, Try.ntmps23
    go_wp2
    go_ret3
    exact ⟨by rw [HE.out]; rfl, box1 _ _⟩
  by_cases hx1 : (L.length : Int) ≤ x
  · have HE := Lib.hid (HC.out (atP_far hx1))
    go_enter Try.func23, Try.ntmps23
    go_wp2
    go_ret3
    exact ⟨by rw [HE.out]; rfl, box1 _ _⟩
  by_cases hy0 : y < 0
  · have HE := Lib.hid (HS.out (atP_neg hy0))
    go_enter Try.func23, Try.ntmps23
    go_wp2
    go_ret3
    exact ⟨by rw [HE.out]; rfl, box1 _ _⟩
  by_cases hy1 : (L.length : Int) ≤ y
  · have HE := Lib.hid (HS.out (atP_far hy1))
    go_enter Try.func23, Try.ntmps23
    go_wp2
    go_ret3
    exact ⟨by rw [HE.out]; rfl, box1 _ _⟩
  obtain ⟨n, rfl⟩ : ∃ n : Nat, x = (n : Int) := ⟨x.toNat, by omega⟩
  obtain ⟨m, rfl⟩ : ∃ m : Nat, y = (m : Int) := ⟨y.toNat, by omega⟩
  have hn : n < L.length := by omega
  have hm : m < L.length := by omega
  have HE := Lib.hid (HG.out _ _ (atP_is hn) (atP_is hm))
  have HAV := Lib.hid ((HA.out.below (box1 w (.cells #[.int .i64 (n : Int), .int .i64 (m : Int)] 35))))
  obtain ⟨b1, o1, ha1, hb1, hE1⟩ := HAV.out.elem hn
  obtain ⟨b2, o2, ha2, hb2, hE2⟩ := HAV.out.elem hm
  subst ha1
  obtain ⟨rfl, rfl⟩ := And.intro (Addr.mk.inj (Option.some.inj ha2)).1 (Addr.mk.inj (Option.some.inj ha2)).2.1
  have OKc := Lib.hid (HOK.out L[n] (List.getElem_mem _))
  have OKs := Lib.hid (HOK.out L[m] (List.getElem_mem _))
  generalize L[n] = s at *
  generalize L[m] = t at *
  clear ha2 hb2
  have hbx : (w.alloc (.cells #[.int .i64 (n : Int), .int .i64 (m : Int)] 35)).cell? ⟨w.heap.size, 0, none⟩ = some (.int .i64 (n : Int)) ∧ (w.alloc (.cells #[.int .i64 (n : Int), .int .i64 (m : Int)] 35)).cell? ⟨w.heap.size, 1, none⟩ = some (.int .i64 (m : Int)) := ⟨by simp, by simp⟩
  have hbz : w.heap.size < (w.alloc (.cells #[.int .i64 (n : Int), .int .i64 (m : Int)] 35)).heap.size := by simp
  have HBV := Lib.hid (box1 w (.cells #[.int .i64 (n : Int), .int .i64 (m : Int)] 35))
  have i1 : (n : Int) < (L.length : Int) := by omega
  have i2 : (m : Int) < (L.length : Int) := by omega
  have i3 : (0 : Int) ≤ (n : Int) := by omega
  have i4 : (0 : Int) ≤ (m : Int) := by omega
  go_enter Try.func23, Try.ntmps23
  go_wp2_with fail
  generalize (w.alloc (.cells #[.int .i64 (n : Int), .int .i64 (m : Int)] 35)) = V at *
  have k0 : ∀ w', RowKit.Below V.heap.size V w' → w'.cell? ⟨w.heap.size, 0, none⟩ = some (.int .i64 (n : Int)) := fun w' h => (h.cell (p := ⟨w.heap.size, 0, none⟩) hbz).trans hbx.1
  have k1 : ∀ w', RowKit.Below V.heap.size V w' → w'.cell? ⟨w.heap.size, 1, none⟩ = some (.int .i64 (m : Int)) := fun w' h => (h.cell (p := ⟨w.heap.size, 1, none⟩) hbz).trans hbx.2
  have hb1V : b1 < V.heap.size := by omega
  have kk : ∀ (o : Nat) (v : Value), V.cell? ⟨b1, o, none⟩ = some v → ∀ w', RowKit.Below V.heap.size V w' → w'.cell? ⟨b1, o, none⟩ = some v := fun o v hv w' h => (h.cell (p := ⟨b1, o, none⟩) hb1V).trans hv
  obtain ⟨e0, e1, e2, e3, e4, e5, e6, e7⟩ := hE1
  obtain ⟨f0, f1, f2, f3, f4, f5, f6, f7⟩ := hE2
  have kc0 := kk _ _ e0
  have ks0 := kk _ _ f0
  have kc1 := kk _ _ e1
  have ks1 := kk _ _ f1
  have kc2 := kk _ _ e2
  have ks2 := kk _ _ f2
  have kc3 := kk _ _ e3
  have ks3 := kk _ _ f3
  have kc4 := kk _ _ e4
  have ks4 := kk _ _ f4
  have kc5 := kk _ _ e5
  have ks5 := kk _ _ f5
  have kc6 := kk _ _ e6
  have ks6 := kk _ _ f6
  have kc7 := kk _ _ e7
  have ks7 := kk _ _ f7
  clear kk e0 e1 e2 e3 e4 e5 e6 e7 f0 f1 f2 f3 f4 f5 f6 f7
  go_region_held_law (fun w' => RowKit.Below V.heap.size V w') (first | assumption | exact Below_drew (Below.refl _ _) | exact (Below_drew (Below.refl _ _)).alloc (by simp) _ | exact ((Below_drew (Below.refl _ _)).alloc (by simp) _).alloc (by simp) _) (fail)
  · clear kc0 kc1 kc2 kc3 kc4 kc5 kc6 kc7 ks0 ks1 ks2 ks3 ks4 ks5 ks6 ks7 k0 k1
    have HXs : Hid (Box (((V.alloc (.cells s.c 42)).alloc (.cells t.c 42)).drew) V.heap.size s) := (((Box.new V s 42).below (box1 _ (.cells t.c 42)) (by simp)).below (Below_drew (Below.refl ((V.alloc (.cells s.c 42)).alloc (.cells t.c 42)).heap.size _)) (by simp; omega))
    have HXt : Hid (Box (((V.alloc (.cells s.c 42)).alloc (.cells t.c 42)).drew) (V.heap.size + 1) t) := ((Box.at_ (V.alloc (.cells s.c 42)) t 42 (V.heap.size + 1) (by simp)).below (Below_drew (Below.refl ((V.alloc (.cells s.c 42)).alloc (.cells t.c 42)).heap.size _)) (by simp))
    have HBW : Hid (RowKit.Below V.heap.size V (((V.alloc (.cells s.c 42)).alloc (.cells t.c 42)).drew)) := Below_drew ((box1 V (.cells s.c 42)).alloc (by simp) (.cells t.c 42))
    simp only [Sp.c] at HXs HXt HBW
    generalize ((V.alloc (.cells #[.int .u64 s.trace, .int .u64 s.id, .int .u64 s.parent, .int .u8 s.kind, .string s.host, .string s.name, .int .i64 s.start, .int .i64 s.dur] 42)).alloc (.cells #[.int .u64 t.trace, .int .u64 t.id, .int .u64 t.parent, .int .u8 t.kind, .string t.host, .string t.name, .int .i64 t.start, .int .i64 t.dur] 42)).drew = W3 at *
    have HBV3 := Lib.hid (HBV.out.trans (HBW.out.mono HBV.out.size))
    clear HBW
    generalize V.heap.size + 1 = p1 at *
    generalize V.heap.size = p0 at *
    obtain ⟨c0, c1, c2, c3, c4, c5, c6, c7⟩ := HXs.out.all
    obtain ⟨d0, d1, d2, d3, d4, d5, d6, d7⟩ := HXt.out.all
    cases hs : mayB s with
    | false =>
      have HV : Hid (gapsL L ⟨(n : Int), (m : Int)⟩ = none) := by show _ = _; rw [HE.out, hs]; rfl
      have HMS := Lib.hid hs; clear hs
      go_wp2_with (go_at_call 19
                   refine (refMay_is HMS.out W3 OKc.out.host OKc.out.name OKc.out.kind.1).mono ?_; rintro e w4 ⟨rfl, hb4⟩
                   have HB4 := Lib.hid (HBV3.out.trans (hb4.mono HBV3.out.size)); clear hb4)
      go_ret3
      exact ⟨by rw [HV.out]; rfl, HB4.out⟩
    | true =>
      have HMS := Lib.hid hs
      cases ht : mayB t with
      | false =>
        have HV : Hid (gapsL L ⟨(n : Int), (m : Int)⟩ = none) := by show _ = _; rw [HE.out, hs, ht]; rfl
        have HMT := Lib.hid ht; clear hs ht
        go_wp2_with (first
          | (go_at_call 19
             with_reducible (show Calls Try.prog 19 #[.agg #[.int .u64 s.trace, .int .u64 s.id, .int .u64 s.parent, .int .u8 s.kind, .string s.host, .string s.name, .int .i64 s.start, .int .i64 s.dur]] W3 _)
             refine (refMay_is HMS.out W3 OKc.out.host OKc.out.name OKc.out.kind.1).mono ?_; rintro e w4 ⟨rfl, hb4⟩
             have HB4 := Lib.hid (HBV3.out.trans (hb4.mono HBV3.out.size))
             have HXt4 := Lib.hid (HXt.out.below hb4 HXt.out.1)
             obtain ⟨d0, d1, d2, d3, d4, d5, d6, d7⟩ := HXt4.out.all
             clear hb4)
          | (go_at_call 19
             refine (refMay_is HMT.out w4 OKs.out.host OKs.out.name OKs.out.kind.1).mono ?_; rintro e w5 ⟨rfl, hb5⟩
             have HB5 := Lib.hid (HB4.out.trans (hb5.mono HB4.out.size)); clear hb5))
        go_ret3
        exact ⟨by rw [HV.out]; rfl, HB5.out⟩
      | true =>
        have HV : Hid (gapsL L ⟨(n : Int), (m : Int)⟩ = some (t.start - s.start, s.start + s.dur - t.start - t.dur)) := by show _ = _; rw [HE.out, hs, ht]; rfl
        have HMT := Lib.hid ht
        obtain ⟨s1, s2, s3, s4⟩ := mayB_times hs
        obtain ⟨t1, t2, t3, t4⟩ := mayB_times ht
        clear hs ht
        have g1 : IntKind.i64.wrap (t.start - s.start) = t.start - s.start := IntWalk.i64_in _ (by omega)
        have g2 : IntKind.i64.wrap (s.start + s.dur) = s.start + s.dur := IntWalk.i64_in _ (by omega)
        have g3 : IntKind.i64.wrap (s.start + s.dur - t.start) = s.start + s.dur - t.start := IntWalk.i64_in _ (by omega)
        have g4 : IntKind.i64.wrap (s.start + s.dur - t.start - t.dur) = s.start + s.dur - t.start - t.dur := IntWalk.i64_in _ (by omega)
        go_wp2_with (first
          | (go_at_call 19
             with_reducible (show Calls Try.prog 19 #[.agg #[.int .u64 s.trace, .int .u64 s.id, .int .u64 s.parent, .int .u8 s.kind, .string s.host, .string s.name, .int .i64 s.start, .int .i64 s.dur]] W3 _)
             refine (refMay_is HMS.out W3 OKc.out.host OKc.out.name OKc.out.kind.1).mono ?_; rintro e w4 ⟨rfl, hb4⟩
             have HB4 := Lib.hid (HBV3.out.trans (hb4.mono HBV3.out.size))
             have HXs4 := Lib.hid (HXs.out.below hb4 HXs.out.1)
             have HXt4 := Lib.hid (HXt.out.below hb4 HXt.out.1)
             clear c0 c1 c2 c3 c4 c5 c6 c7 d0 d1 d2 d3 d4 d5 d6 d7
             obtain ⟨d0, d1, d2, d3, d4, d5, d6, d7⟩ := HXt4.out.all
             clear hb4)
          | (go_at_call 19
             refine (refMay_is HMT.out w4 OKs.out.host OKs.out.name OKs.out.kind.1).mono ?_; rintro e w5 ⟨rfl, hb5⟩
             have HB5 := Lib.hid (HB4.out.trans (hb5.mono HB4.out.size))
             have HXs5 := Lib.hid (HXs4.out.below hb5 HXs4.out.1)
             have HXt5 := Lib.hid (HXt4.out.below hb5 HXt4.out.1)
             clear d0 d1 d2 d3 d4 d5 d6 d7
             obtain ⟨_, _, _, _, _, _, c6, c7⟩ := HXs5.out.all
             obtain ⟨_, _, _, _, _, _, d6, d7⟩ := HXt5.out.all
             clear hb5))
        go_quiet (fail)
        go_wp2_with fail
        go_ret3
        exact ⟨by rw [HV.out]; rfl, Below_drewN HB5.out _⟩
  · clear kc0 kc1 kc2 kc3 kc4 kc5 kc6 kc7 ks0 ks1 ks2 ks3 ks4 ks5 ks6 ks7 k0 k1
    have HXs : Hid (Box (((V.alloc (.cells t.c 42)).alloc (.cells s.c 42)).drew) (V.heap.size + 1) s) := ((Box.at_ (V.alloc (.cells t.c 42)) s 42 (V.heap.size + 1) (by simp)).below (Below_drew (Below.refl ((V.alloc (.cells t.c 42)).alloc (.cells s.c 42)).heap.size _)) (by simp))
    have HXt : Hid (Box (((V.alloc (.cells t.c 42)).alloc (.cells s.c 42)).drew) V.heap.size t) := (((Box.new V t 42).below (box1 _ (.cells s.c 42)) (by simp)).below (Below_drew (Below.refl ((V.alloc (.cells t.c 42)).alloc (.cells s.c 42)).heap.size _)) (by simp; omega))
    have HBW : Hid (RowKit.Below V.heap.size V (((V.alloc (.cells t.c 42)).alloc (.cells s.c 42)).drew)) := Below_drew ((box1 V (.cells t.c 42)).alloc (by simp) (.cells s.c 42))
    simp only [Sp.c] at HXs HXt HBW
    generalize ((V.alloc (.cells #[.int .u64 t.trace, .int .u64 t.id, .int .u64 t.parent, .int .u8 t.kind, .string t.host, .string t.name, .int .i64 t.start, .int .i64 t.dur] 42)).alloc (.cells #[.int .u64 s.trace, .int .u64 s.id, .int .u64 s.parent, .int .u8 s.kind, .string s.host, .string s.name, .int .i64 s.start, .int .i64 s.dur] 42)).drew = W3 at *
    have HBV3 := Lib.hid (HBV.out.trans (HBW.out.mono HBV.out.size))
    clear HBW
    generalize V.heap.size + 1 = p1 at *
    generalize V.heap.size = p0 at *
    obtain ⟨c0, c1, c2, c3, c4, c5, c6, c7⟩ := HXs.out.all
    obtain ⟨d0, d1, d2, d3, d4, d5, d6, d7⟩ := HXt.out.all
    cases hs : mayB s with
    | false =>
      have HV : Hid (gapsL L ⟨(n : Int), (m : Int)⟩ = none) := by show _ = _; rw [HE.out, hs]; rfl
      have HMS := Lib.hid hs; clear hs
      go_wp2_with (go_at_call 19
                   refine (refMay_is HMS.out W3 OKc.out.host OKc.out.name OKc.out.kind.1).mono ?_; rintro e w4 ⟨rfl, hb4⟩
                   have HB4 := Lib.hid (HBV3.out.trans (hb4.mono HBV3.out.size)); clear hb4)
      go_ret3
      exact ⟨by rw [HV.out]; rfl, HB4.out⟩
    | true =>
      have HMS := Lib.hid hs
      cases ht : mayB t with
      | false =>
        have HV : Hid (gapsL L ⟨(n : Int), (m : Int)⟩ = none) := by show _ = _; rw [HE.out, hs, ht]; rfl
        have HMT := Lib.hid ht; clear hs ht
        go_wp2_with (first
          | (go_at_call 19
             with_reducible (show Calls Try.prog 19 #[.agg #[.int .u64 s.trace, .int .u64 s.id, .int .u64 s.parent, .int .u8 s.kind, .string s.host, .string s.name, .int .i64 s.start, .int .i64 s.dur]] W3 _)
             refine (refMay_is HMS.out W3 OKc.out.host OKc.out.name OKc.out.kind.1).mono ?_; rintro e w4 ⟨rfl, hb4⟩
             have HB4 := Lib.hid (HBV3.out.trans (hb4.mono HBV3.out.size))
             have HXt4 := Lib.hid (HXt.out.below hb4 HXt.out.1)
             obtain ⟨d0, d1, d2, d3, d4, d5, d6, d7⟩ := HXt4.out.all
             clear hb4)
          | (go_at_call 19
             refine (refMay_is HMT.out w4 OKs.out.host OKs.out.name OKs.out.kind.1).mono ?_; rintro e w5 ⟨rfl, hb5⟩
             have HB5 := Lib.hid (HB4.out.trans (hb5.mono HB4.out.size)); clear hb5))
        go_ret3
        exact ⟨by rw [HV.out]; rfl, HB5.out⟩
      | true =>
        have HV : Hid (gapsL L ⟨(n : Int), (m : Int)⟩ = some (t.start - s.start, s.start + s.dur - t.start - t.dur)) := by show _ = _; rw [HE.out, hs, ht]; rfl
        have HMT := Lib.hid ht
        obtain ⟨s1, s2, s3, s4⟩ := mayB_times hs
        obtain ⟨t1, t2, t3, t4⟩ := mayB_times ht
        clear hs ht
        have g1 : IntKind.i64.wrap (t.start - s.start) = t.start - s.start := IntWalk.i64_in _ (by omega)
        have g2 : IntKind.i64.wrap (s.start + s.dur) = s.start + s.dur := IntWalk.i64_in _ (by omega)
        have g3 : IntKind.i64.wrap (s.start + s.dur - t.start) = s.start + s.dur - t.start := IntWalk.i64_in _ (by omega)
        have g4 : IntKind.i64.wrap (s.start + s.dur - t.start - t.dur) = s.start + s.dur - t.start - t.dur := IntWalk.i64_in _ (by omega)
        go_wp2_with (first
          | (go_at_call 19
             with_reducible (show Calls Try.prog 19 #[.agg #[.int .u64 s.trace, .int .u64 s.id, .int .u64 s.parent, .int .u8 s.kind, .string s.host, .string s.name, .int .i64 s.start, .int .i64 s.dur]] W3 _)
             refine (refMay_is HMS.out W3 OKc.out.host OKc.out.name OKc.out.kind.1).mono ?_; rintro e w4 ⟨rfl, hb4⟩
             have HB4 := Lib.hid (HBV3.out.trans (hb4.mono HBV3.out.size))
             have HXs4 := Lib.hid (HXs.out.below hb4 HXs.out.1)
             have HXt4 := Lib.hid (HXt.out.below hb4 HXt.out.1)
             clear c0 c1 c2 c3 c4 c5 c6 c7 d0 d1 d2 d3 d4 d5 d6 d7
             obtain ⟨d0, d1, d2, d3, d4, d5, d6, d7⟩ := HXt4.out.all
             clear hb4)
          | (go_at_call 19
             refine (refMay_is HMT.out w4 OKs.out.host OKs.out.name OKs.out.kind.1).mono ?_; rintro e w5 ⟨rfl, hb5⟩
             have HB5 := Lib.hid (HB4.out.trans (hb5.mono HB4.out.size))
             have HXs5 := Lib.hid (HXs4.out.below hb5 HXs4.out.1)
             have HXt5 := Lib.hid (HXt4.out.below hb5 HXt4.out.1)
             clear d0 d1 d2 d3 d4 d5 d6 d7
             obtain ⟨_, _, _, _, _, _, c6, c7⟩ := HXs5.out.all
             obtain ⟨_, _, _, _, _, _, d6, d7⟩ := HXt5.out.all
             clear hb5))
        go_quiet (fail)
        go_wp2_with fail
        go_ret3
        exact ⟨by rw [HV.out]; rfl, Below_drewN HB5.out _⟩
end Go.Proofs.Yteaafjkgopmmdaa

