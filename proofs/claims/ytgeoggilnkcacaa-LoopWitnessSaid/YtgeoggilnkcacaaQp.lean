import Derived.Test.YtgeoggilnkcacaaQo
import Derived.Test.YtgeoggilnkcacaaGe
import Derived.Deep.RegionHeldLaw
import Derived.Deep.Cut
namespace Go.Proofs.Ytgeoggilnkcacaa
open Go Go.RowKit Go.Sort
set_option linter.unusedVariables false

/-! The landed code: the layer behind one (stage 15). -/
def atO (had : List Int) (E : List Ed) (m j : Nat) : List Int := (List.range m).map fun h => (leastN had E h j).1
def atB (had : List Int) (E : List Ed) (m j : Nat) : List Int := (List.range m).map fun h => (leastN had E h j).2
theorem atO_length (had : List Int) (E : List Ed) (m j : Nat) : (atO had E m j).length = m := by simp [atO]
theorem atB_length (had : List Int) (E : List Ed) (m j : Nat) : (atB had E m j).length = m := by simp [atB]
theorem atO_start (had : List Int) (E : List Ed) (m : Nat) (h : had.length = m) : atO had E m 0 = had := by
  subst h
  refine List.ext_getElem (by simp [atO]) fun i h1 h2 => ?_
  simp [atO, leastN, List.getD, h2]
theorem atB_start (had : List Int) (E : List Ed) (m : Nat) : atB had E m 0 = List.replicate m (-1) := by
  refine List.ext_getElem (by simp [atB]) fun i h1 h2 => ?_
  simp [atB, leastN]
theorem atO_get {had : List Int} {E : List Ed} {m j t : Nat} (ht : t < m) (h : t < (atO had E m j).length) : (atO had E m j)[t] = (leastN had E t j).1 := by simp [atO]
theorem at_less {had : List Int} {E : List Ed} {m j t : Nat} {s : Int} (hj : j < E.length) (ht : E[j].to_ = (t : Int)) (htm : t < m) (hs : had.getD E[j].fr.toNat 0 + E[j].wt = s) (hl : s < (leastN had E t j).1) :
    atO had E m (j + 1) = (atO had E m j).set t s ∧ atB had E m (j + 1) = (atB had E m j).set t (j : Int) := by
  have key : ∀ h, h < m → leastN had E h (j + 1) = if h = t then (s, (j : Int)) else leastN had E h j := fun h hh => by
    rw [leastN_step hj, hs]
    by_cases e : h = t
    · subst e; rw [if_pos ⟨ht, hl⟩, if_pos rfl]
    · rw [if_neg (fun c => e (by have := c.1; omega)), if_neg e]
  constructor
  · refine List.ext_getElem (by simp [atO]) fun i h1 h2 => ?_
    have hi : i < m := by rw [atO_length] at h1; exact h1
    rw [List.getElem_set, atO_get hi h1, key i hi]
    by_cases e : i = t
    · subst e; simp
    · rw [if_neg e, if_neg (fun c => e c.symm), atO_get hi]
  · refine List.ext_getElem (by simp [atB]) fun i h1 h2 => ?_
    have hi : i < m := by rw [atB_length] at h1; exact h1
    rw [List.getElem_set]
    have e1 : (atB had E m (j + 1))[i] = (leastN had E i (j + 1)).2 := by simp [atB]
    rw [e1, key i hi]
    by_cases e : i = t
    · subst e; simp
    · rw [if_neg e, if_neg (fun c => e c.symm)]; simp [atB]
theorem at_same {had : List Int} {E : List Ed} {m j t : Nat} {s : Int} (hj : j < E.length) (ht : E[j].to_ = (t : Int)) (hs : had.getD E[j].fr.toNat 0 + E[j].wt = s) (hl : ¬ s < (leastN had E t j).1) :
    atO had E m (j + 1) = atO had E m j ∧ atB had E m (j + 1) = atB had E m j := by
  have key : ∀ h, leastN had E h (j + 1) = leastN had E h j := fun h => by
    rw [leastN_step hj, hs]
    refine if_neg fun c => hl ?_
    obtain rfl : h = t := by have := c.1; omega
    exact c.2
  exact ⟨List.map_congr_left fun h _ => by rw [key h], List.map_congr_left fun h _ => by rw [key h]⟩
/-- Where a layer lies: a box of two rows of the call's own. -/
structure LB (V w : World) (b : Nat) (m : Nat) (A K : List Int) (a1 : Option Addr) (c1 : Nat) (a2 : Option Addr) (c2 : Nat) : Prop where
  bx : w.ownsRow V.heap.size 53 2 (.slice (some ⟨b, 0, none⟩) 1 1) 1 [.slice a1 m c1, .slice a2 m c2]
  o1 : w.ownsRow V.heap.size 2 1 (.slice a1 m c1) m (intV A)
  o2 : w.ownsRow V.heap.size 3 1 (.slice a2 m c2) m (intV K)
  bw : Below V.heap.size V w
theorem LB.below {V w w' : World} {b m : Nat} {A K : List Int} {a1 a2 : Option Addr} {c1 c2 : Nat} (h : LB V w b m A K a1 c1 a2 c2) (hb : Below w.heap.size w w') : LB V w' b m A K a1 c1 a2 c2 :=
  ⟨own_below h.bx hb, own_below h.o1 hb, own_below h.o2 hb, bel2 h.bw hb⟩
theorem LB.k0 {V w : World} {b m : Nat} {A K : List Int} {a1 a2 : Option Addr} {c1 c2 : Nat} (h : LB V w b m A K a1 c1 a2 c2) : w.cell? ⟨b, 0, none⟩ = some (.slice a1 m c1) := h.bx.cellAt 0 (by omega)
theorem LB.k1 {V w : World} {b m : Nat} {A K : List Int} {a1 a2 : Option Addr} {c1 c2 : Nat} (h : LB V w b m A K a1 c1 a2 c2) : w.cell? ⟨b, 1, none⟩ = some (.slice a2 m c2) := h.bx.cellAt 1 (by omega)
theorem LB.lt {V w : World} {b m : Nat} {A K : List Int} {a1 a2 : Option Addr} {c1 c2 : Nat} (h : LB V w b m A K a1 c1 a2 c2) : b < w.heap.size := (own_shape h.bx rfl).2.1
theorem own_ne {W : World} {b1 b2 : Nat} {e1 e2 : TypeId} {s1 s2 k1 k2 g g2 c c2 n n2 : Nat} {x1 x2 : List Value} (h1 : W.ownsRow b1 e1 s1 (.slice (some ⟨g, 0, none⟩) n c) k1 x1) (h2 : W.ownsRow b2 e2 s2 (.slice (some ⟨g2, 0, none⟩) n2 c2) k2 x2) (hne : e1 ≠ e2) : g ≠ g2 := by
  rcases rows_apart15 h1 h2 hne with e | e
  · cases e
  · exact fun c => e (by simp [Value.ownBlock, c])
/-- One number of each row is written. -/
theorem LB.set {V w : World} {b m : Nat} {A K : List Int} {g1 g2 c1 c2 : Nat} (h : LB V w b m A K (some ⟨g1, 0, none⟩) c1 (some ⟨g2, 0, none⟩) c2) (t : Nat) (s j : Int) :
    LB V ((w.setCell ⟨g1, t, none⟩ (.int .i64 s)).setCell ⟨g2, t, none⟩ (.int .i64 j)) b m (A.set t s) (K.set t j) (some ⟨g1, 0, none⟩) c1 (some ⟨g2, 0, none⟩) c2 := by
  have n1 := own_ne h.o1 h.bx (by decide)
  have n2 := own_ne h.o2 h.bx (by decide)
  have n12 := own_ne h.o1 h.o2 (by decide)
  have l1 := (own_shape h.o1 rfl).1
  have l2 := (own_shape h.o2 rfl).1
  obtain ⟨p1, q1⟩ := h.o1.stored t (.int .i64 s)
  have bx' := h.bx.kept q1 (.inr (by simp [Value.ownBlock]; exact fun c => n1 c.symm))
  have o2' := h.o2.kept q1 (.inr (by simp [Value.ownBlock]; exact fun c => n12 c.symm))
  obtain ⟨p2, q2⟩ := o2'.stored t (.int .i64 j)
  have o1' := p1.kept q2 (.inr (by simp [Value.ownBlock]; exact n12))
  have bx2 := bx'.kept q2 (.inr (by simp [Value.ownBlock]; exact fun c => n2 c.symm))
  rw [intV_set15] at p2 o1'
  exact ⟨bx2, o1', p2, (h.bw.setCell (p := ⟨g1, t, none⟩) l1 _).setCell (p := ⟨g2, t, none⟩) l2 _⟩
/-- A box that holds two rows now. -/
theorem LB.fill {V w : World} {b m : Nat} {A K : List Int} {a1 a2 : Option Addr} {c1 c2 : Nat} {x y : Value} (h1 : w.ownsRow V.heap.size 53 2 (.slice (some ⟨b, 0, none⟩) 1 1) 1 [x, y]) (h2 : w.ownsRow V.heap.size 2 1 (.slice a1 m c1) m (intV A)) (h3 : w.ownsRow V.heap.size 3 1 (.slice a2 m c2) m (intV K)) (h4 : Below V.heap.size V w) :
    LB V ((w.setCell ⟨b, 0, none⟩ (.slice a1 m c1)).setCell ⟨b, 1, none⟩ (.slice a2 m c2)) b m A K a1 c1 a2 c2 := by
  have l1 := (own_shape h1 rfl).1
  obtain ⟨p1, q1⟩ := h1.stored 0 (.slice a1 m c1)
  obtain ⟨p2, q2⟩ := p1.stored 1 (.slice a2 m c2)
  refine ⟨p2, (h2.kept q1 (rows_apart15 h2 h1 (by decide))).kept q2 (rows_apart15 h2 h1 (by decide)), (h3.kept q1 (rows_apart15 h3 h1 (by decide))).kept q2 (rows_apart15 h3 h1 (by decide)), (h4.setCell (p := ⟨b, 0, none⟩) l1 _).setCell (p := ⟨b, 1, none⟩) l1 _⟩
theorem layer_box (w : World) (n : Nat) (x y : Value) (hn : n = w.heap.size) : (w.alloc (.cells #[x, y] 53)).ownsRow n 53 2 (.slice (some ⟨n, 0, none⟩) 1 1) 1 [x, y] := by
  subst hn
  exact ⟨rfl, .inr ⟨w.heap.size, 1, #[x, y], rfl, Nat.le_refl _, heap_alloc_new w _, Nat.le_refl _, by decide, rfl, rfl⟩⟩
theorem LB.new {V w : World} {m : Nat} {A K : List Int} {a1 a2 : Option Addr} {c1 c2 : Nat} (n : Nat) (hn : n = w.heap.size) (h2 : w.ownsRow V.heap.size 2 1 (.slice a1 m c1) m (intV A)) (h3 : w.ownsRow V.heap.size 3 1 (.slice a2 m c2) m (intV K)) (h4 : Below V.heap.size V w) :
    LB V (w.alloc (.cells #[.slice a1 m c1, .slice a2 m c2] 53)) n m A K a1 c1 a2 c2 :=
  ⟨own_base (layer_box w n _ _ hn) (by rw [hn]; exact h4.size), own_below h2 (box1 _ _), own_below h3 (box1 _ _), h4.alloc h4.size _⟩
theorem own_pos {w : World} {B : Nat} {e : TypeId} {s n c : Nat} {a : Option Addr} {xs : List Value} (h : w.ownsRow B e s (.slice a n c) n xs) (hn : 0 < n) : ∃ g, a = some ⟨g, 0, none⟩ := by
  rcases h.2 with ⟨_, h0⟩ | ⟨g, cap, cur, hv, _⟩
  · omega
  · injection hv with h1; exact ⟨g, h1⟩
theorem two_stored {w : World} {B b : Nat} {x y : Value} (h : w.ownsRow B 53 2 (.slice (some ⟨b, 0, none⟩) 1 1) 1 [x, y]) (u v : Value) :
    ((w.setCell ⟨b, 0, none⟩ u).setCell ⟨b, 1, none⟩ v).ownsRow B 53 2 (.slice (some ⟨b, 0, none⟩) 1 1) 1 [u, v] ∧
    ∀ {B2 : Nat} {e2 : TypeId} {s2 k2 : Nat} {z : Value} {xs : List Value}, w.ownsRow B2 e2 s2 z k2 xs → e2 ≠ 53 → ((w.setCell ⟨b, 0, none⟩ u).setCell ⟨b, 1, none⟩ v).ownsRow B2 e2 s2 z k2 xs := by
  obtain ⟨p1, q1⟩ := h.stored 0 u
  obtain ⟨p2, q2⟩ := p1.stored 1 v
  exact ⟨p2, fun h2 hne => (h2.kept q1 (rows_apart15 h2 h hne)).kept q2 (rows_apart15 h2 h hne)⟩
theorem load_layer {w : World} {B b : Nat} {x y : Value} (h : w.ownsRow B 53 2 (.slice (some ⟨b, 0, none⟩) 1 1) 1 [x, y]) : (loadVar 53 ⟨b, 0, none⟩).run Try.prog w = .ok (.agg #[x, y]) w :=
  run_loadVar_mid (P := Try.prog) _ _ 0 53 _ _ (fun j v hv => by
    have hj : j < 2 := by
      rcases Nat.lt_or_ge j 2 with h | h
      · exact h
      · rw [List.getElem?_eq_none (by simpa using h)] at hv; cases hv
    rw [Nat.zero_add, h.cellAt j (by omega)]; exact hv) Try.underlying53 rfl (by kernel_rfl)
def NextOut (m : Nat) (had : List Int) (E : List Ed) (w : World) (x : Ending) (w' : World) : Prop :=
  ∃ a1 c1 a2 c2, x = .returned (.agg #[.slice a1 m c1, .slice a2 m c2]) ∧ w'.ownsRow w.heap.size 2 1 (.slice a1 m c1) m (intV (atO had E m E.length)) ∧ w'.ownsRow w.heap.size 3 1 (.slice a2 m c2) m (intV (atB had E m E.length)) ∧ Below w.heap.size w w'
set_option maxHeartbeats 4000000 in
theorem next_any (m : Nat) (had : List Int) (a a2 : Option Addr) (c c2 : Nat) (b : Option Addr) (d : Nat) (E : List Ed) (w : World) (ha : Rd w w.heap.size a (intV had)) (hb : Rd w w.heap.size b (edsV E)) (hlow : Low had) (hlen : had.length = m) (hE : ∀ e ∈ E, edOk (m : Int) e = true) (hm : m ≤ 100000) (hlE : E.length ≤ 100000) :
    Calls Try.prog 24 #[.agg #[.slice a m c, .slice a2 m c2], .slice b E.length d] w (NextOut m had E w) := by
  have HA := Lib.hid ha; have HB := Lib.hid hb; have HL := Lib.hid hlow; have HE := Lib.hid hE; clear ha hb hlow hE
  subst hlen
  obtain ⟨m, hlen⟩ : ∃ m, had.length = m := ⟨_, rfl⟩
  have HC1 := Lib.hid (fun W (h : Below w.heap.size w W) => clone15_any a c had W ((HA.out.below h).more h.size) hm)
  rw [hlen] at hm HC1 ⊢
  have HC2 := Lib.hid (fun W => rowOf_int m (-1) W hm)
  go_enter Try.func24, Try.ntmps24
  go_wp2_with fail
  obtain ⟨V, hV⟩ : ∃ V, (w.alloc (.cells #[.slice a m c, .slice a2 m c2] 53)).alloc (.cells #[.slice none 0 0, .slice none 0 0] 53) = V := ⟨_, rfl⟩
  have e0 : V.cell? ⟨w.heap.size, 0, none⟩ = some (.slice a m c) := by rw [← hV]; simp [World.cell?_alloc_lt]
  have e1 : V.cell? ⟨w.heap.size, 1, none⟩ = some (.slice a2 m c2) := by rw [← hV]; simp [World.cell?_alloc_lt]
  have HR : Hid (V.ownsRow w.heap.size 53 2 (.slice (some ⟨w.heap.size + 1, 0, none⟩) 1 1) 1 [.slice none 0 0, .slice none 0 0]) := by
    rw [← hV]
    exact own_base (layer_box _ _ _ _ (by simp)) (by simp)
  have hVs : w.heap.size + 1 < V.heap.size := by rw [← hV]; simp
  have HBV : Hid (Below w.heap.size w V) := by rw [← hV]; exact bel2 (box1 _ _) (box1 _ _)
  have hVs0 : w.heap.size < V.heap.size := by omega
  have hVs1 : w.heap.size ≤ V.heap.size := by omega
  rw [hV]
  clear hV
  have k0 : ∀ w', RowKit.Below V.heap.size V w' → w'.cell? ⟨w.heap.size, 0, none⟩ = some (.slice a m c) := fun w' h => (h.cell (p := ⟨w.heap.size, 0, none⟩) hVs0).trans e0
  have k1 : ∀ w', RowKit.Below V.heap.size V w' → w'.cell? ⟨w.heap.size, 1, none⟩ = some (.slice a2 m c2) := fun w' h => (h.cell (p := ⟨w.heap.size, 1, none⟩) hVs0).trans e1
  go_cut [5] from 9 (fun s5 wx => ∃ b a1 c1 a2 c2, s5 = .pointer (some ⟨b, 0, none⟩) ∧ LB V wx b m (atO had E m 0) (atB had E m 0) a1 c1 a2 c2)
  case first =>
   have HD1 : Hid (∀ W, Below V.heap.size V W → Calls Try.prog 29 #[.slice a m c] W fun e w' => ∃ a c, e = .returned (.slice a m c) ∧ w'.ownsRow V.heap.size 2 1 (.slice a m c) m (intV had) ∧ Below V.heap.size V w' ∧ Below W.heap.size W w') := fun W h =>
     (HC1.out W (HBV.out.trans (h.mono hVs1))).mono fun e w' ⟨a, c, h1, h2, h3⟩ => ⟨a, c, h1, own_base h2 h.size, h.trans (h3.mono h.size), h3⟩
   have HD2 : Hid (∀ W, Below V.heap.size V W → Calls Try.prog 23 #[.int .i64 (m : Int), .int .i64 (-1)] W fun e w' => ∃ a c, e = .returned (.slice a m c) ∧ w'.ownsRow V.heap.size 3 1 (.slice a m c) m (intV (List.replicate m (-1))) ∧ Below V.heap.size V w' ∧ Below W.heap.size W w') := fun W h =>
     (HC2.out W).mono fun e w' ⟨a, c, h1, h2, h3⟩ => ⟨a, c, h1, own_base h2 h.size, h.trans (h3.mono h.size), h3⟩
   have HS0 := Lib.hid (atO_start had E m hlen); have HSB := Lib.hid (atB_start had E m)
   clear HC1 HC2 e0 e1
   go_region_held_law (fun w' => RowKit.Below V.heap.size V w') (first | assumption | exact Below_drew (Below.refl _ _) | exact (Below_drew (Below.refl _ _)).alloc (by simp) _ | exact RowKit.Below.alloc (by assumption) (by omega) _ | exact RowKit.Below.setCell (RowKit.Below.setCell (by assumption) (by first | exact Nat.le_refl _ | (simp only; omega)) _) (by first | exact Nat.le_refl _ | (simp only; omega)) _) (first
      | (go_simp
         go_at_call 29
         refine (HD1.out _ (by first | exact Below_drew (Below.refl _ _) | exact (Below_drew (Below.refl _ _)).alloc (by simp) _)).mono ?_
         rintro e w5 ⟨a5, c5, rfl, ho5, hs5, hb5⟩
         have hz5 := hs5.size
         have HO5 := Lib.hid ho5
         try (have mb : w5.ownsRow V.heap.size 53 2 (.slice (some ⟨V.heap.size, 0, none⟩) 1 1) 1 [.slice none 0 0, .slice none 0 0] := own_below (layer_box V.drew _ (.slice none 0 0) (.slice none 0 0) rfl) hb5)
         clear hb5 ho5)
      | (go_simp
         go_at_call 23
         refine (HD2.out _ (by first | assumption | exact RowKit.Below.alloc (by assumption) (by omega) _)).mono ?_
         rintro e w6 ⟨a6, c6, rfl, ho6, hs6, hb6⟩
         have hz6 := hs6.size
         have HO6 := Lib.hid ho6
         have HP5 := Lib.hid (by first | exact own_below HO5.out hb6 | exact own_below (own_below HO5.out (box1 _ _)) hb6 : w6.ownsRow V.heap.size 2 1 (.slice a5 m c5) m (intV had))
         first | (have mb6 := own_below mb hb6) | (have mb6 := own_below (layer_box w5 _ (.slice none 0 0) (.slice none 0 0) rfl) hb6) | (have mb6 := layer_box w6 _ (.slice none 0 0) (.slice none 0 0) rfl)
         have g0 := mb6.cellAt 0 (by omega)
         have g1 := mb6.cellAt 1 (by omega)
         have g2 := mb6.frozenAt 0
         have g3 := mb6.frozenAt 1
         have g4 := (own_shape mb6 rfl).2.1
         simp only [List.getElem?_cons_zero, List.getElem?_cons_succ] at g0 g1
         clear hb6 ho6))
   all_goals
     go_wp2_with fail
     go_meet
     case rel =>
       first
         | exact ⟨_, _, _, _, _, rfl, by rw [HS0.out, HSB.out]; exact LB.new _ rfl HP5.out HO6.out (by assumption)⟩
         | exact ⟨_, _, _, _, _, rfl, by rw [HS0.out, HSB.out]; exact LB.fill (own_base mb6 (by omega)) HP5.out HO6.out (by assumption)⟩
  case rest =>
    obtain ⟨b5, a5, c5, a6, c6, rfl, hlb⟩ := hcut
    have HI0 := Lib.hid hlb; clear hlb HC1 HC2
    go_wp2_with fail
    go_loopw [19] (fun vi wr => ∃ j : Nat, j ≤ E.length ∧ vi = .int .i64 (j : Int) ∧ LB V wr b5 m (atO had E m j) (atB had E m j) a5 c5 a6 c6) (fun vi _ => E.length - (intOf vi).toNat)
    case atStart => exact ⟨0, Nat.zero_le _, rfl, HI0.out⟩
    clear HI0
    case round =>
      obtain ⟨j, hj, rfl, hlb⟩ := hrel
      have HI := Lib.hid hlb; clear hlb
      generalize wr = W1 at *
      by_cases hlt : j < E.length
      · have hbw := HI.out.bw
        obtain ⟨b2, o2, hb2, _, hEd⟩ := (HB.out.below (HBV.out.trans (hbw.mono hVs1))).edge hlt
        subst hb2
        have hok := edOk_iff.1 (HE.out E[j] (List.getElem_mem hlt))
        rw [hlen] at hok
        have HLE := Lib.hid (fun t s h1 h2 h3 h4 => at_less (had := had) (E := E) (m := m) (j := j) (t := t) (s := s) hlt h1 h2 h3 h4)
        have HSA := Lib.hid (fun t s h1 h3 h4 => at_same (had := had) (E := E) (m := m) (j := j) (t := t) (s := s) hlt h1 h3 h4)
        generalize E[j] = e at *
        obtain ⟨d0, d1, d2, d3, d4, d5⟩ := hEd
        obtain ⟨x, y, z, p, q, t⟩ := e
        simp only at d0 d1 d2 d3 d4 d5 hok HLE HSA
        obtain ⟨f, rfl⟩ : ∃ f : Nat, x = (f : Int) := ⟨x.toNat, by omega⟩
        obtain ⟨u, rfl⟩ : ∃ u : Nat, y = (u : Int) := ⟨y.toNat, by omega⟩
        have hf : f < m := by omega
        have hu : u < m := by omega
        obtain ⟨g1, rfl⟩ := own_pos HI.out.o1 (by omega)
        obtain ⟨g2, rfl⟩ := own_pos HI.out.o2 (by omega)
        have hf' : f < had.length := by omega
        obtain ⟨b3, o3, hb3, hb3l, c6'⟩ := HA.out.num hf'
        subst hb3
        have c7 := ((HBV.out.trans (hbw.mono hVs1)).cell (p := ⟨b3, o3 + f, none⟩) hb3l).trans c6'
        have gf : had.getD (f : Int).toNat 0 = had[f] := by simp [List.getD, hf']
        rw [gf] at HLE HSA
        have hlow := HL.out had[f] (List.getElem_mem hf')
        generalize had[f] = v at *
        have hka : u < (atO had E m j).length := by rw [atO_length]; exact hu
        have hkb : u < (atB had E m j).length := by rw [atB_length]; exact hu
        have f1 := HI.out.o1.cellAt u (by omega)
        have f2 := HI.out.o2.cellAt u (by omega)
        rw [intV_get hka] at f1
        rw [intV_get hkb] at f2
        have gu := atO_get (had := had) (E := E) hu hka
        have HLE := Lib.hid (fun h4 => HLE.out u (v + z) rfl hu rfl h4)
        have HSA := Lib.hid (fun h4 => HSA.out u (v + z) rfl rfl h4)
        rw [← gu] at HLE HSA
        clear gu
        generalize (atO had E m j)[u] = v1 at *
        generalize (atB had E m j)[u] = v2 at *
        have k2 := k0 _ hbw
        have i3 : (j : Int) < (E.length : Int) := by omega
        have i4 : (0 : Int) ≤ (j : Int) := by omega
        have i5 : (f : Int) < (m : Int) := by omega
        have i6 : (0 : Int) ≤ (f : Int) := by omega
        have i7 : IntKind.i64.wrap (v + z) = v + z := IntWalk.i64_in _ (by omega)
        have i8 : (u : Int) < (m : Int) := by omega
        have i9 : (0 : Int) ≤ (u : Int) := by omega
        clear gf c6'
        go_wp2_with fail
        obtain ⟨W2, hW2⟩ : ∃ W2, W1.alloc (.cells #[.int .i64 (f : Int), .int .i64 (u : Int), .int .i64 z, .int .i64 p, .int .i64 q, .bool t] 34) = W2 := ⟨_, rfl⟩
        have l0 : W2.cell? ⟨W1.heap.size, 0, none⟩ = some (.int .i64 (f : Int)) := by rw [← hW2]; simp
        have l1 : W2.cell? ⟨W1.heap.size, 1, none⟩ = some (.int .i64 (u : Int)) := by rw [← hW2]; simp
        have l2 : W2.cell? ⟨W1.heap.size, 2, none⟩ = some (.int .i64 z) := by rw [← hW2]; simp
        have HB2 : Hid (Below W1.heap.size W1 W2) := by rw [← hW2]; exact box1 _ _
        have hls : W1.heap.size < W2.heap.size := by rw [← hW2]; simp
        rw [hW2]
        clear hW2 d0 d1 d2 d3 d4 d5 k2
        have HI2 := Lib.hid (HI.out.below HB2.out)
        have k2 := k0 _ HI2.out.bw
        have c8 := (HB2.out.cell (p := ⟨b3, o3 + f, none⟩) (Nat.lt_of_lt_of_le (Nat.lt_of_lt_of_le hb3l hVs1) hbw.size)).trans c7
        have F1 := Lib.hid f1; have F2 := Lib.hid f2; have L1 := Lib.hid l1
        have hsz1 : g1 < W1.heap.size := (own_shape HI.out.o1 rfl).2.1
        have hsz2 : g2 < W1.heap.size := (own_shape HI.out.o2 rfl).2.1
        have P1 := Lib.hid (((HB2.out.cell (p := ⟨g1, u, none⟩) hsz1)).trans f1)
        have P2 := Lib.hid (((HB2.out.cell (p := ⟨g2, u, none⟩) hsz2)).trans f2)
        clear c7 f1 f2 hbw
        go_quiet (fail)
        obtain ⟨W3, hW3⟩ : ∃ W3, W2.drewN nq = W3 := ⟨_, rfl⟩
        have HB3 : Hid (Below W2.heap.size W2 W3) := by rw [← hW3]; exact Below_drewN (Below.refl _ _) _
        have hI3 := HI2.out.below HB3.out
        have l1 := (HB3.out.cell (p := ⟨W1.heap.size, 1, none⟩) hls).trans L1.out
        have f1 := (HB3.out.cell (p := ⟨g1, u, none⟩) (Nat.lt_trans hsz1 hls)).trans P1.out
        have f2 := (HB3.out.cell (p := ⟨g2, u, none⟩) (Nat.lt_trans hsz2 hls)).trans P2.out
        have z1 := hI3.o1.frozenAt u
        have z2 := hI3.o2.frozenAt u
        have kk0 := hI3.k0
        have kk1 := hI3.k1
        have n1 := own_ne hI3.o1 hI3.bx (by decide)
        have n2 := own_ne hI3.o2 hI3.bx (by decide)
        have n12 := own_ne hI3.o1 hI3.o2 (by decide)
        have hg1 : g1 < W3.heap.size := (own_shape hI3.o1 rfl).2.1
        have hg2 : g2 < W3.heap.size := (own_shape hI3.o2 rfl).2.1
        have m1 : g1 ≠ W1.heap.size := by omega
        have m2 : g2 ≠ W1.heap.size := by omega
        have HI3 := Lib.hid hI3
        rw [hW3]
        clear hW3 hI3 k2 c8 l0 l2 HI2 HI F1 F2 P1 P2 L1
        by_cases hs : v + z < v1
        · have HF := Lib.hid (HLE.out hs)
          go_wp2_with fail
          go_region_held_law (fun w' => w'.cell? ⟨b5, 0, none⟩ = some (.slice (some ⟨g1, 0, none⟩) m c5) ∧ w'.cell? ⟨b5, 1, none⟩ = some (.slice (some ⟨g2, 0, none⟩) m c6) ∧ w'.cell? ⟨W1.heap.size, 1, none⟩ = some (.int .i64 (u : Int))) (first | exact ⟨kk0, kk1, l1⟩ | (go_keep)) (fail)
          go_wp2_with fail
          go_roundw
          case rel => exact ⟨j + 1, by omega, by go_num, by rw [HF.out.1, HF.out.2]; exact (HI3.out.set u _ _).below (Below_drew (Below.refl _ _))⟩
          case measure => simp [intOf]; omega
        · have HF := Lib.hid (HSA.out (by omega))
          go_wp2_with fail
          go_roundw
          case rel => exact ⟨j + 1, by omega, by go_num, by rw [HF.out.1, HF.out.2]; exact HI3.out⟩
          case measure => simp [intOf]; omega
      · obtain rfl : j = E.length := by omega
        have hbx := HI.out.bx
        have hr := own_below HR.out HI.out.bw
        have x0 := HI.out.k0
        have x1 := HI.out.k1
        have y0 := hr.cellAt 0 (by omega)
        have y1 := hr.cellAt 1 (by omega)
        have y2 := hr.frozenAt 0
        have y3 := hr.frozenAt 1
        have y4 : w.heap.size + 1 < W1.heap.size := (own_shape hr rfl).2.1
        simp only [List.getElem?_cons_zero, List.getElem?_cons_succ] at y0 y1
        clear k0 k1
        go_wp2_with fail
        have hf := two_stored hr (.slice a5 m c5) (.slice a6 m c6)
        refine bodyPost_ret (v := .agg #[.slice a5 m c5, .slice a6 m c6]) (results_cell (p := 4) (ty := 53) (b := w.heap.size + 1) rfl rfl (load_layer hf.1)) rfl ⟨a5, c5, a6, c6, rfl, ?_, ?_, ?_⟩
        · exact own_base (hf.2 HI.out.o1 (by decide)) hVs1
        · exact own_base (hf.2 HI.out.o2 (by decide)) hVs1
        · exact ((HBV.out.trans (HI.out.bw.mono hVs1)).setCell (p := ⟨w.heap.size + 1, 0, none⟩) (by show w.heap.size ≤ w.heap.size + 1; omega) _).setCell (p := ⟨w.heap.size + 1, 1, none⟩) (by show w.heap.size ≤ w.heap.size + 1; omega) _
end Go.Proofs.Ytgeoggilnkcacaa

