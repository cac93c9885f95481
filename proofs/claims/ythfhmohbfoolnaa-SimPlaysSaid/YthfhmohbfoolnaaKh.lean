import Derived.Test.YthfhmohbfoolnaaKg
import Derived.Deep.RegionHeldLaw
namespace Go.Proofs.Ythfhmohbfoolnaa
open Go Go.RowKit Go.Maps Go.Sort Go.Shelf

/-! The landed file system: an act. -/
def actG (m : FSm) (n : Nat) (g : Bool → Fl → Int × Fl) : FSm × Int :=
  if m.down = true then (m, 7) else
    if (g (decide (m.fuse = 0)) (getF m.files n)).1 ≠ 0 then (m, (g (decide (m.fuse = 0)) (getF m.files n)).1) else
      if m.fuse = 0 then ({ m with files := putF m.files (g (decide (m.fuse = 0)) (getF m.files n)).2, down := true }, 7)
      else ({ m with files := putF m.files (g (decide (m.fuse = 0)) (getF m.files n)).2, fuse := if 0 < m.fuse then m.fuse - 1 else m.fuse }, 0)
theorem FsL.fall {w : World} {S R : Nat → Prop} {p : Nat} {m : FSm} (h : FsL w S R p m) : FsL (w.setCell ⟨p, 2, none⟩ (.bool true)) S R p { m with down := true } ∧ Off S w (w.setCell ⟨p, 2, none⟩ (.bool true)) := by
  obtain ⟨b, fu, hne, hS, hR, hp, ho, h1, h2, h3, ok⟩ := h
  exact ⟨⟨b, fu, hne, hS, hR, set_heap hp 2 _, owns_move ho (set_other _ _ hne), h1, h2, h3, ok⟩, set_off S w p 2 _ ((hS p).2 (.inl rfl))⟩
theorem FsL.burn {w : World} {S R : Nat → Prop} {p : Nat} {m : FSm} (h : FsL w S R p m) (hf : 0 < m.fuse) : FsL (w.setCell ⟨p, 1, none⟩ (.int .i64 (m.fuse - 1))) S R p { m with fuse := m.fuse - 1 } ∧ Off S w (w.setCell ⟨p, 1, none⟩ (.int .i64 (m.fuse - 1))) := by
  obtain ⟨b, fu, hne, hS, hR, hp, ho, h1, h2, h3, ok⟩ := h
  refine ⟨⟨b, m.fuse - 1, hne, hS, hR, set_heap hp 1 _, owns_move ho (set_other _ _ hne), by omega, by omega, ?_, ok.1, ok.2.1, ?_, ?_⟩, set_off S w p 1 _ ((hS p).2 (.inl rfl))⟩
  · show m.fuse - 1 = max (m.fuse - 1) (-1); omega
  · show -1 ≤ m.fuse - 1; omega
  · show m.fuse - 1 ≤ _; omega
theorem FsL.cells {w : World} {S R : Nat → Prop} {p : Nat} {m : FSm} (h : FsL w S R p m) : ∃ b fu, w.cell? ⟨p, 0, none⟩ = some (.map (some b)) ∧ w.cell? ⟨p, 1, none⟩ = some (.int .i64 fu) ∧ w.cell? ⟨p, 2, none⟩ = some (.bool m.down) ∧
    w.frozen? ⟨p, 1, none⟩ = false ∧ w.frozen? ⟨p, 2, none⟩ = false ∧ w.ownsMap Try.prog 35 fileR b m.files.length (dF m.files) ∧ -9223372036854775808 ≤ fu ∧ fu ≤ 9223372036854775807 ∧ m.fuse = max fu (-1) ∧ p < w.heap.size ∧ S p := by
  obtain ⟨b, fu, hne, hS, hR, hp, ho, h1, h2, h3, ok⟩ := h
  exact ⟨b, fu, cells_cell hp rfl, cells_cell hp rfl, cells_cell hp rfl, cells_frozen hp 1, cells_frozen hp 2, ho, h1, h2, h3, (Array.getElem?_eq_some_iff.1 hp).1, (hS p).2 (.inl rfl)⟩
set_option maxRecDepth 20000 in
set_option maxHeartbeats 4000000 in
theorem act_any (fv : Value) (K : FuncId) (caps : Array Value) (hfv : fv = .func (.func K) #[] caps) (hen : ∀ args w, (callFunc K args).run Try.prog w = .ok (.enter K args) w) (g : Bool → Fl → Int × Fl)
    (w : World) (S R : Nat → Prop) (p : Nat) (m : FSm) (n : Nat) (hF : FsL w S R p m) (hb : m.files.length ≤ 1000000000) (hn : n < 4294967296) (hgn : ∀ fl x, (g fl x).2.n = x.n) (hgx : ∀ fl x, OkX x → OkX (g fl x).2)
    (hc : ∀ fl W q, Below w.heap.size w W → w.heap.size ≤ q → W.heap[q]? = some (.cells (flC (getF m.files n)) 69) →
      Calls Try.prog K (#[.pointer (some ⟨q, 0, none⟩), .bool fl] ++ caps) W fun e W' => e = .returned (.int .i64 (g fl (getF m.files n)).1) ∧ Turned W W' q (g fl (getF m.files n)).2) :
    Calls Try.prog 30 #[.pointer (some ⟨p, 0, none⟩), .int .u32 (n : Int), fv] w fun e w' => e = .returned (.int .i64 (actG m n g).2) ∧ FsL w' S R p (actG m n g).1 ∧ Off S w w' := by
  subst hfv
  have HEN := Lib.hid hen; have HGN := Lib.hid hgn; have HGX := Lib.hid hgx; have HC := Lib.hid hc; have HF := Lib.hid hF
  clear hen hgn hgx hc
  obtain ⟨b, fu, c0, c1, c2, f1, f2, ho, h1, h2, h3, hpl, hSp⟩ := hF.cells
  have HO := Lib.hid ho; have H3 := Lib.hid h3
  clear hF h3
  cases hd : m.down
  case true =>
    rw [hd] at c2
    have HE : Hid (actG m n g = (m, 7)) := by show _ = _; unfold actG; rw [if_pos hd]
    clear hd ho
    go_enter Try.func30, Try.ntmps30
    go_wp2
    go_ret
    rw [HE.out]
    exact ⟨rfl, HF.out, Off.refl _ _⟩
  case false =>
  rw [hd] at c2
  have hlk := fun w' (h : RowKit.Below w.heap.size w w') => look_any (owns_move ho (h.block b ho.lt)) HF.out.ok.1 hn
  have hgx := get_okx HF.out.ok.2.1 n
  have hgn := getF_n m.files n
  obtain ⟨x, hx⟩ : ∃ x, x = getF m.files n := ⟨_, rfl⟩
  rw [← hx] at hlk hgx hgn
  have HGX2 := Lib.hid hgx; have HGN2 := Lib.hid hgn
  have HC2 : Hid (∀ fl W q, RowKit.Below w.heap.size w W → w.heap.size ≤ q → W.heap[q]? = some (.cells (flC x) 69) →
      Calls Try.prog K (#[.pointer (some ⟨q, 0, none⟩), .bool fl] ++ caps) W fun e W' => e = .returned (.int .i64 (g fl x).1) ∧ Turned W W' q (g fl x).2) := by rw [hx]; exact HC.out
  have HA : Hid (actG m n g = if (g (fu == 0) x).1 ≠ 0 then (m, (g (fu == 0) x).1) else
      if fu = 0 then ({ m with files := putF m.files (g (fu == 0) x).2, down := true }, 7)
      else ({ m with files := putF m.files (g (fu == 0) x).2, fuse := if 0 < m.fuse then m.fuse - 1 else m.fuse }, 0)) := by
    show _ = _
    have e : (m.fuse = 0) = (fu = 0) := by have := H3.out; simp only [eq_iff_iff]; omega
    unfold actG
    rw [if_neg (by rw [hd]; simp), ← hx]
    simp only [e]
    rfl
  clear hx hgx hgn hd HC ho
  obtain ⟨er, y, hey⟩ : ∃ er y, g (fu == 0) x = (er, y) := ⟨_, _, rfl⟩
  rw [hey] at HA
  have HC3 : Hid (∀ W q, RowKit.Below w.heap.size w W → w.heap.size ≤ q → W.heap[q]? = some (.cells (flC x) 69) →
      Calls Try.prog K (#[.pointer (some ⟨q, 0, none⟩), .bool (fu == 0)] ++ caps) W fun e W' => e = .returned (.int .i64 er) ∧ Turned W W' q y) := fun W q h1 h2 h3 => by
    have := HC2.out (fu == 0) W q h1 h2 h3
    rw [hey] at this
    exact this
  have HY : Hid (y.n = n ∧ OkX y) := by
    have e1 := HGN.out (fu == 0) x; have e2 := HGX.out (fu == 0) x HGX2.out
    rw [hey] at e1 e2
    exact ⟨e1.trans HGN2.out, e2⟩
  clear hey HC2 HGN HGX HGX2 HGN2
  have k0 : ∀ w', RowKit.Below w.heap.size w w' → w'.cell? ⟨p, 0, none⟩ = some (.map (some b)) := fun w' h => (h.cell (p := ⟨p, 0, none⟩) hpl).trans c0
  have k1 : ∀ w', RowKit.Below w.heap.size w w' → w'.cell? ⟨p, 1, none⟩ = some (.int .i64 fu) := fun w' h => (h.cell (p := ⟨p, 1, none⟩) hpl).trans c1
  have hcf := HEN.out
  unfold flV at hlk
  obtain ⟨W, hW⟩ : ∃ W, W = (w.alloc (.cells (flC x) 69)).drew := ⟨_, rfl⟩
  have HBW : Hid (RowKit.Below w.heap.size w W) := by show RowKit.Below _ _ _; rw [hW]; exact Below_drew (box1 _ _)
  have HQW : Hid (W.heap[w.heap.size]? = some (.cells (flC x) 69)) := by show _ = _; rw [hW]; exact (MapKept.heap_alloc w _).1
  have HFW := Lib.hid (HF.out.below HBW.out)
  unfold flC at hW
  by_cases her : er = 0
  case neg =>
    have HE : Hid (actG m n g = (m, er)) := by show _ = _; rw [HA.out, if_pos her]
    clear HA
    go_enter Try.func30, Try.ntmps30
    go_wp2_with fail
    go_region_held_law (fun w' => RowKit.Below w.heap.size w w') (first | assumption | exact Below_drew (Below.refl _ _) | exact (Below_drew (Below.refl _ _)).alloc (by simp) _) (fail)
    all_goals
      rw [← hW]
      clear hW hlk k0 k1
      go_wp2_with fail
      refine (HC3.out W w.heap.size HBW.out (Nat.le_refl _) HQW.out).mono ?_
      rintro e w5 ⟨rfl, hT⟩
      have HT := Lib.hid hT
      clear hT
      go_wp2_with fail
      go_ret
      rw [HE.out]
      exact ⟨rfl, HFW.out.move fun k hk => HT.out.1.block k (hk.elim (HFW.out.low.1 k) (HFW.out.low.2 k)) (fun e => by
        have := hk.elim (HF.out.low.1 k) (HF.out.low.2 k); omega), (Off.of_below HBW.out).new HT.out.1 (fun k hk => .inr (Nat.le_of_eq hk.symm))⟩
  case pos =>
    subst her
    have HA2 : Hid (actG m n g = if fu = 0 then ({ m with files := putF m.files y, down := true }, 7) else ({ m with files := putF m.files y, fuse := if 0 < m.fuse then m.fuse - 1 else m.fuse }, 0)) := by
      show _ = _; rw [HA.out]; simp
    clear HA
    by_cases hf0 : fu = 0
    · subst hf0
      have HE : Hid (actG m n g = ({ m with files := putF m.files y, down := true }, 7)) := by show _ = _; rw [HA2.out]; simp
      clear HA2
      go_enter Try.func30, Try.ntmps30
      go_wp2_with fail
      go_region_held_law (fun w' => RowKit.Below w.heap.size w w') (first | assumption | exact Below_drew (Below.refl _ _) | exact (Below_drew (Below.refl _ _)).alloc (by simp) _) (fail)
      all_goals
        rw [← hW]
        clear hW hlk k0 k1
        go_wp2_with fail
        refine (HC3.out W w.heap.size HBW.out (Nat.le_refl _) HQW.out).mono ?_
        rintro e w5 ⟨rfl, hT⟩
        have HT := Lib.hid hT
        have HF5 := Lib.hid (HFW.out.move fun k hk => HT.out.1.block k (hk.elim (HFW.out.low.1 k) (HFW.out.low.2 k)) (fun e => by
          have := hk.elim (HF.out.low.1 k) (HF.out.low.2 k); omega))
        have HO5 : Hid (Off S w w5) := (Off.of_below HBW.out).new HT.out.1 (fun k hk => .inr (Nat.le_of_eq hk.symm))
        obtain ⟨e0, e1, e2, e3, _⟩ := file_cells hT.2
        clear hT
        go_wp2_with fail
        refine (show Calls Try.prog 29 #[.pointer (some ⟨p, 0, none⟩), .int .u32 (n : Int), flV y] w5 _ from by
          have := put_any w5 S R p m y HF5.out HY.out.2 (by rw [HY.out.1]; exact hn) hb
          rw [HY.out.1] at this
          exact this).mono ?_
        rintro e w6 ⟨rfl, hF6, hO6⟩
        have HF6 := Lib.hid hF6; have HO6 := Lib.hid hO6
        obtain ⟨b6, fu6, d0, d1, d2, g1, g2, _⟩ := hF6.cells
        clear hF6 hO6 e0 e1 e2 e3
        go_wp2
        go_ret
        rw [HE.out]
        exact ⟨rfl, HF6.out.fall.1, (HO5.out.trans HO6.out).trans HF6.out.fall.2⟩
    · by_cases hp0 : 0 < fu
      · have HE : Hid (actG m n g = ({ m with files := putF m.files y, fuse := m.fuse - 1 }, 0)) := by
          show _ = _
          have := H3.out
          rw [HA2.out, if_neg hf0, if_pos (by omega)]
        have hmf : fu = m.fuse := by have := H3.out; omega
        have HMF := Lib.hid hmf; clear hmf
        have hne0 : (fu == 0) = false := beq_eq_false_iff_ne.2 hf0
        rw [hne0] at HC3
        clear HA2
        go_enter Try.func30, Try.ntmps30
        go_wp2_with fail
        go_region_held_law (fun w' => RowKit.Below w.heap.size w w') (first | assumption | exact Below_drew (Below.refl _ _) | exact (Below_drew (Below.refl _ _)).alloc (by simp) _) (fail)
        all_goals
          rw [← hW]
          clear hW hlk k0 k1
          go_wp2_with fail
          refine (HC3.out W w.heap.size HBW.out (Nat.le_refl _) HQW.out).mono ?_
          rintro e w5 ⟨rfl, hT⟩
          have HT := Lib.hid hT
          have HF5 := Lib.hid (HFW.out.move fun k hk => HT.out.1.block k (hk.elim (HFW.out.low.1 k) (HFW.out.low.2 k)) (fun e => by
            have := hk.elim (HF.out.low.1 k) (HF.out.low.2 k); omega))
          have HO5 : Hid (Off S w w5) := (Off.of_below HBW.out).new HT.out.1 (fun k hk => .inr (Nat.le_of_eq hk.symm))
          obtain ⟨e0, e1, e2, e3, _⟩ := file_cells hT.2
          clear hT
          go_wp2_with fail
          refine (show Calls Try.prog 29 #[.pointer (some ⟨p, 0, none⟩), .int .u32 (n : Int), flV y] w5 _ from by
            have := put_any w5 S R p m y HF5.out HY.out.2 (by rw [HY.out.1]; exact hn) hb
            rw [HY.out.1] at this
            exact this).mono ?_
          rintro e w6 ⟨rfl, hF6, hO6⟩
          have HF6 := Lib.hid hF6; have HO6 := Lib.hid hO6
          obtain ⟨b6, fu6, d0, d1, d2, g1, g2, _, _, _, q3, _⟩ := hF6.cells
          clear hF6 hO6 e0 e1 e2 e3
          have e6 : fu6 = fu := by have h1 := q3; have h2 := HMF.out; simp only at h1; omega
          subst e6
          have i1 : -9223372036854775808 ≤ fu6 - 1 := by omega
          have i2 : fu6 - 1 ≤ 9223372036854775807 := by omega
          clear q3
          go_wp2
          go_ret
          rw [HE.out]
          have hb := HF6.out.burn (by show 0 < m.fuse; rw [← HMF.out]; exact hp0)
          simp only [← HMF.out] at hb
          have HM := HMF.out
          rw [← HMF.out]
          exact ⟨rfl, hb.1, (HO5.out.trans HO6.out).trans hb.2⟩
      · have HE : Hid (actG m n g = ({ m with files := putF m.files y }, 0)) := by
          show _ = _
          have := H3.out
          rw [HA2.out, if_neg hf0, if_neg (by omega)]
        have hne0 : (fu == 0) = false := beq_eq_false_iff_ne.2 hf0
        rw [hne0] at HC3
        clear HA2
        go_enter Try.func30, Try.ntmps30
        go_wp2_with fail
        go_region_held_law (fun w' => RowKit.Below w.heap.size w w') (first | assumption | exact Below_drew (Below.refl _ _) | exact (Below_drew (Below.refl _ _)).alloc (by simp) _) (fail)
        all_goals
          rw [← hW]
          clear hW hlk k0 k1
          go_wp2_with fail
          refine (HC3.out W w.heap.size HBW.out (Nat.le_refl _) HQW.out).mono ?_
          rintro e w5 ⟨rfl, hT⟩
          have HT := Lib.hid hT
          have HF5 := Lib.hid (HFW.out.move fun k hk => HT.out.1.block k (hk.elim (HFW.out.low.1 k) (HFW.out.low.2 k)) (fun e => by
            have := hk.elim (HF.out.low.1 k) (HF.out.low.2 k); omega))
          have HO5 : Hid (Off S w w5) := (Off.of_below HBW.out).new HT.out.1 (fun k hk => .inr (Nat.le_of_eq hk.symm))
          obtain ⟨e0, e1, e2, e3, _⟩ := file_cells hT.2
          clear hT
          go_wp2_with fail
          refine (show Calls Try.prog 29 #[.pointer (some ⟨p, 0, none⟩), .int .u32 (n : Int), flV y] w5 _ from by
            have := put_any w5 S R p m y HF5.out HY.out.2 (by rw [HY.out.1]; exact hn) hb
            rw [HY.out.1] at this
            exact this).mono ?_
          rintro e w6 ⟨rfl, hF6, hO6⟩
          have HF6 := Lib.hid hF6; have HO6 := Lib.hid hO6
          obtain ⟨b6, fu6, d0, d1, d2, g1, g2, _, _, _, q3, _⟩ := hF6.cells
          clear hF6 hO6 e0 e1 e2 e3
          have e6 : ¬ 0 < fu6 := by have h1 := q3; have h2 := H3.out; simp only at h1; omega
          clear q3
          go_wp2
          go_ret
          rw [HE.out]
          exact ⟨rfl, HF6.out, HO5.out.trans HO6.out⟩
end Go.Proofs.Ythfhmohbfoolnaa
