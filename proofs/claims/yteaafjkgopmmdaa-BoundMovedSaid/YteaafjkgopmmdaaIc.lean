import Derived.Test.YteaafjkgopmmdaaIb
import Derived.Test.YteaafjkgopmmdaaGx
import Derived.Test.YteaafjkgopmmdaaBb
import Derived.Test.YteaafjkgopmmdaaEa
namespace Go.Proofs.Yteaafjkgopmmdaa
open Go Go.RowKit Go.Sort
set_option maxRecDepth 20000
set_option linter.unusedVariables false

/-! The edges of pairs: the document's Of (stage 14). -/
/-- The number of the host of a place. -/
def numP (L : List Sp) (x : Int) : Int := (numL L).getD x.toNat 0
def edgesAt (L : List Sp) (p : Pr) : List Ed :=
  match gapsL L p with
  | some (x, y) => [⟨numP L p.server, numP L p.client, x, p.client, p.server, false⟩, ⟨numP L p.client, numP L p.server, y, p.client, p.server, true⟩]
  | none => []
def edgesL (L : List Sp) (ps : List Pr) : List Ed := ps.flatMap (edgesAt L)
/-- Those of the first pairs. -/
def edgesN (L : List Sp) (ps : List Pr) (k : Nat) : List Ed := (ps.take k).flatMap (edgesAt L)
theorem edgesN_all (L : List Sp) (ps : List Pr) : edgesN L ps ps.length = edgesL L ps := by unfold edgesN edgesL; rw [List.take_length]
theorem edges_take {L : List Sp} {ps : List Pr} {k : Nat} (h : k < ps.length) : edgesN L ps (k + 1) = edgesN L ps k ++ edgesAt L ps[k] := by
  unfold edgesN
  rw [List.take_succ_eq_append_getElem h, List.flatMap_append]; simp
theorem edgesAt_len (L : List Sp) (p : Pr) : (edgesAt L p).length ≤ 2 := by
  unfold edgesAt; split <;> simp
theorem edges_le (L : List Sp) : ∀ ps : List Pr, (edgesL L ps).length ≤ 2 * ps.length
  | [] => Nat.le_refl _
  | p :: r => by
    have h1 := edgesAt_len L p
    have h2 := edges_le L r
    show (edgesAt L p ++ edgesL L r).length ≤ _
    rw [List.length_append, List.length_cons]; omega
theorem edges_take_le (L : List Sp) (ps : List Pr) (k : Nat) : (edgesN L ps k).length ≤ 2 * ps.length := by
  have h1 := edges_le L (ps.take k)
  have h2 : (ps.take k).length ≤ ps.length := by rw [List.length_take]; omega
  show (edgesL L (ps.take k)).length ≤ _
  omega
/-- What a pair with gaps is. -/
theorem gaps_some_at {L : List Sp} {p : Pr} {z : Int × Int} (h : gapsL L p = some z) : ∃ n m : Nat, p.client = (n : Int) ∧ p.server = (m : Int) ∧ n < L.length ∧ m < L.length := by
  unfold gapsL at h
  cases hc : atP L p.client with
  | none => rw [hc] at h; cases h
  | some c =>
    cases hs : atP L p.server with
    | none => rw [hc, hs] at h; cases h
    | some s =>
      obtain ⟨n, hn, e1, _⟩ := atP_some hc
      obtain ⟨m, hm, e2, _⟩ := atP_some hs
      exact ⟨n, m, e1, e2, hn, hm⟩
theorem numP_is {L : List Sp} {n : Nat} (h : n < (numL L).length) : numP L (n : Int) = (numL L)[n] := by
  unfold numP; rw [Int.toNat_natCast]; simp [List.getD, h]
/-- What an Of pays. -/
def EdgesPay (F : Nat) : Prop := ∀ (a : Option Addr) (c : Nat) (L : List Sp) (b : Option Addr) (d : Nat) (ps : List Pr) (w : World), Rd w w.heap.size a (flatL L) → Rd w w.heap.size b (prsV ps) → L.length ≤ 100000 → ps.length ≤ 100000 → (∀ s ∈ L, s.Ok) →
  Calls Try.prog F #[.slice a L.length c, .slice b ps.length d] w fun e w' => ∃ a1 c1, e = .returned (.slice a1 (edgesL L ps).length c1) ∧ Rd w' w'.heap.size a1 (edsV (edgesL L ps)) ∧ Below w.heap.size w w'
theorem app_cell {w4 w5 w7 : World} {o : Obj} {row : Option Nat} (hg : (w5.alloc o).grownBy w7 row) (hb : Below w4.heap.size w4 w5) {b off : Nat} (hlt : b < w4.heap.size) (hne : some b ≠ row) : w7.cell? ⟨b, off, none⟩ = w4.cell? ⟨b, off, none⟩ := by
  have hs := hb.size
  rw [hg.cell_far ⟨b, off, none⟩ (by simp; omega) hne]
  exact (hb.trans ((box1 w5 o).mono hs)).cell (p := ⟨b, off, none⟩) hlt
theorem ne_own {w : World} {base : Nat} {e : TypeId} {size : Nat} {v : Value} {n : Nat} {xs : List Value} (h : w.ownsRow base e size v n xs) {b : Nat} (hb : b < base ∨ w.heap.size ≤ b) : (some b : Option Nat) ≠ v.ownBlock := fun he => by
  obtain ⟨h1, h2, _⟩ := own_shape h he.symm
  omega
theorem ne_own_at {b n : Nat} {r r' : Option Nat} (h : r' = r ∨ r' = some n) (hne : (some b : Option Nat) ≠ r) (hb : b < n) : (some b : Option Nat) ≠ r' := by
  rcases h with h | h
  · rw [h]; exact hne
  · rw [h]; intro e; injection e with e; omega
theorem _root_.Go.RowKit.Below.app {B : Nat} {a w w7 : World} {o : Obj} {row : Option Nat} (h : RowKit.Below B a w) (hg : (w.alloc o).grownBy w7 row) (hB : B ≤ w.heap.size) (hr : ∀ g, row = some g → B ≤ g) : RowKit.Below B a w7 :=
  (h.alloc hB o).grown hg (by simp; omega) hr
set_option maxHeartbeats 16000000 in
theorem refEdges_from (a : Option Addr) (c : Nat) (L : List Sp) (b : Option Addr) (d : Nat) (ps : List Pr) (w : World) (ha : Rd w w.heap.size a (flatL L)) (hb : Rd w w.heap.size b (prsV ps)) (hl : L.length ≤ 100000) (hp : ps.length ≤ 100000) (hok : ∀ s ∈ L, s.Ok) :
    Calls Try.prog 13 #[.slice a L.length c, .slice b ps.length d] w fun e w' => ∃ a1 c1, e = .returned (.slice a1 (edgesL L ps).length c1) ∧ Rd w' w'.heap.size a1 (edsV (edgesL L ps)) ∧ From w.heap.size a1 ∧ Below w.heap.size w w' := by
  obtain ⟨i0, hi0, hz0, hz1, hz2⟩ := info_parts info_edge
  have HZ2 := Lib.hid hz2; clear hz2
  have HA := Lib.hid ha; have HB := Lib.hid hb; have HOK := Lib.hid hok; clear ha hb hok
  go_enter Try.func13, Try.ntmps13
  go_wp2_with fail
  refine (refNums_any a c L w HA.out hl HOK.out).mono ?_
  rintro x w1 ⟨v1, rfl, hown1, hb1⟩
  obtain ⟨an, cn, rfl, _, _, _⟩ := own_slice hown1
  have HN := Lib.hid (Rd.own hown1)
  have HB1 := Lib.hid hb1
  have HA1 := Lib.hid ((HA.out.below hb1).more hb1.size)
  have HP1 := Lib.hid ((HB.out.below hb1).more hb1.size)
  clear hown1 hb1
  go_wp2_with fail
  have HO0 : Hid ((w1.alloc (.cells #[] 37)).ownsRow w1.heap.size 37 6 (.slice (some ⟨w1.heap.size, 0, none⟩) 0 0) 0 []) := World.ownsRow_made w1 #[] 0 (Nat.le_refl _) (by decide) rfl
  go_loopw [6, 7] (fun v i wr => ∃ (k : Nat) (v' : Value), k ≤ ps.length ∧ i = .int .i64 (k : Int) ∧ v' = v ∧ wr.ownsRow w1.heap.size 37 6 v' (edgesN L ps k).length (edsV (edgesN L ps k)) ∧ Below w1.heap.size w1 wr) (fun _ i _ => ps.length - (intOf i).toNat)
  case atStart => exact ⟨0, _, Nat.zero_le _, rfl, rfl, HO0.out, box1 _ _⟩
  clear HO0
  case round =>
    obtain ⟨k, v, hk, rfl, hv, hown, hbw⟩ := hrel
    subst hv
    obtain ⟨va, vc, rfl, _, _, _⟩ := own_slice hown
    have HO := Lib.hid hown; have HW := Lib.hid hbw
    have hBs := hbw.size
    have hkl := edges_take_le L ps k
    clear hown hbw
    generalize wr = W2 at *
    by_cases hlt : k < ps.length
    · obtain ⟨b2, o2, hb2, _, e0, e1⟩ := (HP1.out.below HW.out).pr hlt
      subst hb2
      have HTK := Lib.hid (edges_take (L := L) hlt)
      generalize ps[k] = p at *
      obtain ⟨G0, hG0⟩ : ∃ G0, edgesN L ps k = G0 := ⟨_, rfl⟩
      obtain ⟨q, hq⟩ : ∃ q, G0.length = q := ⟨_, rfl⟩
      rw [hG0, hq] at HO
      rw [hG0] at HTK hkl ⊢
      rw [hq] at hkl ⊢
      have HQ := Lib.hid hq
      clear hG0 hq
      obtain ⟨x, y⟩ := p
      simp only at e0 e1
      have i3 : (k : Int) < (ps.length : Int) := by omega
      have i4 : (0 : Int) ≤ (k : Int) := by omega
      have h12 := HB1.out.size
      have hlN := numL_length L
      go_wp2_with fail
      have HG := Lib.hid (refGaps_any a c L ⟨x, y⟩ (W2.alloc (.cells #[.int .i64 x, .int .i64 y] 35)) (((HA1.out.below HW.out).below ((box1 W2 _).mono hBs)).more (by simp; omega)) hl HOK.out)
      have q0 : (W2.alloc (.cells #[.int .i64 x, .int .i64 y] 35)).cell? ⟨W2.heap.size, 0, none⟩ = some (.int .i64 x) := by simp
      have q1 : (W2.alloc (.cells #[.int .i64 x, .int .i64 y] 35)).cell? ⟨W2.heap.size, 1, none⟩ = some (.int .i64 y) := by simp
      have HW3 : Hid (Below w1.heap.size w1 (W2.alloc (.cells #[.int .i64 x, .int .i64 y] 35))) := HW.out.alloc hBs _
      have HO3 := Lib.hid (own_below HO.out (box1 W2 (.cells #[.int .i64 x, .int .i64 y] 35)))
      have hs3 : W2.heap.size < (W2.alloc (.cells #[.int .i64 x, .int .i64 y] 35)).heap.size := by simp
      generalize W2.alloc (.cells #[.int .i64 x, .int .i64 y] 35) = W3 at *
      cases hgp : gapsL L ⟨x, y⟩ with
      | none =>
        have HE : Hid (edgesAt L ⟨x, y⟩ = []) := by show _ = _; unfold edgesAt; rw [hgp]
        rw [HE.out, List.append_nil] at HTK
        rw [hgp] at HG
        clear hgp HE
        refine HG.out.mono ?_
        rintro z w4 ⟨rfl, hb4⟩
        have HW4 := Lib.hid (HW3.out.trans (hb4.mono (by omega)))
        have HO4 := Lib.hid (own_below HO3.out hb4)
        clear hb4
        unfold gapsV
        go_wp2_with fail
        go_roundw
        case rel => exact ⟨k + 1, _, by omega, by go_num, rfl, by rw [HTK.out, HQ.out]; exact HO4.out, HW4.out⟩
        case measure => simp [intOf]; omega
      | some z =>
        obtain ⟨z1, z2⟩ := z
        obtain ⟨n, m, e2, e3, hn, hm⟩ := gaps_some_at hgp
        simp only at e2 e3
        subst e2 e3
        have HE : Hid (edgesAt L ⟨(n : Int), (m : Int)⟩ = [⟨numP L (m : Int), numP L (n : Int), z1, (n : Int), (m : Int), false⟩] ++ [⟨numP L (n : Int), numP L (m : Int), z2, (n : Int), (m : Int), true⟩]) := by show _ = _; unfold edgesAt; rw [hgp]; rfl
        rw [HE.out, ← List.append_assoc] at HTK
        rw [hgp] at HG
        clear hgp HE
        refine HG.out.mono ?_
        rintro z w4 ⟨rfl, hb4⟩
        have q0 := (hb4.cell (p := ⟨W2.heap.size, 0, none⟩) hs3).trans q0
        have q1 := (hb4.cell (p := ⟨W2.heap.size, 1, none⟩) hs3).trans q1
        have HW4 := Lib.hid (HW3.out.trans (hb4.mono (by omega)))
        have HO4 := Lib.hid (own_below HO3.out hb4)
        have hs4 := hb4.size
        have HNB := Lib.hid (ne_own HO.out (b := W2.heap.size) (.inr (Nat.le_refl _)))
        clear hb4
        obtain ⟨b5, o5, hb5, hlb5, d5⟩ := (HN.out.below HW4.out).num (i := n) (by rw [hlN]; exact hn)
        obtain ⟨b6, o6, hb6, _, d6⟩ := (HN.out.below HW4.out).num (i := m) (by rw [hlN]; exact hm)
        subst hb5
        obtain ⟨rfl, rfl⟩ := And.intro (Addr.mk.inj (Option.some.inj hb6)).1 (Addr.mk.inj (Option.some.inj hb6)).2.1
        rw [← numP_is (by rw [hlN]; exact hn)] at d5
        rw [← numP_is (by rw [hlN]; exact hm)] at d6
        generalize numP L (n : Int) = hn1 at *
        generalize numP L (m : Int) = hm1 at *
        unfold gapsV
        have hlw4 : W2.heap.size < w4.heap.size := by omega
        have hlb5' : b5 < w4.heap.size := by omega
        have j1 : (n : Int) < (L.length : Int) := by omega
        have j2 : (0 : Int) ≤ (n : Int) := by omega
        have j3 : (m : Int) < (L.length : Int) := by omega
        have j4 : (0 : Int) ≤ (m : Int) := by omega
        have hcg : ∀ d os m o, m < w4.heap.size → (grow (redrawn w4 d) os).cell? ⟨m, o, none⟩ = w4.cell? ⟨m, o, none⟩ := fun d os m o h => (below_regrown w4 d os).cell h
        clear hb6
        go_wp2_with fail
        refine wp_region_move_tail 14 (.tmp 6) (by kernel_rfl) (by kernel_rfl) rfl rfl (fun _ _ _ _ h => h) ?_
        simp only [List.take_succ_cons, List.take_zero, List.drop_succ_cons, List.drop_zero, Nat.reduceSub]
        simp only [Act.put, Act.eval, List.setIfInBounds_toArray, List.set_cons_succ, List.set_cons_zero, Array.getD_eq_getD_getElem?, List.getElem?_toArray, List.getElem?_cons_succ, List.getElem?_cons_zero, Option.getD_some]
        iterate 13 (first | go_big_quiet_step (fail) | fail)
        refine wpQuiet_nil ?_
        intro W5 hw5
        obtain ⟨⟨d5', os5⟩, hw5'⟩ := hw5
        have hb5 := below_regrown w4 d5' os5
        rw [← hw5'] at hb5
        have HB5 := Lib.hid hb5
        have hs5 := hb5.size
        clear hw5' hcg hb5
        have HNB5 := Lib.hid (ne_own HO4.out (b := b5) (.inl hlb5))
        have HO5 := Lib.hid (own_below HO4.out HB5.out)
        go_wp2_with (first
            | (at_builtin
               refine wpList_append_rd _ rfl (.tmp 33) (.tmp 47) 30 rfl w1.heap.size 37 i0 _ 6 48 Try.underlying30 hi0 hz0 hz1 HZ2.out rfl (by omega) (.slice va q vc) q _ rfl (own_below HO5.out (box1 _ _)) _ _ 1 1 (Ed.c ⟨hm1, hn1, z1, (n : Int), (m : Int), false⟩).toList rfl rfl (lit_rd W5 (Ed.c ⟨hm1, hn1, z1, (n : Int), (m : Int), false⟩) _) (ed_one _) (by unfold maxLen; omega) (by omega) (by simp; omega) ?_
               intro v7 w7 hown7 hg7 hat7
               have q0 := (app_cell hg7 HB5.out hlw4 HNB.out).trans q0
               have q1 := (app_cell hg7 HB5.out hlw4 HNB.out).trans q1
               have d5 := (app_cell hg7 HB5.out hlb5' HNB5.out).trans d5
               have d6 := (app_cell hg7 HB5.out hlb5' HNB5.out).trans d6
               have HG7 := Lib.hid ((HW4.out.trans (HB5.out.mono (by omega))).app hg7 (by omega) (fun g hg => (own_shape HO4.out hg).1))
               have hs7 := hg7.size
               have hlw7 : W2.heap.size < w7.heap.size := by simp at hs7; omega
               have hlb7 : b5 < w7.heap.size := by omega
               have HNB7 := Lib.hid (ne_own_at hat7 HNB.out (by simp; omega))
               have HNB57 := Lib.hid (ne_own_at hat7 HNB5.out (by simp; omega))
               have HO7 := Lib.hid hown7
               clear hg7 hat7 hown7))
        have hcg : ∀ d os m o, m < w7.heap.size → (grow (redrawn w7 d) os).cell? ⟨m, o, none⟩ = w7.cell? ⟨m, o, none⟩ := fun d os m o h => (below_regrown w7 d os).cell h
        refine wp_region_move_tail 14 (.tmp 6) (by kernel_rfl) (by kernel_rfl) rfl rfl (fun _ _ _ _ h => h) ?_
        simp only [List.take_succ_cons, List.take_zero, List.drop_succ_cons, List.drop_zero, Nat.reduceSub]
        simp only [Act.put, Act.eval, List.setIfInBounds_toArray, List.set_cons_succ, List.set_cons_zero, Array.getD_eq_getD_getElem?, List.getElem?_toArray, List.getElem?_cons_succ, List.getElem?_cons_zero, Option.getD_some]
        iterate 13 (first | go_big_quiet_step (fail) | fail)
        refine wpQuiet_nil ?_
        intro W8 hw8
        obtain ⟨⟨d8', os8⟩, hw8'⟩ := hw8
        have hb8 := below_regrown w7 d8' os8
        rw [← hw8'] at hb8
        have HB8 := Lib.hid hb8
        have hs8 := hb8.size
        clear hw8' hcg hb8
        have HO8 := Lib.hid (own_below HO7.out HB8.out)
        go_wp2_with (first
            | (at_builtin
               refine wpList_append_rd _ rfl (.tmp 49) (.tmp 63) 30 rfl w1.heap.size 37 i0 _ 6 48 Try.underlying30 hi0 hz0 hz1 HZ2.out rfl (by omega) v7 (q + 1) _ rfl (own_below HO8.out (box1 _ _)) _ _ 1 1 (Ed.c ⟨hn1, hm1, z2, (n : Int), (m : Int), true⟩).toList rfl rfl (lit_rd W8 (Ed.c ⟨hn1, hm1, z2, (n : Int), (m : Int), true⟩) _) (ed_one _) (by unfold maxLen; omega) (by omega) (by simp; omega) ?_
               intro v9 w9 hown9 hg9 hat9
               have HG9 := Lib.hid ((HG7.out.trans (HB8.out.mono (by omega))).app hg9 (by omega) (fun g hg => (own_shape HO7.out hg).1))
               have HO9 := Lib.hid hown9
               clear hg9 hat9 hown9))
        go_roundw
        case rel =>
          refine ⟨k + 1, _, by omega, by go_num, rfl, ?_, HG9.out⟩
          rw [HTK.out, List.length_append, List.length_append, HQ.out, edsV_append, edsV_append, edsV_single, edsV_single]
          exact HO9.out
        case measure => simp [intOf]; omega
    · obtain rfl : k = ps.length := by omega
      rw [edgesN_all] at HO
      have HL := Lib.hid (edges_le L ps)
      go_wp2_with fail
      go_ret
      exact ⟨va, vc, by show Ending.returned (Value.slice va (edgesN L ps ps.length).length vc) = _; rw [edgesN_all], Rd.own HO.out, (own_from HO.out).base HB1.out.size, bel2 HB1.out HW.out⟩
theorem refEdges_any : EdgesPay 13 := fun a c L b d ps w ha hb hl hp hok => (refEdges_from a c L b d ps w ha hb hl hp hok).mono fun _ _ h => by
  obtain ⟨a1, c1, h1, h2, _, h3⟩ := h
  exact ⟨a1, c1, h1, h2, h3⟩
end Go.Proofs.Yteaafjkgopmmdaa

