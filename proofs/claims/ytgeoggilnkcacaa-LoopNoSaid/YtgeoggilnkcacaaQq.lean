import Derived.Test.YtgeoggilnkcacaaQp
import Derived.Deep.CutRange
namespace Go.Proofs.Ytgeoggilnkcacaa
open Go Go.RowKit Go.Sort
set_option linter.unusedVariables false

/-! The landed code: all layers, the greatest offsets (stage 15). -/
theorem RowsT.push2 {sl el : TypeId} {B : Nat} {w W' w2 : World} {v v' u : Value} {G : List (List Int)} {vs : List Value} {g : List Int} (h : RowsT sl el B w v G vs) (hne : el ≠ sl) (hu : w.ownsRow B el 1 u g.length (intV g)) (ho1 : u.oneCell' = true) (hb : Below w.heap.size w W')
    (ho : w2.ownsRow B sl 1 v' (G.length + 1) (vs ++ [u])) (hg : W'.grownBy w2 v.ownBlock) : RowsT sl el B w2 v' (G ++ [g]) (vs ++ [u]) := by
  have hl := h.len
  have h' := h.below hb
  have hu' := own_below hu hb
  refine ⟨by rw [List.length_append]; exact ho, fun x hx => (List.mem_append.1 hx).elim (h.one x) (fun hx => by rw [List.mem_singleton.1 hx]; exact ho1), fun i hi => ?_⟩
  by_cases e : i < G.length
  · obtain ⟨x, h1, h2⟩ := h'.at_ i e
    refine ⟨x, by rw [List.getElem?_append_left (by omega)]; exact h1, ?_⟩
    rw [List.getElem_append_left e]
    exact h2.kept hg (rows_apart15 h2 h'.own hne)
  · have e2 : i = G.length := by rw [List.length_append] at hi; simp at hi; omega
    subst e2
    refine ⟨u, by rw [List.getElem?_append_right (by omega), hl]; simp, ?_⟩
    simp only [List.getElem_append_right (Nat.le_refl _), Nat.sub_self, List.getElem_cons_zero]
    exact hu'.kept hg (rows_apart15 hu' h'.own hne)
/-- All layers so far, the last one's rows, and the box that holds these. -/
structure LY (w wr : World) (b m : Nat) (x1 x2 : Value) (G1 G2 : List (List Int)) (vs1 vs2 : List Value) (A K : List Int) (a1 : Option Addr) (c1 : Nat) (a2 : Option Addr) (c2 : Nat) : Prop where
  r1 : RowsT 27 2 w.heap.size wr x1 G1 vs1
  r2 : RowsT 44 3 w.heap.size wr x2 G2 vs2
  bx : wr.ownsRow w.heap.size 53 2 (.slice (some ⟨b, 0, none⟩) 1 1) 1 [.slice a1 m c1, .slice a2 m c2]
  o1 : wr.ownsRow w.heap.size 2 1 (.slice a1 m c1) m (intV A)
  o2 : wr.ownsRow w.heap.size 3 1 (.slice a2 m c2) m (intV K)
  l1 : A.length = m
  l2 : K.length = m
  bw : Below w.heap.size w wr
section
variable {w wr : World} {b m : Nat} {x1 x2 : Value} {G1 G2 : List (List Int)} {vs1 vs2 : List Value} {A K : List Int} {a1 a2 : Option Addr} {c1 c2 : Nat}
theorem LY.below {w' : World} (h : LY w wr b m x1 x2 G1 G2 vs1 vs2 A K a1 c1 a2 c2) (hb : Below wr.heap.size wr w') : LY w w' b m x1 x2 G1 G2 vs1 vs2 A K a1 c1 a2 c2 :=
  ⟨h.r1.below hb, h.r2.below hb, own_below h.bx hb, own_below h.o1 hb, own_below h.o2 hb, h.l1, h.l2, bel2 h.bw hb⟩
theorem LY.k0 (h : LY w wr b m x1 x2 G1 G2 vs1 vs2 A K a1 c1 a2 c2) : wr.cell? ⟨b, 0, none⟩ = some (.slice a1 m c1) := h.bx.cellAt 0 (by omega)
theorem LY.k1 (h : LY w wr b m x1 x2 G1 G2 vs1 vs2 A K a1 c1 a2 c2) : wr.cell? ⟨b, 1, none⟩ = some (.slice a2 m c2) := h.bx.cellAt 1 (by omega)
theorem LY.f0 (h : LY w wr b m x1 x2 G1 G2 vs1 vs2 A K a1 c1 a2 c2) (j : Nat) : wr.frozen? ⟨b, j, none⟩ = false := h.bx.frozenAt j
theorem LY.lt (h : LY w wr b m x1 x2 G1 G2 vs1 vs2 A K a1 c1 a2 c2) : b < wr.heap.size := (own_shape h.bx rfl).2.1
theorem LY.push1 {W' w2 : World} {v' : Value} (h : LY w wr b m x1 x2 G1 G2 vs1 vs2 A K a1 c1 a2 c2) (hb : Below wr.heap.size wr W')
    (ho : w2.ownsRow w.heap.size 27 1 v' (G1.length + 1) (vs1 ++ [.slice a1 m c1])) (hg : W'.grownBy w2 x1.ownBlock) : LY w w2 b m v' x2 (G1 ++ [A]) G2 (vs1 ++ [.slice a1 m c1]) vs2 A K a1 c1 a2 c2 := by
  have h' := h.below hb
  have hs := h.bw.size
  refine ⟨h.r1.push2 (by decide) (by rw [h.l1]; exact h.o1) rfl hb ho hg, h'.r2.kept hg (rows_apart15 h'.r2.own h'.r1.own (by decide)) (fun i hi u hu => ?_), h'.bx.kept hg (rows_apart15 h'.bx h'.r1.own (by decide)), h'.o1.kept hg (rows_apart15 h'.o1 h'.r1.own (by decide)), h'.o2.kept hg (rows_apart15 h'.o2 h'.r1.own (by decide)), h.l1, h.l2, h'.bw.grown hg (Nat.le_trans hs hb.size) (fun g hg' => (own_shape h'.r1.own hg').1)⟩
  obtain ⟨u', e, ho⟩ := h'.r2.at_ i hi
  obtain rfl : u = u' := by rw [hu] at e; exact Option.some.inj e
  exact rows_apart15 ho h'.r1.own (by decide)
theorem LY.push2 {W' w2 : World} {v' : Value} (h : LY w wr b m x1 x2 G1 G2 vs1 vs2 A K a1 c1 a2 c2) (hb : Below wr.heap.size wr W')
    (ho : w2.ownsRow w.heap.size 44 1 v' (G2.length + 1) (vs2 ++ [.slice a2 m c2])) (hg : W'.grownBy w2 x2.ownBlock) : LY w w2 b m x1 v' G1 (G2 ++ [K]) vs1 (vs2 ++ [.slice a2 m c2]) A K a1 c1 a2 c2 := by
  have h' := h.below hb
  have hs := h.bw.size
  refine ⟨h'.r1.kept hg (rows_apart15 h'.r1.own h'.r2.own (by decide)) (fun i hi u hu => ?_), h.r2.push2 (by decide) (by rw [h.l2]; exact h.o2) rfl hb ho hg, h'.bx.kept hg (rows_apart15 h'.bx h'.r2.own (by decide)), h'.o1.kept hg (rows_apart15 h'.o1 h'.r2.own (by decide)), h'.o2.kept hg (rows_apart15 h'.o2 h'.r2.own (by decide)), h.l1, h.l2, h'.bw.grown hg (Nat.le_trans hs hb.size) (fun g hg' => (own_shape h'.r2.own hg').1)⟩
  obtain ⟨u', e, ho⟩ := h'.r1.at_ i hi
  obtain rfl : u = u' := by rw [hu] at e; exact Option.some.inj e
  exact rows_apart15 ho h'.r2.own (by decide)
/-- The box is written anew. -/
theorem LY.next {wr2 : World} (h : LY w wr b m x1 x2 G1 G2 vs1 vs2 A K a1 c1 a2 c2) (hb : Below wr.heap.size wr wr2) {A2 K2 : List Int} {d1 d2 : Option Addr} {e1 e2 : Nat} (o1 : wr2.ownsRow wr.heap.size 2 1 (.slice d1 m e1) m (intV A2)) (o2 : wr2.ownsRow wr.heap.size 3 1 (.slice d2 m e2) m (intV K2)) (l1 : A2.length = m) (l2 : K2.length = m) :
    LY w ((wr2.setCell ⟨b, 0, none⟩ (.slice d1 m e1)).setCell ⟨b, 1, none⟩ (.slice d2 m e2)) b m x1 x2 G1 G2 vs1 vs2 A2 K2 d1 e1 d2 e2 := by
  have h' := h.below hb
  have hs := h.bw.size
  obtain ⟨p1, p2⟩ := two_stored h'.bx (.slice d1 m e1) (.slice d2 m e2)
  have lb := (own_shape h'.bx rfl).1
  have rr : ∀ {sl el : TypeId} {v : Value} {G : List (List Int)} {vs : List Value}, RowsT sl el w.heap.size wr2 v G vs → sl ≠ 53 → el ≠ 53 → RowsT sl el w.heap.size ((wr2.setCell ⟨b, 0, none⟩ (.slice d1 m e1)).setCell ⟨b, 1, none⟩ (.slice d2 m e2)) v G vs := fun r n1 n2 =>
    ⟨p2 r.own n1, r.one, fun i hi => by obtain ⟨u, h1, h2⟩ := r.at_ i hi; exact ⟨u, h1, p2 h2 n2⟩⟩
  exact ⟨rr h'.r1 (by decide) (by decide), rr h'.r2 (by decide) (by decide), p1, p2 (own_base o1 hs) (by decide), p2 (own_base o2 hs) (by decide), l1, l2, (h'.bw.setCell (p := ⟨b, 0, none⟩) lb _).setCell (p := ⟨b, 1, none⟩) lb _⟩
end
theorem RowsT.none {sl el : TypeId} {B : Nat} {w : World} : RowsT sl el B w (.slice none 0 0) [] [] :=
  ⟨World.ownsRow_nil _ _ _ _, fun _ h => absurd h (by simp), fun i h => absurd h (Nat.not_lt_zero _)⟩
theorem lit1 (W : World) (u : Value) (t : TypeId) : Rd (W.alloc (.cells #[u] t)).drew (W.heap.size + 1) (some ⟨W.heap.size, 0, none⟩) [u] := lit_rd W #[u] t
theorem lo12 (W : World) (o : Obj) (u : Value) (t : TypeId) : ((W.alloc o).alloc (.cells #[u] t)).drew.ownsRow W.heap.size t 1 (.slice (some ⟨W.heap.size + 1, 0, none⟩) 1 1) 1 [u] := by
  have h := World.ownsRow_lit (W.alloc o) (base := W.heap.size) (e := t) (size := 1) #[u] 1 (by simp) (by decide) rfl
  rw [World.size_alloc] at h
  exact h
theorem lo21 (W : World) (o : Obj) (u : Value) (t : TypeId) : ((W.alloc (.cells #[u] t)).alloc o).drew.ownsRow W.heap.size t 1 (.slice (some ⟨W.heap.size, 0, none⟩) 1 1) 1 [u] :=
  own_below (World.ownsRow_lit W (base := W.heap.size) (e := t) (size := 1) #[u] 1 (Nat.le_refl _) (by decide) rfl) (Below_drew (box1 _ _))
theorem next_row {F : Nat} {args : Array Value} (m : Nat) (E : List Ed) (k : Nat) {W : World} (h : Calls Try.prog F args W (NextOut m (rowQ m E k) E W)) : Calls Try.prog F args W fun x w' => ∃ a1 c1 a2 c2, x = .returned (.agg #[.slice a1 m c1, .slice a2 m c2]) ∧ w'.ownsRow W.heap.size 2 1 (.slice a1 m c1) m (intV (rowQ m E (k + 1))) ∧ w'.ownsRow W.heap.size 3 1 (.slice a2 m c2) m (intV (byL m E (k + 1))) ∧ Below W.heap.size W w' :=
  h.mono fun x w' ⟨a1, c1, a2, c2, h1, h2, h3, h4⟩ => ⟨a1, c1, a2, c2, h1, by rw [rowQ]; exact h2, by rw [byL]; exact h3, h4⟩
set_option maxHeartbeats 8000000 in
theorem layers_pays15 : LayersPay 15 := by
  intro n a c E w ha hl hok hn
  obtain ⟨k9, hk9, hx0, hx1, hx2⟩ := info_parts info_row15
  obtain ⟨l0, hl0, hw0, hw1, hw2⟩ := info_parts info_row6415
  have HX2 := Lib.hid hx2; have HW2 := Lib.hid hw2; clear hx2 hw2
  have HA := Lib.hid ha; have HM := Lib.hid (may_pays15 n a c E w ha hl hok hn); clear ha hok hn
  obtain ⟨r, hr⟩ : ∃ r, mayE n E = r := ⟨_, rfl⟩
  rw [hr] at HM
  cases r with
  | false =>
    have e1 : laysL n E = [] := by unfold laysL; rw [hr]; rfl
    have e2 : bysL n E = [] := by unfold bysL; rw [hr]; rfl
    rw [e1, e2]
    go_enter Try.func15, Try.ntmps15
    go_wp2_with (go_at_call 14
                 refine HM.out.mono ?_
                 rintro x w1 ⟨rfl, hb1⟩
                 have HB1 := Lib.hid hb1; clear hb1)
    go_ret2
    exact ⟨none, 0, none, 0, rfl, fun i h => absurd h (Nat.not_lt_zero _), fun i h => absurd h (Nat.not_lt_zero _), HB1.out⟩
  | true =>
    obtain ⟨h0, h32, hE⟩ := mayE_iff.1 hr
    obtain ⟨m, rfl⟩ : ∃ m : Nat, n = (m : Int) := ⟨n.toNat, by omega⟩
    have e1 : laysL (m : Int) E = (List.range (m + 1)).map (rowQ m E) := by unfold laysL; rw [hr]; rfl
    have e2 : bysL (m : Int) E = (List.range (m + 1)).map (byL m E) := by unfold bysL; rw [hr]; rfl
    have HE := Lib.hid hE; have HG1 := Lib.hid e1; have HG2 := Lib.hid e2
    have hL1 : (laysL (m : Int) E).length = m + 1 := by rw [e1]; simp
    have hL2 : (bysL (m : Int) E).length = m + 1 := by rw [e2]; simp
    rw [hL1, hL2]
    generalize laysL (m : Int) E = G1 at *
    generalize bysL (m : Int) E = G2 at *
    clear e1 e2 hE hr hL1 hL2
    have hm32 : m ≤ 32 := by omega
    have HR1 := Lib.hid (fun W => rowOf_i64 m 0 W (by omega))
    have HR2 := Lib.hid (fun W => rowOf_int m (-1) W (by omega))
    go_enter Try.func15, Try.ntmps15
    go_upto_region 4 with (first
                 | (go_at_call 14
                    refine HM.out.mono ?_
                    rintro x w1 ⟨rfl, hb1⟩
                    have HB1 := Lib.hid hb1; clear hb1)
                 | (go_at_call 22
                    refine (HR1.out _).mono ?_
                    rintro x w2 ⟨a1, c1, rfl, ho2, hb2⟩
                    have HO2 := Lib.hid ho2; have HB2 := Lib.hid hb2; clear ho2 hb2)
                 | (go_at_call 23
                    refine (HR2.out _).mono ?_
                    rintro x w3 ⟨a2, c2, rfl, ho3, hb3⟩
                    have HO3 := Lib.hid ho3; have HB3 := Lib.hid hb3; clear ho3 hb3))
    obtain ⟨W1, hW1⟩ : ∃ W1, w3.alloc (.cells #[.slice a1 m c1, .slice a2 m c2] 53) = W1 := ⟨_, rfl⟩
    have HI : Hid (LY w W1 w3.heap.size m (.slice none 0 0) (.slice none 0 0) [] [] [] [] (rowQ m E 0) (byL m E 0) a1 c1 a2 c2) := by
      rw [← hW1]
      have b23 := HB2.out.mono HB1.out.size
      have b2 := HB1.out.trans b23
      have b3 := b2.trans (HB3.out.mono b2.size)
      exact ⟨RowsT.none, RowsT.none, own_base (layer_box _ _ _ _ rfl) b3.size, own_base (own_below (own_below HO2.out HB3.out) (box1 _ _)) HB1.out.size, own_base (own_below HO3.out (box1 _ _)) b2.size, rowQ_length _ _ _, byL_length _ _ _, b3.alloc b3.size _⟩
    obtain ⟨b6, hb6⟩ : ∃ b6, w3.heap.size = b6 := ⟨_, rfl⟩
    rw [hW1, hb6]
    rw [hb6] at HI
    clear hb6 hW1 HR1 HR2 HO2 HO3 HB2 HB3 HB1 HM
    have k0 := HI.out.k0
    have k1 := HI.out.k1
    go_cut [4, 5] from 16 (fun s4 s5 wx => ∃ x1 x2 vs1 vs2, x1 = s4 ∧ x2 = s5 ∧ LY w wx b6 m x1 x2 [rowQ m E 0] [byL m E 0] vs1 vs2 (rowQ m E 0) (byL m E 0) a1 c1 a2 c2)
    case first =>
      go_region_held_law (fun w' => w'.cell? ⟨b6, 0, none⟩ = some (.slice a1 m c1) ∧ w'.cell? ⟨b6, 1, none⟩ = some (.slice a2 m c2)) (first | exact ⟨k0, k1⟩ | exact ⟨HX7.out.k0, HX7.out.k1⟩ | exact ⟨HX8.out.k0, HX8.out.k1⟩ | go_keep) (first
        | (refine step_append_rd _ rfl (.tmp 16) (.tmp 19) 38 rfl w.heap.size 27 l0 _ 1 24 Try.underlying38 hl0 hw0 hw1 HW2.out rfl (by omega) (.slice none 0 0) (0) _ rfl (own_below HI.out.r1.own (by first | exact Below_drew (box1 _ _) | exact Below_drew ((box1 _ _).alloc (by simp) _))) _ _ 1 1 [.slice a1 m c1] rfl rfl (by first | exact lit1 _ _ _ | exact Rd.own (lo12 _ _ _ _) | exact Rd.own (lo21 _ _ _ _)) (by intro u hu; obtain rfl := List.mem_singleton.1 hu; rfl) (by unfold maxLen; omega) (by omega) (by have := HI.out.bw.size; simp; omega) ?_
           intro v7 w7 hown7 hg7 _
           have HX7 := Lib.hid (HI.out.push1 (by first | exact Below_drew (box1 _ _) | exact Below_drew ((box1 _ _).alloc (by simp) _)) hown7 hg7)
           try (have HLB := Lib.hid (Rd.own ((by first | exact lo12 W1 (.cells #[.slice a1 m c1] 27) (.slice a2 m c2) 44 | exact lo21 W1 (.cells #[.slice a1 m c1] 27) (.slice a2 m c2) 44 : World.ownsRow _ W1.heap.size 44 1 (.slice (some ⟨_, 0, none⟩) 1 1) 1 [.slice a2 m c2]).kept hg7 (by have h0 := HI.out.r1.own.2; exact rows_apart15 (by first | exact lo12 W1 (.cells #[.slice a1 m c1] 27) (.slice a2 m c2) 44 | exact lo21 W1 (.cells #[.slice a1 m c1] 27) (.slice a2 m c2) 44) (own_below HI.out.r1.own (Below_drew ((box1 _ _).alloc (by simp) _))) (by decide)))))
           obtain ⟨y7, d7, rfl, _, _, _⟩ := own_slice hown7
           clear hown7 hg7
           simp only [List.getElem_toArray, List.getElem_cons_succ, List.getElem_cons_zero])
        | (refine step_append_rd _ rfl (.tmp 21) (.tmp 24) 39 rfl w.heap.size 44 k9 _ 1 24 Try.underlying39 hk9 hx0 hx1 HX2.out rfl (by omega) (.slice none 0 0) (0) _ rfl (by first | exact HX7.out.r2.own | exact own_below HX7.out.r2.own (box1 _ _)) _ _ 1 1 [.slice a2 m c2] rfl rfl (by first | exact HLB.out | exact lit_rd _ _ _ | exact lit1 _ _ _) (by intro u hu; obtain rfl := List.mem_singleton.1 hu; rfl) (by unfold maxLen; omega) (by omega) (by have := HX7.out.bw.size; first | exact this | (simp; omega)) ?_
           intro v8 w8 hown8 hg8 _
           have HX8 := Lib.hid (HX7.out.push2 (by first | exact Below.refl _ _ | exact box1 _ _ | exact Below_drew (box1 _ _)) hown8 hg8)
           obtain ⟨y8, d8, rfl, _, _, _⟩ := own_slice hown8
           clear hown8 hg8
           simp only [List.getElem_toArray, List.getElem_cons_succ, List.getElem_cons_zero]))
      all_goals
        go_wp2_with fail
        go_meet
        case rel => exact ⟨_, _, _, _, rfl, rfl, HX8.out⟩
    case rest =>
      obtain ⟨x1, x2, vs1, vs2, e1, e2, hly⟩ := hcut
      subst e1 e2
      have HS := Lib.hid hly
      clear hly k0 k1 HI
      go_wp2_with fail
      go_loopw [4, 5, 27] (fun v4 v5 vi wr => ∃ (k : Nat) (x1 x2 : Value) (vs1 vs2 : List Value) (a1 : Option Addr) (c1 : Nat) (a2 : Option Addr) (c2 : Nat), k ≤ m ∧ vi = .int .i64 (k : Int) ∧ x1 = v4 ∧ x2 = v5 ∧ LY w wr b6 m x1 x2 ((List.range (k + 1)).map (rowQ m E)) ((List.range (k + 1)).map (byL m E)) vs1 vs2 (rowQ m E k) (byL m E k) a1 c1 a2 c2) (fun _ _ vi _ => m - (intOf vi).toNat)
      case atStart =>
        have e1 : (List.range (0 + 1)).map (rowQ m E) = [rowQ m E 0] := rfl
        have e2 : (List.range (0 + 1)).map (byL m E) = [byL m E 0] := rfl
        exact ⟨0, x1, x2, vs1, vs2, a1, c1, a2, c2, Nat.zero_le _, rfl, rfl, rfl, by rw [e1, e2]; exact HS.out⟩
      clear HS
      case round =>
        obtain ⟨k, x1, x2, vs1, vs2, a1, c1, a2, c2, hk, rfl, e1, e2, hly⟩ := hrel
        subst e1 e2
        have HL := Lib.hid hly
        have ho1 := hly.r1.own
        have ho2 := hly.r2.own
        rw [List.length_map, List.length_range] at ho1 ho2
        obtain ⟨ax, cx, rfl, _, _, _⟩ := own_slice ho1
        obtain ⟨ay, cy, rfl, _, _, _⟩ := own_slice ho2
        clear hly ho1 ho2
        generalize wr = W0 at *
        by_cases hlt : k < m
        · have i3 : (k : Int) < (m : Int) := by omega
          have k0 := HL.out.k0
          have k1 := HL.out.k1
          have HN := Lib.hid (next_row m E k (next_any m (rowQ m E k) a1 a2 c1 c2 a c E W0 (by have h := HL.out.o1; exact Rd.own h) ((HA.out.below HL.out.bw).more HL.out.bw.size) (row_Low HE.out (by omega)) (rowQ_length _ _ _) HE.out (by omega) hl))
          go_wp2_with fail
          refine HN.out.mono ?_
          rintro x w5 ⟨d1, q1, d2, q2, rfl, hp1, hp2, hb5⟩
          have hL5 := HL.out.below hb5
          have HQ := Lib.hid (HL.out.next hb5 hp1 hp2 (rowQ_length _ _ _) (byL_length _ _ _))
          have g0 := hL5.k0
          have g1 := hL5.k1
          have g2 := hL5.f0 0
          have g3 := hL5.f0 1
          have g4 := hL5.lt
          clear hp1 hp2 hb5 hL5 k0 k1 HL HN
          go_wp2_with fail
          clear g0 g1 g2 g3 g4
          obtain ⟨W1, hW1⟩ : ∃ W1, (w5.setCell ⟨b6, 0, none⟩ (.slice d1 m q1)).setCell ⟨b6, 1, none⟩ (.slice d2 m q2) = W1 := ⟨_, rfl⟩
          rw [hW1] at HQ ⊢
          clear hW1
          have hG1 : ((List.range (k + 1)).map (rowQ m E)).length = k + 1 := by simp
          have hG2 : ((List.range (k + 1)).map (byL m E)).length = k + 1 := by simp
          have HI := HQ
          have k0 := HI.out.k0
          have k1 := HI.out.k1
          clear HQ
          go_region_held_law (fun w' => w'.cell? ⟨b6, 0, none⟩ = some (.slice d1 m q1) ∧ w'.cell? ⟨b6, 1, none⟩ = some (.slice d2 m q2)) (first | exact ⟨k0, k1⟩ | exact ⟨HX7.out.k0, HX7.out.k1⟩ | exact ⟨HX8.out.k0, HX8.out.k1⟩ | go_keep) (first
            | (refine step_append_rd _ rfl (.tmp 32) (.tmp 35) 38 rfl w.heap.size 27 l0 _ 1 24 Try.underlying38 hl0 hw0 hw1 HW2.out rfl (by omega) (.slice ax (k + 1) cx) (((List.range (k + 1)).map (rowQ m E)).length) _ rfl (own_below HI.out.r1.own (by first | exact Below_drew (box1 _ _) | exact Below_drew ((box1 _ _).alloc (by simp) _))) _ _ 1 1 [.slice d1 m q1] rfl rfl (by first | exact lit1 _ _ _ | exact Rd.own (lo12 _ _ _ _) | exact Rd.own (lo21 _ _ _ _)) (by intro u hu; obtain rfl := List.mem_singleton.1 hu; rfl) (by unfold maxLen; omega) (by omega) (by have := HI.out.bw.size; simp; omega) ?_
               intro v7 w7 hown7 hg7 _
               have HX7 := Lib.hid (HI.out.push1 (by first | exact Below_drew (box1 _ _) | exact Below_drew ((box1 _ _).alloc (by simp) _)) hown7 hg7)
               try (have HLB := Lib.hid (Rd.own ((by first | exact lo12 W1 (.cells #[.slice d1 m q1] 27) (.slice d2 m q2) 44 | exact lo21 W1 (.cells #[.slice d1 m q1] 27) (.slice d2 m q2) 44 : World.ownsRow _ W1.heap.size 44 1 (.slice (some ⟨_, 0, none⟩) 1 1) 1 [.slice d2 m q2]).kept hg7 (by have h0 := HI.out.r1.own.2; exact rows_apart15 (by first | exact lo12 W1 (.cells #[.slice d1 m q1] 27) (.slice d2 m q2) 44 | exact lo21 W1 (.cells #[.slice d1 m q1] 27) (.slice d2 m q2) 44) (own_below HI.out.r1.own (Below_drew ((box1 _ _).alloc (by simp) _))) (by decide)))))
               obtain ⟨y7, d7, rfl, _, _, _⟩ := own_slice hown7
               clear hown7 hg7
               simp only [List.getElem_toArray, List.getElem_cons_succ, List.getElem_cons_zero])
            | (refine step_append_rd _ rfl (.tmp 37) (.tmp 40) 39 rfl w.heap.size 44 k9 _ 1 24 Try.underlying39 hk9 hx0 hx1 HX2.out rfl (by omega) (.slice ay (k + 1) cy) (((List.range (k + 1)).map (byL m E)).length) _ rfl (by first | exact HX7.out.r2.own | exact own_below HX7.out.r2.own (box1 _ _)) _ _ 1 1 [.slice d2 m q2] rfl rfl (by first | exact HLB.out | exact lit_rd _ _ _ | exact lit1 _ _ _) (by intro u hu; obtain rfl := List.mem_singleton.1 hu; rfl) (by unfold maxLen; omega) (by omega) (by have := HX7.out.bw.size; first | exact this | (simp; omega)) ?_
               intro v8 w8 hown8 hg8 _
               have HX8 := Lib.hid (HX7.out.push2 (by first | exact Below.refl _ _ | exact box1 _ _ | exact Below_drew (box1 _ _)) hown8 hg8)
               obtain ⟨y8, d8, rfl, _, _, _⟩ := own_slice hown8
               clear hown8 hg8
               simp only [List.getElem_toArray, List.getElem_cons_succ, List.getElem_cons_zero]))
          all_goals
            go_wp2_with fail
            go_roundw
            case rel => exact ⟨k + 1, _, _, _, _, d1, q1, d2, q2, by omega, by go_num, rfl, rfl, by have h := HX8.out; rw [hG1, hG2] at h; rw [range_map_take (k + 1), range_map_take (k + 1)]; exact h⟩
            case measure => simp [intOf]; omega
        · obtain rfl : m = k := by omega
          have hr1 := HL.out.r1
          have hr2 := HL.out.r2
          have hG1 : G1.length = m + 1 := by rw [HG1.out]; simp
          have hG2 : G2.length = m + 1 := by rw [HG2.out]; simp
          rw [← HG1.out, ← hG1] at hr1
          rw [← HG2.out, ← hG2] at hr2
          have HF1 := Lib.hid hr1.rd
          have HF2 := Lib.hid hr2.rd
          clear hr1 hr2 hG1 hG2
          go_wp2_with fail
          go_ret2
          exact ⟨ax, cx, ay, cy, rfl, HF1.out, HF2.out, HL.out.bw⟩
end Go.Proofs.Ytgeoggilnkcacaa

