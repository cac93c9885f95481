import Derived.Test.YtkjngmlebflffaaAb
import Derived.Test.YtkjngmlebflffaaGn
import Derived.Test.YtkjngmlebflffaaAh
namespace Go.Proofs.Ytkjngmlebflffaa
open Go Go.RowKit Go.Sort
set_option linter.unusedVariables false

/-! The landed code: Kids; the rows of all kids (stage 11). -/
set_option maxHeartbeats 2000000 in
theorem kids_any : KidsPay 14 := by
  intro a c P x w ha hl
  obtain ⟨i0, hi0, hz0, hz1, hz2⟩ := info_parts info_int
  have HZ2 := Lib.hid hz2; clear hz2
  have HA := Lib.hid ha; clear ha
  go_enter Try.func14, Try.ntmps14
  go_wp2_with fail
  go_loopw [5, 10] (fun v i wr => ∃ (n : Nat) (v' : Value), n ≤ P.length ∧ i = .int .i64 n ∧ v' = v ∧ wr.ownsRow w.heap.size 3 1 v' (kidsN P x n).length (intV (natI (kidsN P x n))) ∧ Below w.heap.size w wr) (fun _ i _ => P.length - (intOf i).toNat)
  case atStart =>
    exact ⟨0, _, Nat.zero_le _, rfl, rfl, World.ownsRow_nil _ _ _ _, Below.refl _ _⟩
  case round =>
    obtain ⟨n, v, hn, rfl, hv, hown, hb⟩ := hrel
    subst hv
    obtain ⟨va, vc, rfl, _, _, _⟩ := own_slice hown
    have HO := Lib.hid hown; have HB := Lib.hid hb; clear hown hb
    have hkl := kidsN_le P x n
    generalize wr = W1 at *
    by_cases hlt : n < P.length
    · obtain ⟨b1, o1, ha1, _, c0⟩ := (HA.out.below HB.out).num hlt
      subst ha1
      have i3 : (n : Int) < (P.length : Int) := by omega
      have i4 : (0 : Int) ≤ (n : Int) := by omega
      have HY := Lib.hid (fun e => kidsN_yes (x := x) hlt e)
      have HN := Lib.hid (fun e => kidsN_no (x := x) hlt e)
      generalize P[n] = y at *
      by_cases hy : y = x
      · have q1 : (y == x) = true := by simpa using hy
        have HK := Lib.hid (HY.out hy)
        clear hy HY HN
        go_wp2_with (at_builtin
                     refine wpList_append_rd _ rfl (.tmp 18) (.tmp 20) 22 rfl w.heap.size 3 i0 _ 1 8 Try.underlying22 hi0 hz0 hz1 HZ2.out rfl (by omega) (.slice va (kidsN P x n).length vc) (kidsN P x n).length _ rfl (own_below HO.out (box1 _ _)) _ _ 1 1 [.int .i64 (n : Int)] rfl rfl (lit_rd W1 #[.int .i64 (n : Int)] _) (by intro u hu; obtain rfl := List.mem_singleton.1 hu; rfl) (by unfold maxLen; omega) (by omega) (by have := HB.out.size; simp; omega) ?_
                     intro v4 w4 hown4 hg4 _
                     have HO4 := Lib.hid hown4; have HG4 := Lib.hid hg4; clear hown4 hg4)
        go_roundw
        case rel => exact ⟨n + 1, _, by omega, by go_num, rfl, by rw [HK.out, List.length_append, natI_snoc]; exact HO4.out, (HB.out.alloc HB.out.size _).grown HG4.out (by have := HB.out.size; simp; omega) (fun g hg => (own_shape HO.out hg).1)⟩
        case measure => simp [intOf]; omega
      · have q1 : (y == x) = false := by simpa using hy
        have HK := Lib.hid (HN.out hy)
        clear hy HY HN
        go_wp2_with fail
        go_roundw
        case rel => exact ⟨n + 1, _, by omega, by go_num, rfl, by rw [HK.out]; exact HO.out, HB.out⟩
        case measure => simp [intOf]; omega
    · obtain rfl : n = P.length := by omega
      have HOO := HO.out
      rw [kidsN_all] at HOO
      have HOF := Lib.hid HOO; clear HOO
      go_wp2_with fail
      go_ret
      exact ⟨_, rfl, HOF.out, HB.out⟩

/-- The kids of none, and behind them those of each place. -/
def kd (P : List Int) (j : Nat) : List Nat := kidsL P ((j : Int) - 1)
def kdN (P : List Int) (n j : Nat) : List Nat := kidsN P ((j : Int) - 1) n
theorem kdN_all (P : List Int) (j : Nat) : kdN P P.length j = kd P j := rfl
theorem kdN_zero (P : List Int) (j : Nat) : kdN P 0 j = [] := rfl
theorem kdN_le (P : List Int) (n j : Nat) : (kdN P n j).length ≤ n := kidsN_le P _ n
/-- All rows of kids, the first places being gone through. -/
structure GI (w wr : World) (P : List Int) (n c : Nat) (vs : List Value) : Prop where
  ow : wr.ownsRow w.heap.size 22 1 (.slice (some ⟨w.heap.size, 0, none⟩) (P.length + 1) c) (P.length + 1) vs
  at_ : ∀ j : Nat, j < P.length + 1 → ∃ u : Value, vs[j]? = some u ∧ wr.ownsRow (w.heap.size + 1) 3 1 u (kdN P n j).length (intV (natI (kdN P n j)))
  ap : ∀ (i j : Nat) (u v : Value), i ≠ j → vs[i]? = some u → vs[j]? = some v → Apart u v
  bw : Below w.heap.size w wr
theorem GI.lt {w wr : World} {P : List Int} {n c : Nat} {vs : List Value} (h : GI w wr P n c vs) : w.heap.size < wr.heap.size := (own_shape h.ow rfl).2.1
/-- One place more among its parent's kids. -/
theorem GI.push {w wr w4 : World} {P : List Int} {n c j : Nat} {vs : List Value} {u u4 : Value} (h : GI w wr P n c vs) (o : Obj) (hj : j < P.length + 1) (hu : vs[j]? = some u) (hn : n < P.length) (hP : P[n] = (j : Int) - 1)
    (ho : w4.ownsRow (w.heap.size + 1) 3 1 u4 ((kdN P n j).length + 1) (intV (natI (kdN P n j)) ++ [.int .i64 (n : Int)])) (hg : (wr.alloc o).grownBy w4 u.ownBlock)
    (hat : u4.ownBlock = u.ownBlock ∨ u4.ownBlock = some (wr.alloc o).heap.size) : GI w (w4.setCell ⟨w.heap.size, j, none⟩ u4) P (n + 1) c (vs.set j u4) := by
  have hlt := h.lt
  have hvl : vs.length = P.length + 1 := by have := h.ow.1; omega
  obtain ⟨u', e, hu1⟩ := h.at_ j hj
  obtain rfl : u = u' := by rw [hu] at e; exact Option.some.inj e
  have hub : ∀ g, u.ownBlock = some g → w.heap.size + 1 ≤ g := fun g hg' => (own_shape hu1 hg').1
  have hne : (some w.heap.size : Option Nat) ≠ u.ownBlock := fun e => by
    have := hub w.heap.size e.symm; omega
  have how4 := (own_below h.ow (box1 wr o)).kept hg (.inr hne)
  obtain ⟨h1, h2⟩ := how4.stored j u4
  have far : ∀ {x : Value} {m : Nat} {xs : List Value} {w' : World}, w'.ownsRow (w.heap.size + 1) 3 1 x m xs → x.ownBlock = none ∨ x.ownBlock ≠ some w.heap.size := fun {x m xs w'} hx => by
    cases hk : x.ownBlock with
    | none => exact .inl rfl
    | some k => exact .inr fun e => by have := (own_shape hx hk).1; injection e with e; omega
  have hyes : kdN P (n + 1) j = kdN P n j ++ [n] := kidsN_yes hn hP
  refine ⟨h1, fun i hi => ?_, fun a b x y hab hx hy => ?_, ?_⟩
  · by_cases e : i = j
    · subst e
      refine ⟨u4, by rw [List.getElem?_set_self (by omega)], ?_⟩
      rw [hyes, List.length_append, natI_snoc]
      exact ho.kept h2 (far ho)
    · obtain ⟨x, hx, hx1⟩ := h.at_ i hi
      have hno : kdN P (n + 1) i = kdN P n i := kidsN_no hn (by rw [hP]; omega)
      refine ⟨x, by rw [List.getElem?_set_ne (fun e2 => e e2.symm)]; exact hx, ?_⟩
      rw [hno]
      have hx2 := (own_below hx1 (box1 wr o)).kept hg (h.ap i j x u e hx hu).row
      exact hx2.kept h2 (far hx2)
  · have key : ∀ b y, b ≠ j → vs[b]? = some y → Apart y u4 := fun b y hb hy => by
      have hbl : b < vs.length := (List.getElem?_eq_some_iff.1 hy).1
      obtain ⟨y', e, hy1⟩ := h.at_ b (by omega)
      obtain rfl : y = y' := by rw [hy] at e; exact Option.some.inj e
      exact (h.ap b j y u hb hy hu).next (own_below hy1 (box1 wr o)) hat
    by_cases ea : a = j
    · subst ea
      rw [List.getElem?_set_self (by omega)] at hx
      obtain rfl := Option.some.inj hx
      rw [List.getElem?_set_ne hab] at hy
      exact (key b y (fun e => hab e.symm) hy).symm
    · rw [List.getElem?_set_ne (fun e => ea e.symm)] at hx
      by_cases eb : b = j
      · subst eb
        rw [List.getElem?_set_self (by omega)] at hy
        obtain rfl := Option.some.inj hy
        exact key a x ea hx
      · rw [List.getElem?_set_ne (fun e => eb e.symm)] at hy
        exact h.ap a b x y hab hx hy
  · exact ((h.bw.alloc (by omega) o).grown hg (by simp; omega) (fun g hg' => by have := hub g hg'; omega)).setCell (p := ⟨w.heap.size, j, none⟩) (Nat.le_refl _) _
/-- Rows of kids that are read. -/
def KD (w : World) (B : Nat) (a : Option Addr) (P : List Int) : Prop := ∀ j, j < P.length + 1 → ∃ b off, a = some ⟨b, off, none⟩ ∧ b < B ∧ ∃ u c, w.cell? ⟨b, off + j, none⟩ = some (.slice u (kd P j).length c) ∧ Rd w B u (intV (natI (kd P j)))
theorem KD.below {w w' : World} {B : Nat} {a : Option Addr} {P : List Int} (h : KD w B a P) (hb : Below B w w') : KD w' B a P := fun j hj => by
  obtain ⟨b, off, h1, h2, u, c, h3, h4⟩ := h j hj
  exact ⟨b, off, h1, h2, u, c, by rw [hb.cell (p := ⟨b, off + j, none⟩) h2]; exact h3, h4.below hb⟩
theorem KD.more {w : World} {B B' : Nat} {a : Option Addr} {P : List Int} (h : KD w B a P) (hB : B ≤ B') : KD w B' a P := fun j hj => by
  obtain ⟨b, off, h1, h2, u, c, h3, h4⟩ := h j hj
  exact ⟨b, off, h1, Nat.lt_of_lt_of_le h2 hB, u, c, h3, h4.more hB⟩
theorem GI.kd {w wr : World} {P : List Int} {c : Nat} {vs : List Value} (h : GI w wr P P.length c vs) : KD wr wr.heap.size (some ⟨w.heap.size, 0, none⟩) P := fun j hj => by
  obtain ⟨u, h1, h2⟩ := h.at_ j hj
  rw [kdN_all] at h2
  obtain ⟨a, c', rfl, _⟩ := own_slice h2
  refine ⟨_, _, rfl, h.lt, a, c', ?_, Rd.own h2⟩
  rw [Nat.zero_add, h.ow.cellAt j (by omega)]
  exact h1
theorem info_rows : (Try.prog.info? 22).map (fun i => (i.zero, i.size, i.bytes)) = some (some (.slice none 0 0), 1, 24) := by kernel_rfl
end Go.Proofs.Ytkjngmlebflffaa
