import Derived.Test.YtdeplooijjfekaaRe
import Derived.Test.YtdeplooijjfekaaRf
import Derived.Shelf.Abstract
import Derived.Shelf.RegionOpen
import Derived.OwnWalkIn
import Derived.TacticsInMore
import Derived.LoopNIn
import Derived.LoopIn
import Derived.Maps.AppendAt
namespace Go.Proofs.Ytdeplooijjfekaa
open Go Go.RowKit Go.Shelf
attribute [local go_sem] Oper.semAt_some

/-- A body that is handed over: the slice, its bytes, the place behind its frame. -/
structure Bod where
  v : Value
  b : List UInt8
  q : Int
/-- The place behind the last one. -/
def lastQ (p : Int) : List Bod → Int
  | [] => p
  | x :: xs => lastQ x.q xs
theorem lastQ_snoc (x : Bod) : ∀ (xs : List Bod) (p : Int), lastQ p (xs ++ [x]) = x.q
  | [], _ => rfl
  | y :: xs, _ => lastQ_snoc x xs y.q
def BodAt (B0 : Nat) (x : Bod) (W : World) : Prop := W.ownsRow B0 5 1 x.v x.b.length (bV x.b)
def KpF (n0 bb : Nat) (W W' : World) : Prop := Below n0 W W' ∧ W'.heap[bb]? = W.heap[bb]?
def AllIs (L : List UInt8) (m : Nat) (p : Int) (xs : List Bod) : Prop := allF L m p = xs.map Bod.b ∧ endF p (xs.map Bod.b) = lastQ p xs
set_option maxHeartbeats 400000 in
theorem frames_is (a : Option Addr) (n c : Nat) (p m : Int) (w : World) :
    Calls Try.prog 25 #[.slice a n c, .int .i64 p, .int .i64 m] w fun e w' => e = .returned (.func (.func 35) #[] #[.pointer (some ⟨w.heap.size + 1, 0, none⟩), .pointer (some ⟨w.heap.size + 2, 0, none⟩), .pointer (some ⟨w.heap.size, 0, none⟩)]) ∧
      w' = ((w.alloc (.cells #[.slice a n c] 22)).alloc (.cells #[.int .i64 p] 3)).alloc (.cells #[.int .i64 m] 3) := by
  have hmf : ∀ (fn : Fn) (first cap : Array Value) (w : World), (Instr.makeFunc fn first cap).run Try.prog w = .ok (.func fn first cap) w := fun _ _ _ _ => rfl
  go_enter Try.func25, Try.ntmps25
  go_wp2
  go_ret
  exact ⟨rfl, rfl⟩
set_option maxRecDepth 100000 in
set_option maxHeartbeats 1000000 in
theorem frames1_in (n : Nat) (l bb ab mb n0 B0 c : Nat) (a : Option Addr) (L : List UInt8) (p : Int) (m : Int) (J : List Bod → World → Prop) (W : World) (hJ : ∀ s A B, J s A → A.grownBy B none → J s B)
    (hY : ∀ pre x W1, J pre W1 → (pre.length < L.length ∧ BodAt B0 x W1 ∧ W1.heap[bb]? = some (.cells #[.slice a L.length c] 22 (0, 0))) → YieldAt Fence.wide (n - 1) Try.prog l #[x.v, .int .i64 x.q] W1 fun e W' => e = .returned (.bool true) ∧ J (pre ++ [x]) W' ∧ KpF n0 bb W1 W')
    (h0 : J [] W) (hlc : L.length ≤ c) (hcm : c ≤ maxLen) (hl : L.length ≤ 1000000000000) (hm : m ≤ 9223372036854775807) (hr : Rd W n0 a (bV L)) (hn0 : n0 ≤ W.heap.size) (hB0 : B0 ≤ W.heap.size) (hbb : W.heap[bb]? = some (.cells #[.slice a L.length c] 22 (0, 0)))
    (hab : W.cell? ⟨ab, 0, none⟩ = some (.int .i64 p)) (hmb : W.cell? ⟨mb, 0, none⟩ = some (.int .i64 m)) :
    CallsIn Fence.wide n Try.prog 35 #[.func (.yield l) #[] #[], .pointer (some ⟨ab, 0, none⟩), .pointer (some ⟨mb, 0, none⟩), .pointer (some ⟨bb, 0, none⟩)] W fun e W' => (∃ v, e = .returned v) ∧ ∃ xs, AllIs L m.toNat p xs ∧ J xs W' := by
  have HC := Lib.hid hcm; have HR := Lib.hid hr; have HN := Lib.hid hn0; have HB0 := Lib.hid hB0; have HY := Lib.hid hY; have HJ := Lib.hid hJ; have HJ0 := Lib.hid h0; have HBB := Lib.hid hbb
  clear hcm hr hn0 hB0 hY hJ h0 hbb
  refine callsIn_of_wp Try.func35 rfl trivial ?_ rfl
  simp only [Try.ntmps35, List.size_toArray, List.length_cons, List.length_nil, Nat.reduceAdd, Nat.reduceSub, Array.replicate_succ, Array.replicate_zero, List.push_toArray, List.append_toArray, List.nil_append, List.cons_append]
  gi_wp2
  gi_loopw [5, 11] (fun pl i wr => ∃ xs : List Bod, i = .int .i64 (xs.length : Nat) ∧ pl = .int .i64 (lastQ p xs) ∧ Found L m.toNat p (xs.map Bod.b) ∧ endF p (xs.map Bod.b) = lastQ p xs ∧ J xs wr ∧ Below n0 W wr ∧ wr.heap[bb]? = W.heap[bb]? ∧ W.heap.size ≤ wr.heap.size) (fun _ i _ => m.toNat - (intOf i).toNat)
  case atStart => exact ⟨[], rfl, rfl, Found.start _ _ _, rfl, HJ0.out, Below.refl _ _, rfl, Nat.le_refl _⟩
  case round =>
    obtain ⟨xs, rfl, rfl, hf, hlq, hj, hbw, hkb, hsz⟩ := hrel
    have HF := Lib.hid hf; have HQ := Lib.hid hlq; have HJX := Lib.hid hj; have HBW := Lib.hid hbw; have HKB := Lib.hid hkb; have HSZ := Lib.hid hsz
    have hcellb : wr.cell? ⟨bb, 0, none⟩ = some (.slice a L.length c) := by simp [World.cell?, hkb, HBB.out]
    have hkm : xs.length ≤ m.toNat := by have := hf.1; rw [List.length_map] at this; exact this
    clear hf hlq hj hbw hkb hsz
    by_cases hlt : (xs.length : Int) < m
    · have HRW : Hid (Rd wr wr.heap.size a (bV L)) := (HR.out.below HBW.out).more (Nat.le_trans HN.out HSZ.out)
      gi_wp2_with fail
      refine ⟨trivial, fun h => (by cases h), (callsIn_wide.2 (gotF_any a L.length c L (lastQ p xs) wr rfl hlc HC.out hl HRW.out)).mono ?_⟩
      rintro e w2 ⟨hb2, (⟨B, v, hg, rfl, ho⟩ | ⟨k, hg, rfl⟩)⟩
      · have HJ2 : Hid (J xs w2) := HJ.out _ _ _ HJX.out (Below.to_grown hb2)
        have HX : Hid (BodAt B0 ⟨v, B, lastQ p xs + 6 + (B.length : Int)⟩ w2) := own_base ho (Nat.le_trans HB0.out HSZ.out)
        have HB2 : Hid (Below n0 W w2) := HBW.out.trans (hb2.mono (Nat.le_trans HN.out HSZ.out))
        have HK2 : Hid (w2.heap[bb]? = W.heap[bb]?) := by
          show _ = _
          rw [hb2.block bb (by have := (Array.getElem?_eq_some_iff.1 HBB.out).1; exact Nat.lt_of_lt_of_le this HSZ.out)]; exact HKB.out
        have HS2 : Hid (W.heap.size ≤ w2.heap.size) := Nat.le_trans HSZ.out hb2.size
        obtain ⟨fn, tmps, assign, body, hy, hR⟩ := HY.out xs ⟨v, B, lastQ p xs + 6 + (B.length : Int)⟩ w2 HJ2.out ⟨by have := (HF.out.next (by rw [List.length_map]; omega) (by rw [HQ.out]; exact hg)).few; rw [List.length_append, List.length_map] at this; simp at this; omega, HX.out, by rw [HK2.out]; exact HBB.out⟩
        dsimp only at hy
        have HNX := Lib.hid (HF.out.next (by rw [List.length_map]; omega) (by rw [HQ.out]; exact hg))
        have HEX : Hid (endF p ((xs ++ [⟨v, B, lastQ p xs + 6 + (B.length : Int)⟩] : List Bod).map Bod.b) = lastQ p (xs ++ [⟨v, B, lastQ p xs + 6 + (B.length : Int)⟩])) := by
          show _ = _
          rw [List.map_append, List.map_singleton, endF_snoc, lastQ_snoc, HQ.out]; simp; omega
        have HLX : Hid (lastQ p (xs ++ [⟨v, B, lastQ p xs + 6 + (B.length : Int)⟩]) = lastQ p xs + 6 + (B.length : Int)) := lastQ_snoc _ _ _
        have hR' := Lib.hid hR
        clear hb2 ho hg hR hcellb
        gi_wp2_with fail
        refine ⟨fun h => (by cases h), hR'.out.mono ?_⟩
        rintro e W3 ⟨rfl, hj3, hk3⟩
        have HJ3 := Lib.hid hj3
        have HB3 : Hid (Below n0 W W3) := HB2.out.trans hk3.1
        have HK3 : Hid (W3.heap[bb]? = W.heap[bb]?) := by show _ = _; rw [hk3.2]; exact HK2.out
        have HS3 : Hid (W.heap.size ≤ W3.heap.size) := Nat.le_trans HS2.out hk3.1.size
        clear hj3 hk3
        gi_wp2_with fail
        go_roundw
        case rel => exact ⟨xs ++ [⟨v, B, lastQ p xs + 6 + (B.length : Int)⟩], by rw [List.length_append, List.length_singleton]; go_num, by rw [HLX.out], by rw [List.map_append]; exact HNX.out, HEX.out, HJ3.out, HB3.out, HK3.out, HS3.out⟩
        case measure => simp [intOf]; omega
      · have HST := Lib.hid (HF.out.stop (by rw [HQ.out]; exact hg))
        have HJ2 : Hid (J xs w2) := HJ.out _ _ _ HJX.out (Below.to_grown hb2)
        have hk : ((k : Int) != 0) = true := by have := (gotF_err hg).1; simp; omega
        clear hb2 hg hcellb
        gi_wp2_with fail
        refine ⟨fun _ h => (by cases h), ?_⟩
        gi_wp2_with fail
        refine bodyPost_ret (results_none rfl _ _ _) rfl ?_
        exact ⟨⟨_, rfl⟩, xs, ⟨HST.out, HQ.out⟩, HJ2.out⟩
    · have HST := Lib.hid (HF.out.full (by rw [List.length_map]; omega))
      gi_wp2_with fail
      go_end0
      exact ⟨⟨_, rfl⟩, xs, ⟨HST.out, HQ.out⟩, HJX.out⟩
theorem kpF_t {n0 bb : Nat} {A B C : World} (h : KpF n0 bb A B) (k : KpF n0 bb B C) : KpF n0 bb A C := ⟨h.1.trans k.1, k.2.trans h.2⟩
theorem info_bytes : (Try.prog.info? 22).map (fun i => (i.zero, i.size, i.bytes)) = some (some (.slice none 0 0), 1, 24) := by kernel_rfl
/-- What All answers. -/
def AllOut (w : World) (L : List UInt8) (p m : Int) (e : Ending) (w' : World) : Prop :=
  ∃ (v : Value) (xs : List Bod), e = .returned (.tuple #[v, .int .i64 (endF p (xs.map Bod.b))]) ∧ allF L m.toNat p = xs.map Bod.b ∧ w'.ownsRow w.heap.size 22 1 v xs.length (xs.map Bod.v) ∧ (∀ x ∈ xs, BodAt w.heap.size x w') ∧ Below w.heap.size w w'
/-- Between two rounds of All. -/
def AllI (w : World) (p : Int) (pre : List Bod) (W : World) : Prop :=
  (∃ v, Boxed W w.heap.size 34 v ∧ W.ownsRow (w.heap.size + 5) 22 1 v pre.length (pre.map Bod.v)) ∧ Boxed W (w.heap.size + 1) 3 (.int .i64 (lastQ p pre)) ∧ (∀ x ∈ pre, BodAt (w.heap.size + 5) x W) ∧ Below w.heap.size w W ∧ w.heap.size + 5 ≤ W.heap.size
theorem ownsRow_cells {X Y : World} {row : Option Nat} {base : Nat} {e : TypeId} {size k : Nat} {v : Value} {xs : List Value} (h : X.ownsRow base e size v k xs) (hg : X.grownBy Y row) (hr : ∀ r, row = some r → ∃ o : Obj, X.heap[r]? = some o ∧ o.isCells = false) : Y.ownsRow base e size v k xs := by
  refine h.kept hg ?_
  rcases h.2 with ⟨rfl, _⟩ | ⟨g, cap, cur, rfl, _, hgb, _⟩
  · exact .inl rfl
  · refine .inr fun e' => ?_
    obtain ⟨o, ho, hc⟩ := hr g e'.symm
    rw [hgb] at ho; cases ho; cases hc
theorem boxed_cells {X Y : World} {row : Option Nat} {B : Nat} {t : TypeId} {v : Value} (h : Boxed X B t v) (hg : X.grownBy Y row) (hr : ∀ r, row = some r → ∃ o : Obj, X.heap[r]? = some o ∧ o.isCells = false) : Boxed Y B t v := by
  refine h.kept hg fun e' => ?_
  obtain ⟨o, ho, hc⟩ := hr B e'.symm
  rw [show X.heap[B]? = _ from h] at ho; cases ho; cases hc
theorem allI_own (w : World) (p : Int) {B : Nat} (hB : w.heap.size ≤ B) : OwnFrom B (AllI w p) := by
  rintro s X Y row ⟨⟨v, hv, hrow⟩, hq, hbod, hb, hs⟩ hg hr
  have hr' := fun r e => (hr r e).2
  exact ⟨⟨v, boxed_cells hv hg hr', ownsRow_cells hrow hg hr'⟩, boxed_cells hq hg hr', fun x hx => ownsRow_cells (hbod x hx) hg hr', ownFrom_below (β := Unit) (Nat.le_refl _) hB () X Y row hb hg hr, Nat.le_trans hs hg.size⟩
/-- Rows of unlike kinds lie in unlike blocks. -/
theorem rows_apart {W : World} {b1 b2 : Nat} {e1 e2 : TypeId} {s1 s2 k1 k2 : Nat} {v1 v2 : Value} {x1 x2 : List Value} (h1 : W.ownsRow b1 e1 s1 v1 k1 x1) (h2 : W.ownsRow b2 e2 s2 v2 k2 x2) (hne : e1 ≠ e2) : v1.ownBlock = none ∨ v1.ownBlock ≠ v2.ownBlock := by
  rcases h1.2 with ⟨rfl, _⟩ | ⟨g, cap, cur, rfl, _, hgb, _⟩
  · exact .inl rfl
  · refine .inr fun e' => ?_
    rcases h2.2 with ⟨rfl, _⟩ | ⟨g2, cap2, cur2, rfl, _, hgb2, _⟩
    · cases e'
    · obtain rfl : g = g2 := by simpa [Value.ownBlock] using e'
      rw [hgb] at hgb2
      simp at hgb2
      exact hne hgb2.2
theorem all_round {w W w1 : World} {p : Int} {pre : List Bod} {x : Bod} {v v' : Value} {tmp : Obj} {bb : Nat} {ob : Obj} (hbb : W.heap[bb]? = some ob) (hb5 : bb < w.heap.size + 5) (hb1 : bb ≠ w.heap.size) (hb2 : bb ≠ w.heap.size + 1)
    (hv : Boxed W w.heap.size 34 v) (hrow : W.ownsRow (w.heap.size + 5) 22 1 v pre.length (pre.map Bod.v)) (hq : Boxed W (w.heap.size + 1) 3 (.int .i64 (lastQ p pre))) (hbod : ∀ y ∈ pre, BodAt (w.heap.size + 5) y W) (hx : BodAt (w.heap.size + 5) x W) (hB : Below w.heap.size w W) (hs : w.heap.size + 5 ≤ W.heap.size)
    (hown : w1.ownsRow (w.heap.size + 5) 22 1 v' (pre.length + 1) (pre.map Bod.v ++ [x.v])) (hg : (W.alloc tmp).grownBy w1 v.ownBlock) :
    KeepsFrom (w.heap.size + 5) W ((w1.setCell ⟨w.heap.size, 0, none⟩ v').setCell ⟨w.heap.size + 1, 0, none⟩ (.int .i64 x.q)) ∧ KpF w.heap.size bb W ((w1.setCell ⟨w.heap.size, 0, none⟩ v').setCell ⟨w.heap.size + 1, 0, none⟩ (.int .i64 x.q)) ∧
    AllI w p (pre ++ [x]) ((w1.setCell ⟨w.heap.size, 0, none⟩ v').setCell ⟨w.heap.size + 1, 0, none⟩ (.int .i64 x.q)) := by
  have v1 : Boxed w1 w.heap.size 34 v := (hv.alloc tmp).kept hg (hv.not_row (by decide) hrow)
  have q1 : Boxed w1 (w.heap.size + 1) 3 (.int .i64 (lastQ p pre)) := (hq.alloc tmp).kept hg (hq.not_row (by decide) hrow)
  have b1 : ∀ y, BodAt (w.heap.size + 5) y W → BodAt (w.heap.size + 5) y w1 := fun y hy => World.ownsRow.kept (hy.alloc tmp) hg (rows_apart hy hrow (by decide))
  have k1 : KeepsFrom (w.heap.size + 5) W w1 := ((KeepsOthers.alloc W tmp).trans (KeepsOthers.of_grownBy hg fun j o ej hj => by
    rcases (hrow.alloc tmp).2 with ⟨rfl, _⟩ | ⟨g, cap, cur, rfl, _, hgb, _⟩
    · cases ej
    · obtain rfl : g = j := by simpa [Value.ownBlock] using ej
      rw [hgb] at hj; cases hj; rfl)).from _
  have d1 : Below w.heap.size W w1 := ((Below.refl _ W).alloc (by omega) tmp).grown hg (by simp; omega) (fun g e => by have := (own_shape hrow e).1; omega)
  have e1 : w1.heap[bb]? = W.heap[bb]? := by
    have hlt := (Array.getElem?_eq_some_iff.1 hbb).1
    rw [hg.block bb (by simp; omega) (fun e => by have := (own_shape hrow e.symm).1; omega), RowKit.Below.heap_alloc W tmp bb hlt]
  obtain ⟨w2, hw2⟩ : ∃ w2, w2 = w1.setCell ⟨w.heap.size, 0, none⟩ v' := ⟨_, rfl⟩
  rw [← hw2]
  have g2 : w1.grownBy w2 (some w.heap.size) := by rw [hw2]; exact grownBy_setCell' _ _ _
  have g3 : w2.grownBy (w2.setCell ⟨w.heap.size + 1, 0, none⟩ (.int .i64 x.q)) (some (w.heap.size + 1)) := grownBy_setCell' _ _ _
  have v2 : Boxed w2 w.heap.size 34 v' := by rw [hw2]; exact v1.set v'
  have q2 : Boxed w2 (w.heap.size + 1) 3 (.int .i64 (lastQ p pre)) := q1.kept g2 (by simp)
  have r2 : w2.ownsRow (w.heap.size + 5) 22 1 v' (pre.length + 1) (pre.map Bod.v ++ [x.v]) := hown.kept g2 (by
    cases hk : v'.ownBlock with
    | none => exact .inl rfl
    | some k => have := (own_shape hown hk).1; exact .inr (by simp; omega))
  have b2 : ∀ y, BodAt (w.heap.size + 5) y w1 → BodAt (w.heap.size + 5) y w2 := fun y hy => World.ownsRow.kept hy g2 (by
    cases hk : y.v.ownBlock with
    | none => exact .inl rfl
    | some k => have := (own_shape hy hk).1; exact .inr (by simp; omega))
  have r3 := r2.kept g3 (by
    cases hk : v'.ownBlock with
    | none => exact .inl rfl
    | some k => have := (own_shape r2 hk).1; exact .inr (by simp; omega))
  have b3 : ∀ y, BodAt (w.heap.size + 5) y w2 → BodAt (w.heap.size + 5) y (w2.setCell ⟨w.heap.size + 1, 0, none⟩ (.int .i64 x.q)) := fun y hy => World.ownsRow.kept hy g3 (by
    cases hk : y.v.ownBlock with
    | none => exact .inl rfl
    | some k => have := (own_shape hy hk).1; exact .inr (by simp; omega))
  have d3 : Below w.heap.size W (w2.setCell ⟨w.heap.size + 1, 0, none⟩ (.int .i64 x.q)) := by
    rw [hw2]
    exact (d1.setCell (p := ⟨w.heap.size, 0, none⟩) (Nat.le_refl _) _).setCell (p := ⟨w.heap.size + 1, 0, none⟩) (Nat.le_succ _) _
  refine ⟨?_, ⟨d3, ?_⟩, ⟨v', v2.kept g3 (by simp), by simpa using r3⟩, ?_, ?_, hB.trans d3, Nat.le_trans hs d3.size⟩
  · rw [hw2]; exact (k1.trans ((KeepsOthers.setCell _ _ _).from _)).trans ((KeepsOthers.setCell _ _ _).from _)
  · rw [g3.block bb (by have := (Array.getElem?_eq_some_iff.1 (e1.trans hbb)).1; have := g2.size; omega) (by simp; omega), g2.block bb (by have := (Array.getElem?_eq_some_iff.1 (e1.trans hbb)).1; omega) (by simp; omega), e1]
  · rw [lastQ_snoc]; exact q2.set _
  · intro y hy
    rcases List.mem_append.1 hy with hy | hy
    · exact b3 y (b2 y (b1 y (hbod y hy)))
    · rw [List.mem_singleton] at hy; subst hy; exact b3 _ (b2 _ (b1 _ hx))
theorem all_end {w W W3 : World} {p : Int} {xs : List Bod} {v : Value} {D : Nat} (hv : Boxed W w.heap.size 34 v) (hrow : W.ownsRow (w.heap.size + 5) 22 1 v xs.length (xs.map Bod.v)) (hq : Boxed W (w.heap.size + 1) 3 (.int .i64 (lastQ p xs)))
    (hbod : ∀ x ∈ xs, BodAt (w.heap.size + 5) x W) (hB : Below w.heap.size w W) (hK : W.heap[D]? = some (.deferred (some []))) (hD : w.heap.size + 5 ≤ D) (hW3 : W3 = ((W.setCell ⟨w.heap.size, 0, none⟩ v).setCell ⟨w.heap.size + 1, 0, none⟩ (.int .i64 (lastQ p xs))).drew) :
    Boxed (W3.putObj D (.deferred none)) w.heap.size 34 v ∧ Boxed (W3.putObj D (.deferred none)) (w.heap.size + 1) 3 (.int .i64 (lastQ p xs)) ∧ (W3.putObj D (.deferred none)).ownsRow w.heap.size 22 1 v xs.length (xs.map Bod.v) ∧
      (∀ x ∈ xs, BodAt w.heap.size x (W3.putObj D (.deferred none))) ∧ Below w.heap.size w (W3.putObj D (.deferred none)) ∧ W3.heap[D]? = some (.deferred (some [])) := by
  obtain ⟨w2, hw2⟩ : ∃ w2, w2 = W.setCell ⟨w.heap.size, 0, none⟩ v := ⟨_, rfl⟩
  rw [← hw2] at hW3
  obtain ⟨w3, hw3⟩ : ∃ w3, w3 = w2.setCell ⟨w.heap.size + 1, 0, none⟩ (.int .i64 (lastQ p xs)) := ⟨_, rfl⟩
  rw [← hw3] at hW3
  have g2 : W.grownBy w2 (some w.heap.size) := by rw [hw2]; exact grownBy_setCell' _ _ _
  have g3 : w2.grownBy w3 (some (w.heap.size + 1)) := by rw [hw3]; exact grownBy_setCell' _ _ _
  have g4 : w3.grownBy W3 none := by rw [hW3]; exact Below.to_grown (Below_drew (Below.refl _ _))
  have hDl := (Array.getElem?_eq_some_iff.1 hK).1
  have k2 : w2.heap[D]? = some (.deferred (some [])) := (g2.block D hDl (by simp; omega)).trans hK
  have k3 : w3.heap[D]? = some (.deferred (some [])) := (g3.block D (by have := g2.size; omega) (by simp; omega)).trans k2
  have k4 : W3.heap[D]? = some (.deferred (some [])) := (g4.block D (by have := g2.size; have := g3.size; omega) (by simp)).trans k3
  have far : ∀ {X : World} {e : TypeId} {u : Value} {k : Nat} {ys : List Value} {B : Nat}, X.ownsRow (w.heap.size + 5) e 1 u k ys → B < w.heap.size + 5 → u.ownBlock = none ∨ u.ownBlock ≠ some B := by
    intro X e u k ys B h hlt
    cases hk : u.ownBlock with
    | none => exact .inl rfl
    | some j => have := (own_shape h hk).1; exact .inr (by simp; omega)
  have g5 : W3.grownBy (W3.putObj D (.deferred none)) (some D) := grownBy_putObj' _ _ _
  have nc : ∀ r, some D = some r → ∃ o : Obj, W3.heap[r]? = some o ∧ o.isCells = false := fun r e => by cases e; exact ⟨_, k4, rfl⟩
  have row : ∀ {e : TypeId} {u : Value} {k : Nat} {ys : List Value}, W.ownsRow (w.heap.size + 5) e 1 u k ys → (W3.putObj D (.deferred none)).ownsRow w.heap.size e 1 u k ys := by
    intro e u k ys h
    have h2 := h.kept g2 (far h (by omega))
    have h3 := h2.kept g3 (far h2 (by omega))
    have h4 := h3.kept g4 (by cases u.ownBlock <;> simp)
    exact own_base (ownsRow_cells h4 g5 nc) (by omega)
  have v2 : Boxed w2 w.heap.size 34 v := by rw [hw2]; exact hv.set v
  have q3 : Boxed w3 (w.heap.size + 1) 3 (.int .i64 (lastQ p xs)) := by rw [hw3]; exact (hq.kept g2 (by simp)).set _
  refine ⟨boxed_cells ((v2.kept g3 (by simp)).kept g4 (by simp)) g5 nc, boxed_cells (q3.kept g4 (by simp)) g5 nc, row hrow, fun x hx => row (hbod x hx), ?_, k4⟩
  have b4 : Below w.heap.size w W3 := by
    rw [hW3, hw3, hw2]
    exact Below_drew ((hB.setCell (p := ⟨w.heap.size, 0, none⟩) (Nat.le_refl _) _).setCell (p := ⟨w.heap.size + 1, 0, none⟩) (Nat.le_succ _) _)
  exact b4.grown g5 b4.size (fun k e => by cases e; omega)
theorem run_loadVar_box {P : Program} {t : TypeId} {d : TypeDesc} {W : World} {B : Nat} {v : Value} (hu : P.underlying t = some d) (hd : d.isRow = false) (h : Boxed W B t v) : (loadVar t ⟨B, 0, none⟩).run P W = .ok v W := by
  have hagg : (isAgg t).run P W = .ok false W := by
    unfold isAgg
    rw [Sem.run_bind, run_underlying hu W]
    cases d <;> simp_all [TypeDesc.isRow]
  have hc := h.cell
  simp [loadVar, Sem.run_bind, hagg, Result.andThen, hc]
theorem results_cells {P : Program} {fn : Func} {p1 p2 : Tmp} {t1 t2 : TypeId} {tmps : Array Value} {B1 B2 : Nat} {W : World} {v1 v2 : Value} {d1 d2 : TypeDesc} (h : fn.results = #[.cell p1 t1, .cell p2 t2]) (e1 : tmps.getD p1 undef = .pointer (some ⟨B1, 0, none⟩)) (e2 : tmps.getD p2 undef = .pointer (some ⟨B2, 0, none⟩))
    (h1 : Boxed W B1 t1 v1) (h2 : Boxed W B2 t2 v2) (u1 : P.underlying t1 = some d1) (u2 : P.underlying t2 = some d2) (r1 : d1.isRow = false) (r2 : d2.isRow = false) : (results fn tmps).run P W = .ok (.tuple #[v1, v2]) W := by
  have l1 := run_loadVar_box u1 r1 h1
  have l2 := run_loadVar_box u2 r2 h2
  have e1' : tmps[p1]?.getD undef = .pointer (some ⟨B1, 0, none⟩) := by rw [← e1]; simp
  have e2' : tmps[p2]?.getD undef = .pointer (some ⟨B2, 0, none⟩) := by rw [← e2]; simp
  simp [results, h, asAddr, e1', e2', l1, l2]
set_option maxRecDepth 100000 in
set_option maxHeartbeats 2000000 in
theorem allF_any (a : Option Addr) (n c : Nat) (L : List UInt8) (p m : Int) (w : World) (hn : n = L.length) (hlc : L.length ≤ c) (hcm : c ≤ maxLen) (hl : L.length ≤ 1000000000000) (hm : m ≤ 9223372036854775807) (hr : Rd w w.heap.size a (bV L)) :
    Calls Try.prog 12 #[.slice a n c, .int .i64 p, .int .i64 m] w (AllOut w L p m) := by
  subst hn
  have HR := Lib.hid hr; have HC := Lib.hid hcm; clear hr hcm
  refine (callsIn_wide (n := 5)).1 ?_
  refine callsIn_of_wp_marks Try.func12 rfl trivial ?_ rfl
  simp only [Try.ntmps12, List.size_toArray, List.length_cons, List.length_nil, Nat.reduceAdd, Nat.reduceSub, Array.replicate_succ, Array.replicate_zero, List.push_toArray, List.append_toArray, List.nil_append, List.cons_append]
  gi_wp2_with fail
  refine ⟨trivial, (callsIn_wide.2 (frames_is a L.length c p m _)).mono ?_⟩
  rintro e w1 ⟨rfl, rfl⟩
  gi_wp2_with fail
  obtain ⟨w4, hw4⟩ : ∃ w4, w4 = ((((w.alloc (.cells #[.slice none 0 0] 34)).alloc (.cells #[.int .i64 p] 3)).alloc (.cells #[.slice a L.length c] 22)).alloc (.cells #[.int .i64 p] 3)).alloc (.cells #[.int .i64 m] 3) := ⟨_, rfl⟩
  have hs4 : w4.heap.size = w.heap.size + 5 := by rw [hw4]; simp
  have hB4 : Below w.heap.size w w4 := by rw [hw4]; exact (((((Below.refl _ w).alloc (Nat.le_refl _) _).alloc (by simp) _).alloc (by simp; omega) _).alloc (by simp; omega) _).alloc (by simp; omega) _
  have b0 : Boxed w4 w.heap.size 34 (.slice none 0 0) := by rw [hw4]; exact ((((Boxed.new w _ _).alloc _).alloc _).alloc _).alloc _
  have b1 : Boxed w4 (w.heap.size + 1) 3 (.int .i64 p) := by
    rw [hw4]
    have h := Boxed.new (w.alloc (.cells #[.slice none 0 0] 34)) 3 (.int .i64 p)
    rw [World.size_alloc] at h
    exact ((h.alloc _).alloc _).alloc _
  have b2 : Boxed w4 (w.heap.size + 1 + 1) 22 (.slice a L.length c) := by
    rw [hw4]
    have h := Boxed.new ((w.alloc (.cells #[.slice none 0 0] 34)).alloc (.cells #[.int .i64 p] 3)) 22 (.slice a L.length c)
    rw [World.size_alloc, World.size_alloc] at h
    exact (h.alloc _).alloc _
  have b3 : Boxed w4 (w.heap.size + 1 + 1 + 1) 3 (.int .i64 p) := by
    rw [hw4]
    have h := Boxed.new (((w.alloc (.cells #[.slice none 0 0] 34)).alloc (.cells #[.int .i64 p] 3)).alloc (.cells #[.slice a L.length c] 22)) 3 (.int .i64 p)
    rw [World.size_alloc, World.size_alloc, World.size_alloc] at h
    exact h.alloc _
  have b4 : Boxed w4 (w.heap.size + 1 + 1 + 2) 3 (.int .i64 m) := by
    rw [hw4]
    have h := Boxed.new ((((w.alloc (.cells #[.slice none 0 0] 34)).alloc (.cells #[.int .i64 p] 3)).alloc (.cells #[.slice a L.length c] 22)).alloc (.cells #[.int .i64 p] 3)) 3 (.int .i64 m)
    rw [World.size_alloc, World.size_alloc, World.size_alloc, World.size_alloc] at h
    exact h
  rw [← hw4]
  clear hw4
  have HR4 := Lib.hid (HR.out.below hB4)
  obtain ⟨i0, hi0, hz0, hz1, hz2⟩ := info_parts info_bytes
  refine rangeTold rfl (by omega) (gf := 35) (lb := #[.pointer (some ⟨w.heap.size + 1 + 1 + 1, 0, none⟩), .pointer (some ⟨w.heap.size + 1 + 1 + 2, 0, none⟩), .pointer (some ⟨w.heap.size + 1 + 1, 0, none⟩)]) rfl trivial (enters_of Try.func35 (by kernel_rfl) rfl)
    (encs := fun x : Bod => #[x.v, .int .i64 x.q]) (G := fun pre x W => pre.length < L.length ∧ BodAt (w.heap.size + 5) x W ∧ Boxed W (w.heap.size + 1 + 1) 22 (.slice a L.length c)) (Kp := KpF w.heap.size (w.heap.size + 1 + 1)) (S := AllIs L m.toNat p) ?seq kpF_t ?kpb (fun _ => rfl)
    (AllI w p) (allI_own w p (by omega)) (fun pre => ?gown) ?start
    (fun x => { tmps := #[.slice a L.length c, .int .i64 p, .int .i64 m, undef, undef, undef, .pointer (some ⟨w.heap.size, 0, none⟩), .pointer (some ⟨w.heap.size + 1, 0, none⟩), x.v, .int .i64 x.q, .int .i64 p, .slice a L.length c, .int .i64 p, .int .i64 m, .func (.func 35) #[] #[.pointer (some ⟨w.heap.size + 1 + 1 + 1, 0, none⟩), .pointer (some ⟨w.heap.size + 1 + 1 + 2, 0, none⟩), .pointer (some ⟨w.heap.size + 1 + 1, 0, none⟩)], x.v, .int .i64 x.q, undef, undef, undef, undef, undef, undef, undef], defers := [] }) ?assign ?body ?done
  case seq =>
    intro l J W hW hJ hY h0
    rw [hs4] at hW
    refine frames1_in _ l (w.heap.size + 1 + 1) (w.heap.size + 1 + 1 + 1) (w.heap.size + 1 + 1 + 2) w.heap.size (w.heap.size + 5) c a L p m J W hJ hY h0 hlc HC.out hl hm (HR4.out.below (hW.mono (by omega))) (by have := hW.size; omega) (by have := hW.size; omega) ?_ ?_ ?_
    · exact (hW.block _ (by omega)).trans b2
    · exact (hW.cell (p := ⟨w.heap.size + 1 + 1 + 1, 0, none⟩) (by simp)).trans b3.cell
    · exact (hW.cell (p := ⟨w.heap.size + 1 + 1 + 2, 0, none⟩) (by simp)).trans b4.cell
  case kpb =>
    intro W l o o' hl hk ho
    refine ⟨(Below.refl _ W).grown (grownBy_putObj' W l o') (by have := (Array.getElem?_eq_some_iff.1 hk).1; omega) (fun k e => by cases e; omega), World.putObj_heap_other (by omega)⟩
  case gown =>
    rintro s X Y row ⟨h1, h2, h3⟩ hg hr
    exact ⟨h1, ownsRow_cells h2 hg (fun r e => (hr r e).2), boxed_cells h3 hg (fun r e => (hr r e).2)⟩
  case start => exact ⟨⟨_, b0, World.ownsRow_nil _ _ _ _⟩, b1, fun x hx => absurd hx (by simp), hB4, by omega⟩
  case assign =>
    intro l x W K hK
    gi_wp2
    exact hK
  case body =>
    rintro l pre ⟨xv, xb, xq⟩ W hI ⟨hlen, hx, hbb⟩
    obtain ⟨⟨v, hv, hrow⟩, hq, hbod, hB, hs⟩ := hI
    obtain ⟨xa, xc, hxv, _, _, _⟩ := own_slice hx
    dsimp only at hxv
    subst hxv
    have HX := Lib.hid hx; have HBB := Lib.hid hbb; have HBOD := Lib.hid hbod; have HROW := Lib.hid hrow; have HB := Lib.hid hB; have HV := Lib.hid hv; have HQ := Lib.hid hq
    have hc := hv.cell
    have hf := hv.frozen
    have hc2 := hq.cell
    have hf2 := hq.frozen
    clear hx hbb hbod hrow hB hv hq
    gi_wp2_with (gi_at_builtin; refine wpListIn_append_own _ rfl _ _ 34 rfl (w.heap.size + 5) 22 i0 (.slice none 0 0) 1 24 Try.underlying34 hi0 hz0 hz1 hz2 rfl (by decide) _ _ _ rfl (HROW.out.alloc _) ⟨W.heap.size, 0, none⟩ 1 1 [.slice xa xb.length xc] rfl rfl (cell_one_new _ _ _) (by simp [Value.oneCell']) (by unfold maxLen; omega) (by omega) (by simp; omega) ?_; intro v' w1 hown' hgrow _; obtain ⟨g', cap', rfl⟩ := ownsRow_succ hown'; have HO1 := Lib.hid hown'; have HG1 : Hid ((W.alloc (.cells #[.slice xa xb.length xc] 22)).grownBy w1 v.ownBlock) := hgrow; clear hown' hgrow; have HV1 := Lib.hid ((HV.out.alloc (.cells #[.slice xa xb.length xc] 22)).kept HG1.out (HV.out.not_row (by decide) HROW.out)); have HQ1 := Lib.hid ((HQ.out.alloc (.cells #[.slice xa xb.length xc] 22)).kept HG1.out (HQ.out.not_row (by decide) HROW.out)); have hc3 := HV1.out.cell; have hf3 := HV1.out.frozen; have HQ2 := Lib.hid (Boxed.other HQ1.out (B' := w.heap.size) (by simp) (.slice (some ⟨g', 0, none⟩) (pre.length + 1) cap')); have hc4 := HQ2.out.cell; have hf4 := HQ2.out.frozen)
    exact all_round HBB.out (by omega) (by omega) (by omega) HV.out HROW.out HQ.out HBOD.out HX.out HB.out hs HO1.out HG1.out
  case done =>
    rintro D xs W hD ⟨hS1, hS2⟩ hI hK
    obtain ⟨⟨v, hv, hrow⟩, hq, hbod, hB, hs⟩ := hI
    obtain ⟨va, vc, rfl, _, _, _⟩ := own_slice hrow
    have hc := hv.cell
    have hc2 := hq.cell
    have hf := hv.frozen
    have hf2 := hq.frozen
    have mixed : Try.prog.follows .mixedOrders = true := by kernel_rfl
    have HV := Lib.hid hv; have HQ := Lib.hid hq; have HROW := Lib.hid hrow; have HBOD := Lib.hid hbod; have HB := Lib.hid hB; have HK := Lib.hid hK
    have HQ2 := Lib.hid (hq.other (B' := w.heap.size) (by simp) (.slice va xs.length vc))
    have hc3 := HQ2.out.cell
    have hf3 := HQ2.out.frozen
    clear hv hq hrow hbod hB hK
    gi_wp2
    gi_region
    obtain ⟨W3, hW3⟩ : ∃ W3, W3 = ((W.setCell ⟨w.heap.size, 0, none⟩ (.slice va xs.length vc)).setCell ⟨w.heap.size + 1, 0, none⟩ (.int .i64 (lastQ p xs))).drew := ⟨_, rfl⟩
    rw [← hW3]
    have HE := Lib.hid (all_end HV.out HROW.out HQ.out HBOD.out HB.out HK.out (by omega) hW3)
    clear hW3 hc hc2 hf hf2 hc3 hf3 HQ2 HV HQ HROW HBOD HB HK
    gi_wp2
    obtain ⟨h1, h2, h3, h4, h5, h6⟩ := HE.out
    refine ⟨by simp, .inl ⟨_, _, rfl, run_takeDeferred h6, ?_⟩⟩
    refine ⟨_, results_cells rfl rfl rfl h1 h2 Try.underlying34 Try.underlying3 rfl rfl, ?_⟩
    exact ⟨_, xs, by rw [hS2], hS1, h3, h4, h5⟩
end Go.Proofs.Ytdeplooijjfekaa
