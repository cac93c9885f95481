import Derived.Test.YthfhmohbfoolnaaKe
import Derived.Shelf.Abstract
namespace Go.Proofs.Ythfhmohbfoolnaa
open Go Go.RowKit Go.Maps Go.Sort Go.Shelf
open Go.WideElems (Fit rd_key rg_of)

/-! The landed file system: List and Unsafe; what each act makes of a file. -/
theorem files_u32 {w : World} {b k : Nat} {L : List Fl} (ho : w.ownsMap Try.prog 35 fileR b k (dF L)) : ∀ y ∈ L, y.n < 4294967296 := by
  obtain ⟨es, clock, _, F, _, hD⟩ := ho
  intro y hy
  unfold dF at hD
  simp only [DataW.map.injEq] at hD
  have hp : entF y ∈ L.map entF := List.mem_map.2 ⟨y, hy, rfl⟩
  rw [hD] at hp
  obtain ⟨x, hx, e⟩ := List.mem_map.1 (mem_sorted.1 hp)
  obtain ⟨q, hq⟩ := F.reads x hx
  have hk := rd_key hq
  rw [rg_of hq] at e
  rw [e] at hk
  obtain ⟨v, _, e2, hw⟩ := Maps.keyOf_int_inv Try.underlying35 hk
  simp only [entF, keyF, Lit.int.injEq, true_and] at e2
  subst e2
  simp only [Lit.wf, show IntKind.u32.min = 0 from rfl, show IntKind.u32.max = 4294967295 from rfl, Bool.and_eq_true, decide_eq_true_eq] at hw
  omega
theorem FsL.u32 {w : World} {S R : Nat → Prop} {p : Nat} {m : FSm} (h : FsL w S R p m) : ∀ y ∈ m.files, y.n < 4294967296 := by
  obtain ⟨b, fu, hne, hS, hR, hp, ho, _⟩ := h
  exact files_u32 ho
theorem enters_there : ∀ args w, (callFunc 27 args).run Try.prog w = .ok (.enter 27 args) w := enters_of Try.func27 (by kernel_rfl) rfl
theorem enters_unsafe : ∀ args w, (callFunc 26 args).run Try.prog w = .ok (.enter 26 args) w := enters_of Try.func26 (by kernel_rfl) rfl
set_option maxHeartbeats 1000000 in
theorem list_any (w : World) (S R : Nat → Prop) (p : Nat) (m : FSm) (hF : FsL w S R p m) (hb : m.files.length ≤ 1000000000) :
    Calls Try.prog 13 #[.pointer (some ⟨p, 0, none⟩)] w (NumsOut w (numsF false m.files)) := by
  go_enter Try.func13, Try.ntmps13
  go_wp2_with fail
  refine (nums_any false _ 27 rfl enters_there (fun x w _ => isThere_any x w) w S R p m hF hb hF.u32).mono ?_
  rintro e w5 ⟨a, c, rfl, h1, h2, h3, h4, h5⟩
  go_wp2_with fail
  go_ret
  exact ⟨a, c, rfl, h1, h2, h3, h4, h5⟩
set_option maxHeartbeats 1000000 in
theorem unsafe_any (w : World) (S R : Nat → Prop) (p : Nat) (m : FSm) (hF : FsL w S R p m) (hb : m.files.length ≤ 1000000000) :
    Calls Try.prog 12 #[.pointer (some ⟨p, 0, none⟩)] w (NumsOut w (numsF true m.files)) := by
  go_enter Try.func12, Try.ntmps12
  go_wp2_with fail
  refine (nums_any true _ 26 rfl enters_unsafe (fun x w hx => isUnsafe_any x hx w) w S R p m hF hb hF.u32).mono ?_
  rintro e w5 ⟨a, c, rfl, h1, h2, h3, h4, h5⟩
  go_wp2_with fail
  go_ret
  exact ⟨a, c, rfl, h1, h2, h3, h4, h5⟩
/-- What is done to a number's file: the error, and the file. -/
def makeG (k : Nat) (x : Fl) : Int × Fl := if x.there = true ∨ looseF x = true then (9, x) else if 63 < k then (6, x) else (0, { x with there := true })
def moreG (b : ByteArray) (x : Fl) : Int × Fl := if x.there = true then (0, appF x b) else (5, x)
def lessG (s : Int) (x : Fl) : Int × Fl := if x.there = true then (if s < 0 ∨ (x.now.size : Int) < s then (4, x) else (0, cutF x s.toNat)) else (5, x)
def safeG (falls : Bool) (x : Fl) : Int × Fl := if x.there = true ∨ looseF x = true then (0, if falls = true then x else syncedF x) else (5, x)
def awayG (x : Fl) : Int × Fl := if x.there = true then (0, goneF x) else (5, x)
/-- Block q holds a file; another one there behind. -/
def Turned (w w' : World) (q : Nat) (x : Fl) : Prop := Off (fun k => k = q) w w' ∧ w'.heap[q]? = some (.cells (flC x) 69)
theorem Turned.no {w w' : World} {q : Nat} {x : Fl} (h : w.heap[q]? = some (.cells (flC x) 69)) (hb : Below w.heap.size w w') : Turned w w' q x :=
  ⟨Off.of_below hb, by rw [hb.block q (Array.getElem?_eq_some_iff.1 h).1]; exact h⟩
theorem file_cells {w : World} {q : Nat} {x : Fl} (h : w.heap[q]? = some (.cells (flC x) 69)) :
    w.cell? ⟨q, 0, none⟩ = some (.bool x.there) ∧ w.cell? ⟨q, 1, none⟩ = some (.string x.now) ∧ w.cell? ⟨q, 2, none⟩ = some (.bool x.kept) ∧ w.cell? ⟨q, 3, none⟩ = some (.string x.safe) ∧
    w.frozen? ⟨q, 0, none⟩ = false ∧ w.frozen? ⟨q, 1, none⟩ = false ∧ w.frozen? ⟨q, 2, none⟩ = false ∧ w.frozen? ⟨q, 3, none⟩ = false :=
  ⟨cells_cell h rfl, cells_cell h rfl, cells_cell h rfl, cells_cell h rfl, cells_frozen h 0, cells_frozen h 1, cells_frozen h 2, cells_frozen h 3⟩
theorem hx_now {x : Fl} (h : OkX x) : x.there = false → x.now = ByteArray.empty := h.1
theorem turn_at (w : World) (q i : Nat) (v : Value) : Off (fun k => k = q) w (w.setCell ⟨q, i, none⟩ v) := set_off _ _ q i _ rfl
set_option maxRecDepth 20000 in
set_option maxHeartbeats 2000000 in
theorem remove1_any (x : Fl) (q : Nat) (fl : Bool) (w : World) (hq : w.heap[q]? = some (.cells (flC x) 69)) :
    Calls Try.prog 43 #[.pointer (some ⟨q, 0, none⟩), .bool fl] w fun e w' => e = .returned (.int .i64 (awayG x).1) ∧ Turned w w' q (awayG x).2 := by
  obtain ⟨n, t, k, nw, sf⟩ := x
  obtain ⟨c0, c1, c2, c3, f0, f1, f2, f3⟩ := file_cells hq
  simp only at c0 c1 c2 c3
  have HQ := Lib.hid hq; clear hq
  cases t
  · go_enter Try.func43, Try.ntmps43
    go_wp2
    go_ret
    exact ⟨rfl, Turned.no HQ.out (Below.refl _ _)⟩
  · go_enter Try.func43, Try.ntmps43
    go_wp2
    go_ret
    exact ⟨rfl, (turn_at _ q 0 _).trans (turn_at _ q 1 _), set_heap (set_heap HQ.out 0 _) 1 _⟩
set_option maxRecDepth 20000 in
set_option maxHeartbeats 2000000 in
theorem sync1_any (x : Fl) (hx : OkX x) (q : Nat) (fl : Bool) (w : World) (hq : w.heap[q]? = some (.cells (flC x) 69)) :
    Calls Try.prog 33 #[.pointer (some ⟨q, 0, none⟩), .bool fl] w fun e w' => e = .returned (.int .i64 (safeG fl x).1) ∧ Turned w w' q (safeG fl x).2 := by
  have HX := Lib.hid hx; clear hx
  have HU := Lib.hid (isUnsafe_any x HX.out)
  have hln := hx_now HX.out
  obtain ⟨n, t, k, nw, sf⟩ := x
  cases t
  · have : nw = ByteArray.empty := hln rfl
    subst this
    clear hln
    cases hl : looseF ⟨n, false, k, ByteArray.empty, sf⟩
    · have HL := Lib.hid hl; clear hl
      rw [HL.out] at HU
      obtain ⟨c0, c1, c2, c3, f0, f1, f2, f3⟩ := file_cells hq
      simp only at c0 c1 c2 c3
      have HQ := Lib.hid hq; clear hq
      go_enter Try.func33, Try.ntmps33
      go_wp2_with fail
      refine (HU.out _).mono ?_
      rintro e w5 ⟨rfl, hb5⟩
      go_wp2
      go_ret
      simp only [safeG, HL.out]
      exact ⟨rfl, Turned.no HQ.out hb5⟩
    · have HL := Lib.hid hl; clear hl
      rw [HL.out] at HU
      obtain ⟨c0, c1, c2, c3, f0, f1, f2, f3⟩ := file_cells hq
      simp only at c0 c1 c2 c3
      have HQ := Lib.hid hq; clear hq
      go_enter Try.func33, Try.ntmps33
      go_wp2_with fail
      refine (HU.out _).mono ?_
      rintro e w5 ⟨rfl, hb5⟩
      have hT5 := Turned.no HQ.out hb5
      have HT5 := Lib.hid hT5
      obtain ⟨d0, d1, d2, d3, g0, g1, g2, g3⟩ := file_cells hT5.2
      simp only at d0 d1 d2 d3
      clear c0 c1 c2 c3 f0 f1 f2 f3 hT5
      cases fl
      · go_wp2
        go_ret
        simp only [safeG, HL.out]
        exact ⟨rfl, (HT5.out.1.trans (turn_at _ q 2 _)).trans (turn_at _ q 3 _), set_heap (set_heap HT5.out.2 2 _) 3 _⟩
      · go_wp2
        go_ret
        simp only [safeG, HL.out]
        exact ⟨rfl, HT5.out⟩
  · obtain ⟨c0, c1, c2, c3, f0, f1, f2, f3⟩ := file_cells hq
    simp only at c0 c1 c2 c3
    have HQ := Lib.hid hq; clear hq hln
    cases fl
    · go_enter Try.func33, Try.ntmps33
      go_wp2
      go_ret
      exact ⟨rfl, (turn_at _ q 2 _).trans (turn_at _ q 3 _), set_heap (set_heap HQ.out 2 _) 3 _⟩
    · go_enter Try.func33, Try.ntmps33
      go_wp2
      go_ret
      exact ⟨rfl, Turned.no HQ.out (Below.refl _ _)⟩
set_option maxRecDepth 20000 in
set_option maxHeartbeats 2000000 in
theorem create1_any (S R : Nat → Prop) (p : Nat) (m : FSm) (hb : m.files.length ≤ 1000000000) (x : Fl) (hx : OkX x) (q bx : Nat) (fl : Bool) (w : World) (hF : FsL w S R p m) (hq : w.heap[q]? = some (.cells (flC x) 69)) (hbx : w.cell? ⟨bx, 0, none⟩ = some (.pointer (some ⟨p, 0, none⟩))) :
    Calls Try.prog 31 #[.pointer (some ⟨q, 0, none⟩), .bool fl, .pointer (some ⟨bx, 0, none⟩)] w fun e w' => e = .returned (.int .i64 (makeG (numsF false m.files).length x).1) ∧ Turned w w' q (makeG (numsF false m.files).length x).2 := by
  have HX := Lib.hid hx; clear hx
  have HU := Lib.hid (isUnsafe_any x HX.out)
  have HF := Lib.hid hF; clear hF
  have hbl : bx < w.heap.size := by
    unfold World.cell? at hbx
    split at hbx
    · rename_i h; exact (Array.getElem?_eq_some_iff.1 h).1
    · cases hbx
  obtain ⟨n, t, k, nw, sf⟩ := x
  obtain ⟨c0, c1, c2, c3, f0, f1, f2, f3⟩ := file_cells hq
  simp only at c0 c1 c2 c3
  have HQ := Lib.hid hq; clear hq
  cases t
  · cases hl : looseF ⟨n, false, k, nw, sf⟩
    · have HL := Lib.hid hl; clear hl
      rw [HL.out] at HU
      go_enter Try.func31, Try.ntmps31
      go_wp2_with fail
      refine (HU.out _).mono ?_
      rintro e w5 ⟨rfl, hb5⟩
      have hbx5 : w5.cell? ⟨bx, 0, none⟩ = some (.pointer (some ⟨p, 0, none⟩)) := by rw [hb5.cell (p := ⟨bx, 0, none⟩) hbl]; exact hbx
      have HF5 := Lib.hid (HF.out.below hb5)
      have HB5 := Lib.hid hb5
      clear c0 c1 c2 c3 f0 f1 f2 f3 hbx hb5
      go_wp2_with fail
      refine (list_any w5 S R p m HF5.out hb).mono ?_
      rintro e w6 ⟨a, c, rfl, h1, h2, h3, h4, h5⟩
      have hT6 := Turned.no HQ.out (HB5.out.trans (h5.mono HB5.out.size))
      have HT6 := Lib.hid hT6
      obtain ⟨d0, d1, d2, d3, g0, g1, g2, g3⟩ := file_cells hT6.2
      simp only at d0 d1 d2 d3
      clear h1 h2 h3 h4 h5 hT6
      by_cases hN : 63 < (numsF false m.files).length
      · have HE : Hid (makeG (numsF false m.files).length ⟨n, false, k, nw, sf⟩ = (6, ⟨n, false, k, nw, sf⟩)) := by show _ = _; simp [makeG, HL.out, hN]
        go_wp2
        go_ret
        rw [HE.out]
        exact ⟨rfl, HT6.out⟩
      · have HE : Hid (makeG (numsF false m.files).length ⟨n, false, k, nw, sf⟩ = (0, ⟨n, true, k, nw, sf⟩)) := by show _ = _; simp [makeG, HL.out, hN]
        go_wp2
        go_ret
        rw [HE.out]
        exact ⟨rfl, HT6.out.1.trans (turn_at _ q 0 _), set_heap HT6.out.2 0 _⟩
    · have HL := Lib.hid hl; clear hl
      rw [HL.out] at HU
      have HE : Hid (makeG (numsF false m.files).length ⟨n, false, k, nw, sf⟩ = (9, ⟨n, false, k, nw, sf⟩)) := by show _ = _; simp [makeG, HL.out]
      rw [HE.out]
      go_enter Try.func31, Try.ntmps31
      go_wp2_with fail
      refine (HU.out _).mono ?_
      rintro e w5 ⟨rfl, hb5⟩
      go_wp2
      go_ret
      exact ⟨rfl, Turned.no HQ.out hb5⟩
  · have HE : Hid (makeG (numsF false m.files).length ⟨n, true, k, nw, sf⟩ = (9, ⟨n, true, k, nw, sf⟩)) := by show _ = _; simp [makeG]
    rw [HE.out]
    go_enter Try.func31, Try.ntmps31
    go_wp2
    go_ret
    exact ⟨rfl, Turned.no HQ.out (Below.refl _ _)⟩
end Go.Proofs.Ythfhmohbfoolnaa
