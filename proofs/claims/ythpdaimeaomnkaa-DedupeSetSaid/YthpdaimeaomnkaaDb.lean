import Derived.Test.YthpdaimeaomnkaaDa
import Derived.Test.YthpdaimeaomnkaaGm
import Derived.Test.YthpdaimeaomnkaaGe
import Derived.Deep.RegionWith
import Derived.Deep.DeepMust
namespace Go.Proofs.Ythpdaimeaomnkaa
open Go.Shelf Go.RowKit Go.Sort Go.Maps
set_option linter.unusedVariables false

set_option maxHeartbeats 1000000 in
theorem isRecord_any (s : Sp) (t : Int) (w : World) (ok : s.Ok) : Calls Try.prog 19 #[s.v, .int .u64 t] w fun e w' => e = .returned (.bool (recB t s)) ∧ Below w.heap.size w w' := by
  have HH := Lib.hid ok.host; have HN := Lib.hid ok.name; clear ok
  unfold Sp.v
  cases ht : (s.trace == t)
  · have HE : Hid (recB t s = false) := by show _ = _; simp [recB, ht]
    go_enter Try.func19, Try.ntmps19
    go_wp2_with fail
    go_ret
    exact ⟨ret_bool HE.out.symm, box1 _ _⟩
  · have HE : Hid (recB t s = mayB s) := by show _ = _; simp [recB, ht]
    go_enter Try.func19, Try.ntmps19
    go_wp2_with (go_at_call 29; refine (may_any s _ HH.out HN.out).mono ?_; rintro e w' ⟨rfl, hb⟩)
    go_ret
    exact ⟨ret_bool HE.out.symm, bel2 (box1 _ _) hb⟩

theorem own_ne_map {α : Type} {κ : α → Lit} {tk : TypeId} {w : World} {base : Nat} {e : TypeId} {size : Nat} {v : Value} {n : Nat} {xs : List Value} {b m : Nat} {f : α → Option Value} (h : w.ownsRow base e size v n xs) (hm : MapG Try.prog tk κ w b m f) : some b ≠ v.ownBlock := by
  rcases h.2 with ⟨rfl, _⟩ | ⟨g, cap, cur, rfl, _, hg, _⟩
  · simp [Value.ownBlock]
  · intro e
    have e : b = g := by simpa [Value.ownBlock] using e
    subst e
    obtain ⟨D, ⟨es, clock, hmb, _⟩, _⟩ := hm
    rw [hg] at hmb; cases hmb
theorem zero_int (w : World) : (zeroValue 3).run Try.prog w = .ok (.int .i64 0) w := by kernel_rfl
theorem lawU : Keyed Try.prog 23 := int_keyed Try.underlying23
theorem keyU_of {x : Int} (h : U64 x) : keyOf Try.prog 23 (.int .u64 x) = some (keyU x) :=
  keyOf_int_mk Try.underlying23 (by simp only [Lit.wf, show IntKind.u64.min = 0 from rfl, show IntKind.u64.max = 18446744073709551615 from rfl, Bool.and_eq_true, decide_eq_true_eq]; unfold U64 at h; omega)

/-- Where the loop of Of stands. -/
structure OfI (w wr : World) (L : List Sp) (t : Int) (n : Nat) (v : Value) (M : List Sp) (f : Int → Option Value) : Prop where
  cnt : Counts ((L.take n).filter (recB t)) M
  own : wr.ownsRow w.heap.size 29 8 v M.length (flatL M)
  mp : ∃ k, k ≤ n ∧ MapG Try.prog 23 keyU wr w.heap.size k f
  pl : PlacesOf M f
  bw : Below w.heap.size w wr
  len : M.length ≤ n
theorem OfI.below {w wr w' : World} {L : List Sp} {t : Int} {n : Nat} {v : Value} {M : List Sp} {f : Int → Option Value} (h : OfI w wr L t n v M f) (hb : Below wr.heap.size wr w') : OfI w w' L t n v M f :=
  { h with own := own_below h.own hb
           mp := by obtain ⟨k, hk, hm⟩ := h.mp; exact ⟨k, hk, hm.below hb⟩
           bw := bel2 h.bw hb }
theorem take_rec {L : List Sp} {t : Int} {n : Nat} (h : n < L.length) : (L.take (n + 1)).filter (recB t) = (L.take n).filter (recB t) ++ (if recB t L[n] then [L[n]] else []) := by
  rw [List.take_succ_eq_append_getElem h, List.filter_append]
  congr 1
  simp only [List.filter_cons, List.filter_nil]
theorem OfI.skip {w wr : World} {L : List Sp} {t : Int} {n : Nat} {v : Value} {M : List Sp} {f : Int → Option Value} (h : OfI w wr L t n v M f) (hn : n < L.length) (hr : recB t L[n] = false) : OfI w wr L t (n + 1) v M f :=
  { h with cnt := by rw [take_rec hn, hr]; simpa using h.cnt
           mp := by obtain ⟨k, hk, hm⟩ := h.mp; exact ⟨k, by omega, hm⟩
           len := by have := h.len; omega }
end Go.Proofs.Ythpdaimeaomnkaa
