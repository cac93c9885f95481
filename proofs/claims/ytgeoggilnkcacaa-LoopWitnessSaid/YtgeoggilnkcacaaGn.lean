import Derived.Test.YtgeoggilnkcacaaGe
namespace Go.Proofs.Ytgeoggilnkcacaa
open Go Go.RowKit

/-! Stores of several cells into a row of the call's own. -/
def setsL : List Value → Nat → List Value → List Value
  | xs, _, [] => xs
  | xs, o, v :: r => setsL (xs.set o v) (o + 1) r
theorem setsL_len : ∀ (us : List Value) (xs : List Value) (o : Nat), (setsL xs o us).length = xs.length
  | [], _, _ => rfl
  | v :: r, xs, o => by rw [setsL, setsL_len r, List.length_set]
theorem setsL_get : ∀ (us : List Value) (xs : List Value) (o j : Nat), o + us.length ≤ xs.length → (setsL xs o us)[j]? = if o ≤ j ∧ j < o + us.length then us[j - o]? else xs[j]?
  | [], xs, o, j, _ => by simp only [setsL, List.length_nil, Nat.add_zero]; rw [if_neg (by omega)]
  | v :: r, xs, o, j, h => by
    simp only [List.length_cons] at h
    rw [setsL, setsL_get r _ _ _ (by rw [List.length_set]; omega), List.length_cons]
    by_cases h1 : o + 1 ≤ j ∧ j < o + 1 + r.length
    · rw [if_pos h1, if_pos (by omega), show j - o = (j - (o + 1)) + 1 by omega, List.getElem?_cons_succ]
    · rw [if_neg h1]
      by_cases h2 : j = o
      · subst h2
        rw [if_pos (by omega), List.getElem?_set_self (by omega), Nat.sub_self]; rfl
      · rw [if_neg (by omega), List.getElem?_set_ne (by omega)]
theorem grownBy_step {a b c : World} {r : Option Nat} (h : a.grownBy b r) (k : b.grownBy c r) : a.grownBy c r :=
  ⟨k.os.trans h.os, k.tape.trans h.tape, k.output.trans h.output, Nat.le_trans h.size k.size, fun i hi hne => (k.block i (Nat.lt_of_lt_of_le hi h.size) hne).trans (h.block i hi hne)⟩
theorem own_setCells {base : Nat} {e : TypeId} {size n g cap : Nat} : ∀ (us : List Value) (o : Nat) (xs : List Value) (w : World), w.ownsRow base e size (.slice (some ⟨g, 0, none⟩) n cap) n xs →
    (w.setCells g o us).ownsRow base e size (.slice (some ⟨g, 0, none⟩) n cap) n (setsL xs o us) ∧ w.grownBy (w.setCells g o us) (some g)
  | [], _, _, w, h => ⟨h, World.grownBy.refl w _⟩
  | u :: r, o, xs, w, h => by
    obtain ⟨h1, h2⟩ := h.stored o u
    obtain ⟨h3, h4⟩ := own_setCells r (o + 1) _ _ h1
    exact ⟨h3, grownBy_step h2 h4⟩
theorem own_thereN {w : World} {base : Nat} {e : TypeId} {size n g c : Nat} {xs : List Value} (h : w.ownsRow base e size (.slice (some ⟨g, 0, none⟩) n c) n xs) {i : Nat} (hi : i < n) : w.there g (i * size) size := by
  rcases h.2 with ⟨hv, _⟩ | ⟨g', cap, cur, hv, hb, hg, hnc, hcm, hcs, ht⟩
  · cases hv
  · obtain ⟨rfl, rfl⟩ : g = g' ∧ c = cap := by injection hv; simp_all
    intro j hj
    have h1 : i * size + size ≤ c * size := by
      rw [← Nat.succ_mul]; exact Nat.mul_le_mul_right _ (by omega)
    have hj' : i * size + j < cur.size := by rw [hcs]; omega
    exact ⟨by rw [World.cell?]; simp [hg, hj'], by simp [World.frozen?, hg]⟩
/-- A store of several cells within a region that draws its order. -/
theorem step_store_mid {P : Program} {ops : Array Oper} {o : Oper} {ac : Act} {w : World} {K : Act → World → Prop} {Q : Exit → Act → World → Prop} {E : Prop} (hgd : o.guard = none) (ty : TypeId) (x y : Operand) (ho : o.op = .store ty x y)
    (b off : Nat) (cells : Array Value) (hx : ac.eval x = .pointer (some ⟨b, off, none⟩)) (hy : ac.eval y = .agg cells)
    (ht : w.there b off cells.size) (hi : (P.info? ty).map (·.size) = some cells.size) (h1 : cells.all (·.oneCell') = true)
    (h : K (ac.put o.dst undef) (w.setCells b off cells.toList)) : if Region.wanted o (yielded ops ac.tmps) = true then Oper.wp P o ac w K Q else E := by
  have hw : Region.wanted o (yielded ops ac.tmps) = true := by simp [Region.wanted, hgd]
  rw [if_pos hw]
  exact wp_store_mid ty x y ho b off cells hx hy ht hi h1 h
end Go.Proofs.Ytgeoggilnkcacaa

