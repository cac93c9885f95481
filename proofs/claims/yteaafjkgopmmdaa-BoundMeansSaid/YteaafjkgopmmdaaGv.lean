import Derived.Test.YteaafjkgopmmdaaGm
import Derived.Maps.RangeWalk
namespace Go.Proofs.Yteaafjkgopmmdaa
open Go Go.RowKit Go.Maps

/-! Ranges over maps of the call's own, as functions: over any program, any plain key, any value. -/
/-- Block r is an iterator over the map b: the entry at the key x is still to come where left x. -/
def RangeG {α : Type} (P : Program) (tk : TypeId) (κ : α → Lit) (w : World) (b r n : Nat) (f : α → Option Value) (left : α → Bool) (cnt : Nat) : Prop :=
  ∃ (D : DataW Value) (L : Lit → Bool), w.ranges P tk anyR b r n D L cnt ∧ (∀ x, Maps.has D (κ x) = (f x).isSome) ∧ (∀ x v, f x = some v → ∀ z, D.atKey (κ x) z = .held v) ∧ ∀ x, left x = L (κ x)
section
variable {α : Type} {P : Program} {tk : TypeId} {κ : α → Lit} {w w' : World} {b r n cnt : Nat} {f : α → Option Value} {left : α → Bool}
theorem RangeG.map (h : RangeG P tk κ w b r n f left cnt) : MapG P tk κ w b n f := by
  obtain ⟨D, L, h1, h2, h3, _⟩ := h
  exact ⟨D, h1.owns, h2, h3⟩
theorem RangeG.left_eq (h : RangeG P tk κ w b r n f left cnt) : w.rangeLeft b r = cnt := by
  obtain ⟨D, L, h1, _⟩ := h
  exact h1.left_eq
theorem RangeG.kept {row : Option Nat} (h : RangeG P tk κ w b r n f left cnt) (hg : w.grownBy w' row) (hb : some b ≠ row) (hr : some r ≠ row) : RangeG P tk κ w' b r n f left cnt := by
  obtain ⟨D, L, h1, h2⟩ := h
  exact ⟨D, L, h1.kept hg hb hr, h2⟩
theorem RangeG.lt (h : RangeG P tk κ w b r n f left cnt) : r < w.heap.size := by
  obtain ⟨D, L, h1, _⟩ := h
  exact h1.lt
/-- How many entries there are. -/
theorem MapG.len {e t : TypeId} (h : MapG P tk κ w b n f) (ht : P.underlying t = some (.map tk e)) : ∃ D : DataW Value, IsMap D ∧ (∀ x, Maps.has D (κ x) = (f x).isSome) ∧ Maps.size D ≤ n ∧ ∀ ty, (Builtin.len_ #[t] ty #[.map (some b)]).run P w = .ok (.int .i64 (Maps.size D)) w := by
  obtain ⟨D, h1, h2, h3⟩ := h
  exact ⟨D, h1.isMap, h2, h1.size_le, fun ty => h1.len ht ty⟩
variable {ops : Array Oper} {rest : List Oper} {o : Oper} {a : Act} {Q : Exit → Act → World → Prop}
/-- 'range m'. -/
theorem wpList_range_G (hg : o.guard = none) (m : Operand) (t : TypeId) (hop : o.op = Op.range t m) (e : TypeId) (K : Keyed P tk) (ht : P.underlying t = some (.map tk e)) (hm : a.eval m = .map (some b)) (h : MapG P tk κ w b n f)
    (hK : ∀ w' cnt, RangeG P tk κ w' b w.heap.size n f (fun x => (f x).isSome) cnt → w.grownBy w' none → w'.heap.size = w.heap.size + 1 → wpList P ops Q rest (a.put o.dst (.pointer (some ⟨w.heap.size, 0, none⟩))) w') : wpList P ops Q (o :: rest) a w := by
  obtain ⟨D, h1, h2, h3⟩ := h
  exact wpList_range_own w hg m t hop tk e K ht anyR b n D hm h1 fun w' hr hgr hs => hK w' _ ⟨D, _, hr, h2, h3, fun x => (h2 x).symm⟩ hgr hs
/-- The step. V: the value at each key. -/
theorem wpList_next_G [DecidableEq α] (hg : o.guard = none) (it : Operand) (hop : o.op = Op.next it false) (K : Keyed P tk) {β : Type} (mkK : β → Value) (key : β → α) (V : β → Value)
    (invK : ∀ v kl, keyOf P tk v = some kl → ∃ x : β, v = mkK x ∧ kl = κ (key x)) (hi : ∀ x y, κ x = κ y → x = y) (hl : ∀ x, WideAt.IsKeyLit (κ x)) (hV : ∀ x v, f (key x) = some v → v = V x)
    (hit : a.eval it = .pointer (some ⟨r, 0, none⟩)) (h : RangeG P tk κ w b r n f left cnt)
    (hDone : (∀ x, left x = false) → wpList P ops Q rest (a.put o.dst (.tuple #[.bool false])) w)
    (hMore : ∀ (x : β) (w' : World) (cnt' : Nat), left (key x) = true → f (key x) = some (V x) → RangeG P tk κ w' b r n f (fun z => left z && !decide (z = key x)) cnt' → cnt' < cnt →
      w.grownBy w' (some r) → w'.heap.size = w.heap.size → (Instr.entry (.pointer (some ⟨r, 0, none⟩))).run P w' = .ok (.tuple #[mkK x, V x]) w' → wpList P ops Q rest (a.put o.dst (.tuple #[.bool true, mkK x, V x])) w') :
    wpList P ops Q (o :: rest) a w := by
  obtain ⟨D, L, h1, h2, h3, h4⟩ := h
  refine wpList_plain hg fun K' hK' => ?_
  unfold Oper.wp
  rcases h1.next K o.type with ⟨h0, hl0, hrun⟩ | ⟨kv, v, kl, y, w', cnt', hkey, hlk, hv, hat, hrun, hrg, hlt, hgr, hsz, hen⟩
  · simp [execOp, hop, hit, hrun, Result.andThen]
    exact hK' _ _ (hDone fun x => by rw [h4, hl0])
  · obtain ⟨x, rfl, rfl⟩ := invK kv kl hkey
    have hy := anyR_inv hv
    have hat' : ∀ zd, D.atKey (κ (key x)) zd = .held v := fun zd => by rw [hat zd, hy]
    have hh : (f (key x)).isSome = true := by rw [← h2]; exact has_true_of_atKey hat'
    obtain ⟨u, hu⟩ := Option.isSome_iff_exists.1 hh
    have huv : u = v := by
      have e1 := (h3 _ u hu (.held v)).symm.trans (hat' (.held v))
      simpa using e1
    subst huv
    obtain rfl := hV x u hu
    simp [execOp, hop, hit, hrun, Result.andThen]
    refine hK' _ _ (hMore x w' cnt' (by rw [h4]; exact hlk) hu ⟨D, _, hrg, h2, h3, fun z => ?_⟩ hlt hgr hsz hen)
    show (left z && !decide (z = key x)) = (L (κ z) && !(κ z).sameKey (κ (key x)))
    rw [h4]
    congr 2
    by_cases e : z = key x
    · subst e; rw [WideAt.sameKey_self (hl _)]; simp
    · rw [decide_eq_false e]
      cases hs : (κ z).sameKey (κ (key x)) with
      | false => rfl
      | true => exact absurd (hi _ _ (WideAt.sameKey_eq hs)) e
end
end Go.Proofs.Yteaafjkgopmmdaa

