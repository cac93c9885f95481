import Derived.Test.YteaafjkgopmmdaaGc
import Derived.Maps.OwnSet
namespace Go.Proofs.Yteaafjkgopmmdaa
open Go Go.RowKit Go.Maps

/-! Maps of the call's own, as functions: over any program, any plain key, any value. -/
def anyR (v : Value) : Option (DataW Value × List MemPlace) := some (.held v, [])
theorem anyR_inv {v : Value} {y : DataW Value × List MemPlace} (h : anyR v = some y) : y = (.held v, []) := by cases h; rfl
/-- Block b is a map of at most n entries: at the key x stands f x. -/
def MapG {α : Type} (P : Program) (tk : TypeId) (κ : α → Lit) (w : World) (b n : Nat) (f : α → Option Value) : Prop :=
  ∃ D : DataW Value, w.ownsMap P tk anyR b n D ∧ (∀ x, Maps.has D (κ x) = (f x).isSome) ∧ ∀ x v, f x = some v → ∀ z, D.atKey (κ x) z = .held v
section
variable {α : Type} {P : Program} {tk : TypeId} {κ : α → Lit} {w w' : World} {b n : Nat} {f : α → Option Value}
theorem MapG.lt (h : MapG P tk κ w b n f) : b < w.heap.size := by obtain ⟨D, h, _⟩ := h; exact h.lt
theorem MapG.new (w : World) : MapG P tk κ (w.alloc (.map #[] 0)) w.heap.size 0 (fun _ => none) :=
  ⟨.map [], World.ownsMap_made w P tk anyR, fun x => by simp [has_eq], fun x v h => by cases h⟩
theorem MapG.move (h : MapG P tk κ w b n f) (hb : w'.heap[b]? = w.heap[b]?) : MapG P tk κ w' b n f := by
  obtain ⟨D, ⟨es, clock, h1, r⟩, h2⟩ := h
  exact ⟨D, ⟨es, clock, hb.trans h1, r⟩, h2⟩
theorem MapG.below (h : MapG P tk κ w b n f) (hb : RowKit.Below w.heap.size w w') : MapG P tk κ w' b n f := h.move (hb.block b h.lt)
theorem MapG.grown {row : Option Nat} (h : MapG P tk κ w b n f) (hg : w.grownBy w' row) (hne : some b ≠ row) : MapG P tk κ w' b n f := h.move (hg.block b h.lt hne)
theorem MapG.alloc (h : MapG P tk κ w b n f) (o : Obj) : MapG P tk κ (w.alloc o) b n f := h.grown (World.grownBy_alloc w o none) (by simp)
theorem MapG.same (h : MapG P tk κ w b n f) {g : α → Option Value} (hg : ∀ x, f x = g x) : MapG P tk κ w b n g := by
  obtain rfl : f = g := funext hg
  exact h
/-- 'v, ok := m[k]'. -/
theorem MapG.look_ok {t e : TypeId} (h : MapG P tk κ w b n f) (K : Keyed P tk) (ht : P.underlying t = some (.map tk e)) {z : Value} (hz : (zeroValue e).run P w = .ok z w) {key : Value} {x : α} (hkey : keyOf P tk key = some (κ x)) :
    (Instr.lookup t (.map (some b)) key true).run P w = .ok (.tuple #[(f x).getD z, .bool (f x).isSome]) w := by
  obtain ⟨D, h1, h2, h3⟩ := h
  obtain ⟨v, ps, hrun, hv⟩ := h1.look_ok K ht hz (zd := .held z) (zp := []) rfl hkey
  rw [hrun, h2]
  have hv := anyR_inv hv
  simp only [Prod.mk.injEq] at hv
  cases hf : f x with
  | none =>
    rw [atKey_of_not_has (by rw [h2, hf]; rfl)] at hv
    have := hv.1; simp only [DataW.held.injEq] at this
    simp [this]
  | some u =>
    rw [h3 x u hf] at hv
    have := hv.1; simp only [DataW.held.injEq] at this
    simp [this]
/-- 'm[k]'. -/
theorem MapG.look {t e : TypeId} (h : MapG P tk κ w b n f) (K : Keyed P tk) (ht : P.underlying t = some (.map tk e)) {z : Value} (hz : (zeroValue e).run P w = .ok z w) {key : Value} {x : α} (hkey : keyOf P tk key = some (κ x)) :
    (Instr.lookup t (.map (some b)) key false).run P w = .ok ((f x).getD z) w := by
  obtain ⟨D, h1, h2, h3⟩ := h
  obtain ⟨v, ps, hrun, hv⟩ := h1.lookup K ht hz (zd := .held z) (zp := []) rfl hkey
  rw [hrun]
  have hv := anyR_inv hv
  simp only [Prod.mk.injEq] at hv
  cases hf : f x with
  | none =>
    rw [atKey_of_not_has (by rw [h2, hf]; rfl)] at hv
    have := hv.1; simp only [DataW.held.injEq] at this
    simp [this]
  | some u =>
    rw [h3 x u hf] at hv
    have := hv.1; simp only [DataW.held.injEq] at this
    simp [this]
theorem MapG.put [DecidableEq α] {D : DataW Value} (hm : IsMap D) (h2 : ∀ x, Maps.has D (κ x) = (f x).isSome) (h3 : ∀ x v, f x = some v → ∀ z, D.atKey (κ x) z = .held v) (hi : ∀ x y, κ x = κ y → x = y) (hl : ∀ x, WideAt.IsKeyLit (κ x))
    {y : α} {v : Value} (ho : w'.ownsMap P tk anyR b n (D.put (κ y) (.held v))) : MapG P tk κ w' b n (fun x => if x = y then some v else f x) := by
  refine ⟨_, ho, fun x => ?_, fun x u hu z => ?_⟩
  · by_cases e : x = y
    · subst e; simp [has_put_same hm (hl x)]
    · rw [has_put_other (fun h => e (hi _ _ h)), h2]; simp [e]
  · by_cases e : x = y
    · subst e; rw [atKey_put_same hm (hl x)]; simp at hu; rw [hu]
    · rw [atKey_put_other (fun h => e (hi _ _ h))]
      simp [e] at hu
      exact h3 x u hu z
/-- 'm[k] = v' at the operation. -/
theorem wpList_map_put [DecidableEq α] {ops : Array Oper} {rest : List Oper} {o : Oper} {a : Act} {Q : Exit → Act → World → Prop} (hg : o.guard = none) (m x v : Operand) (t : TypeId) (hop : o.op = Op.mapUpdate t m x v)
    (e : TypeId) (K : Keyed P tk) (ht : P.underlying t = some (.map tk e)) (hi : ∀ x y, κ x = κ y → x = y) (hl : ∀ x, WideAt.IsKeyLit (κ x)) (hm : a.eval m = .map (some b)) (hown : MapG P tk κ w b n f) (hn : n < maxLen)
    (key val : Value) (y : α) (hx : a.eval x = key) (hv : a.eval v = val) (hkey : keyOf P tk key = some (κ y))
    (hK : ∀ w', MapG P tk κ w' b (n + 1) (fun z => if z = y then some val else f z) → w.grownBy w' (some b) → wpList P ops Q rest (a.put o.dst undef) w') : wpList P ops Q (o :: rest) a w := by
  obtain ⟨D, h1, h2, h3⟩ := hown
  exact wpList_mapUpdate_own w hg m x v t hop tk e K ht anyR b n D hm h1 hn key val (κ y) hx hv hkey (.held val) [] rfl fun w' ho hgr => hK w' (MapG.put h1.isMap h2 h3 hi hl ho) hgr
end
def keyU (x : Int) : Lit := .int .u64 x
theorem keyU_inj (x y : Int) (h : keyU x = keyU y) : x = y := by simpa [keyU] using h
theorem keyU_is (x : Int) : WideAt.IsKeyLit (keyU x) := trivial
end Go.Proofs.Yteaafjkgopmmdaa

