import Derived.Test.YthfhmohbfoolnaaFv
import Derived.Test.YthfhmohbfoolnaaKa
namespace Go.Proofs.Ythfhmohbfoolnaa
open Go Go.RowKit Go.Maps

/-! Maps from numbers to what is no more than a value: the law's own. -/
def strH (v : Value) : Option (DataW Value × List MemPlace) := match v with | .string _ => some (.held v, []) | _ => none
def boolH (v : Value) : Option (DataW Value × List MemPlace) := match v with | .bool _ => some (.held v, []) | _ => none
theorem strH_inv {v : Value} {y : DataW Value × List MemPlace} (h : strH v = some y) : y = (.held v, []) := by
  unfold strH at h; split at h
  · cases h; rfl
  · cases h
theorem boolH_inv {v : Value} {y : DataW Value × List MemPlace} (h : boolH v = some y) : y = (.held v, []) := by
  unfold boolH at h; split at h
  · cases h; rfl
  · cases h
/-- The numbers of X are its keys, each with its value. -/
def MapX (Rv : Value → Option (DataW Value × List MemPlace)) (w : World) (b cnt : Nat) (X : Nat → Prop) (val : Nat → Value) : Prop :=
  ∃ D, w.ownsMap Try.prog 35 Rv b cnt D ∧ (∀ n, Maps.has D (keyF n) = true ↔ X n) ∧ (∀ n, X n → ∀ z, D.atKey (keyF n) z = .held (val n)) ∧ ∀ k, Maps.has D k = true → ∃ n, k = keyF n
section
variable {Rv : Value → Option (DataW Value × List MemPlace)} {w w' : World} {b cnt : Nat} {X : Nat → Prop} {val : Nat → Value}
theorem MapX.lt (h : MapX Rv w b cnt X val) : b < w.heap.size := by obtain ⟨D, h, _⟩ := h; exact h.lt
theorem MapX.new (Rv : Value → Option (DataW Value × List MemPlace)) (w : World) (val : Nat → Value) : MapX Rv (w.alloc (.map #[] 0)) w.heap.size 0 (fun _ => False) val := by
  refine ⟨.map [], World.ownsMap_made w Try.prog 35 Rv, fun n => ?_, fun n h => h.elim, fun k h => ?_⟩
  · simp [has_eq]
  · simp [has_eq] at h
theorem MapX.move (h : MapX Rv w b cnt X val) (hb : w'.heap[b]? = w.heap[b]?) : MapX Rv w' b cnt X val := by
  obtain ⟨D, ⟨es, clock, h1, r⟩, h2⟩ := h
  exact ⟨D, ⟨es, clock, hb.trans h1, r⟩, h2⟩
theorem MapX.off {S : Nat → Prop} (h : MapX Rv w b cnt X val) (ho : Off S w w') (hn : ¬ S b) : MapX Rv w' b cnt X val := h.move (ho.block b h.lt hn)
theorem MapX.below (h : MapX Rv w b cnt X val) (hb : Below w.heap.size w w') : MapX Rv w' b cnt X val := h.move (hb.block b h.lt)
theorem MapX.iff (h : MapX Rv w b cnt X val) {Y : Nat → Prop} (hXY : ∀ n, X n ↔ Y n) : MapX Rv w b cnt Y val := by
  obtain ⟨D, h1, h2, h3, h4⟩ := h
  exact ⟨D, h1, fun n => (h2 n).trans (hXY n), fun n hn => h3 n ((hXY n).2 hn), h4⟩
theorem MapX.put {D : DataW Value} {v : Value} {n : Nat} (hm : IsMap D) (h2 : ∀ n, Maps.has D (keyF n) = true ↔ X n) (h3 : ∀ n, X n → ∀ z, D.atKey (keyF n) z = .held (val n)) (h4 : ∀ k, Maps.has D k = true → ∃ n, k = keyF n)
    (ho : w'.ownsMap Try.prog 35 Rv b cnt (D.put (keyF n) (.held v))) (hv : val n = v) : MapX Rv w' b cnt (fun k => k = n ∨ X k) val := by
  refine ⟨_, ho, fun k => ?_, fun k hk z => ?_, fun k hk => ?_⟩
  · by_cases e : k = n
    · subst e; rw [has_put_same hm (keyF_is _)]; simp
    · rw [has_put_other (fun h => e (keyF_inj.1 h)), h2]; simp [e]
  · by_cases e : k = n
    · subst e; rw [atKey_put_same hm (keyF_is _), hv]
    · rw [atKey_put_other (fun h => e (keyF_inj.1 h))]
      exact h3 k (hk.elim (fun h => absurd h e) id) z
  · by_cases e : k = keyF n
    · exact ⟨n, e⟩
    · rw [has_put_other e] at hk; exact h4 k hk
theorem MapX.del {D : DataW Value} {n : Nat} (h2 : ∀ n, Maps.has D (keyF n) = true ↔ X n) (h3 : ∀ n, X n → ∀ z, D.atKey (keyF n) z = .held (val n)) (h4 : ∀ k, Maps.has D k = true → ∃ n, k = keyF n)
    (ho : w'.ownsMap Try.prog 35 Rv b cnt (D.del (keyF n))) : MapX Rv w' b cnt (fun k => k ≠ n ∧ X k) val := by
  refine ⟨_, ho, fun k => ?_, fun k hk z => ?_, fun k hk => ?_⟩
  · by_cases e : k = n
    · subst e; rw [has_del_same]; simp
    · rw [has_del_other (fun h => e (keyF_inj.1 h)), h2]; simp [e]
  · rw [atKey_del_other (fun h => hk.1 (keyF_inj.1 h))]; exact h3 k hk.2 z
  · by_cases e : k = keyF n
    · exact ⟨n, e⟩
    · rw [has_del_other e] at hk; exact h4 k hk
theorem MapX.none (h : MapX Rv w b cnt X val) (hX : ∀ n, ¬ X n) : ∀ (ty t e : TypeId), Try.prog.underlying t = some (.map 35 e) → (Builtin.len_ #[t] ty #[.map (some b)]).run Try.prog w = .ok (.int .i64 0) w := by
  intro ty t e ht
  obtain ⟨D, h1, h2, _, h4⟩ := h
  have hl := h1.len ht ty
  obtain ⟨es, rfl, _, hk⟩ := h1.entries lawF
  cases es with
  | nil => exact hl
  | cons p es =>
    exfalso
    have : Maps.has (.map (p :: es)) p.1 = true := by rw [has_eq]; simp [WideAt.sameKey_self (hk p (List.mem_cons_self ..))]
    obtain ⟨n, hn⟩ := h4 _ this
    rw [hn] at this
    exact hX n ((h2 n).1 this)
end
theorem zero_string (w : World) : (zeroValue 9).run Try.prog w = .ok (.string ⟨#[]⟩) w := by kernel_rfl
theorem zero_bool (w : World) : (zeroValue 4).run Try.prog w = .ok (.bool false) w := by kernel_rfl
section
variable {w : World} {b cnt : Nat} {X : Nat → Prop} {val : Nat → Value}
/-- 'v, ok := m[n]' at texts. -/
theorem MapX.str_yes (h : MapX strH w b cnt X val) {n : Nat} (hn : n < 4294967296) (hX : X n) : (Instr.lookup 41 (.map (some b)) (.int .u32 (n : Int)) true).run Try.prog w = .ok (.tuple #[val n, .bool true]) w := by
  obtain ⟨D, h1, h2, h3, _⟩ := h
  obtain ⟨v, ps, hrun, hv⟩ := h1.look_ok lawF Try.underlying41 (zero_string w) (zd := .held (.string ⟨#[]⟩)) (zp := []) rfl (keyF_of hn)
  rw [h3 n hX] at hv
  have := strH_inv hv
  simp only [Prod.mk.injEq, DataW.held.injEq] at this
  rw [hrun, this.1, (h2 n).2 hX]
theorem MapX.str_no (h : MapX strH w b cnt X val) {n : Nat} (hn : n < 4294967296) (hX : ¬ X n) : (Instr.lookup 41 (.map (some b)) (.int .u32 (n : Int)) true).run Try.prog w = .ok (.tuple #[.string ⟨#[]⟩, .bool false]) w := by
  obtain ⟨D, h1, h2, h3, _⟩ := h
  have hno : Maps.has D (keyF n) = false := by
    cases hh : Maps.has D (keyF n)
    · rfl
    · exact absurd ((h2 n).1 hh) hX
  obtain ⟨v, ps, hrun, hv⟩ := h1.look_ok lawF Try.underlying41 (zero_string w) (zd := .held (.string ⟨#[]⟩)) (zp := []) rfl (keyF_of hn)
  rw [atKey_of_not_has hno] at hv
  have := strH_inv hv
  simp only [Prod.mk.injEq, DataW.held.injEq] at this
  rw [hrun, ← this.1, hno]
/-- 'm[n]' at what is true or not. -/
theorem MapX.bool_yes (h : MapX boolH w b cnt X val) {n : Nat} (hn : n < 4294967296) (hX : X n) (hv1 : val n = .bool true) : (Instr.lookup 42 (.map (some b)) (.int .u32 (n : Int)) false).run Try.prog w = .ok (.bool true) w := by
  obtain ⟨D, h1, h2, h3, _⟩ := h
  obtain ⟨v, ps, hrun, hv⟩ := h1.lookup lawF Try.underlying42 (zero_bool w) (zd := .held (.bool false)) (zp := []) rfl (keyF_of hn)
  rw [h3 n hX] at hv
  have := boolH_inv hv
  simp only [Prod.mk.injEq, DataW.held.injEq] at this
  rw [hrun, ← this.1, hv1]
theorem MapX.bool_no (h : MapX boolH w b cnt X val) {n : Nat} (hn : n < 4294967296) (hX : ¬ X n) : (Instr.lookup 42 (.map (some b)) (.int .u32 (n : Int)) false).run Try.prog w = .ok (.bool false) w := by
  obtain ⟨D, h1, h2, h3, _⟩ := h
  have hno : Maps.has D (keyF n) = false := by
    cases hh : Maps.has D (keyF n)
    · rfl
    · exact absurd ((h2 n).1 hh) hX
  obtain ⟨v, ps, hrun, hv⟩ := h1.lookup lawF Try.underlying42 (zero_bool w) (zd := .held (.bool false)) (zp := []) rfl (keyF_of hn)
  rw [atKey_of_not_has hno] at hv
  have := boolH_inv hv
  simp only [Prod.mk.injEq, DataW.held.injEq] at this
  rw [hrun, ← this.1]
end
/-! What a crash leaves of what was there. -/
theorem read_there {m : FSm} (ok : m.Ok) {n : Nat} (h : n ∈ numsF false m.files) : readF m n = ((getF m.files n).now, 0) := by
  have h2 : (getF m.files n).there = true := (mem_nums_get ok.1).1 h
  unfold readF
  rw [if_pos h2]
/-- A number that is there, and is not unsafe: behind a crash it is there as it was. -/
theorem safe_stays {m : FSm} (ok : m.Ok) (T : List Ft) {n : Nat} (h1 : n ∈ numsF false m.files) (h2 : n ∉ numsF true m.files) : n ∈ numsF false (crashF m T).files ∧ (readF (crashF m T) n).1 = (readF m n).1 := by
  have hl : looseF (getF m.files n) = false := by
    cases hh : looseF (getF m.files n)
    · rfl
    · exact absurd ((mem_nums_get ok.1).2 (show pickF true _ = true from hh)) h2
  obtain ⟨ok2, hk, _, _⟩ := crash_all ok T
  have hg := hk n hl
  refine ⟨(mem_nums_get ok2.1).2 (by rw [hg]; exact (mem_nums_get ok.1).1 h1), ?_⟩
  unfold readF
  rw [hg]
def U32 (m : FSm) : Prop := ∀ y ∈ m.files, y.n < 4294967296
theorem u32_act {m : FSm} (h : U32 m) {x : Fl} (hx : x.n < 4294967296) (s : Bool) : U32 (actF m x s).1 := by
  have hp : ∀ y ∈ putF m.files x, y.n < 4294967296 := fun y hy => (mem_putF' hy).elim (fun e => by rw [e]; exact hx) (h y)
  unfold actF
  split
  · show ∀ y ∈ (if s = true then m.files else putF m.files x), _
    split
    · exact h
    · exact hp
  · exact hp
theorem u32_crash {m : FSm} (h : U32 m) (T : List Ft) : U32 (crashF m T) := by
  have key : ∀ k, ∀ y ∈ crashTo m.files T (numsF true m.files) k, y.n < 4294967296 := by
    intro k
    induction k with
    | zero => exact h
    | succ k ih =>
      intro y hy
      rw [crashTo] at hy
      rcases mem_putF' hy with e | hy
      · rw [e, left_n, getF_n]
        by_cases hk : k < (numsF true m.files).length
        · have : (numsF true m.files).getD k 0 ∈ numsF true m.files := by simp [List.getD, hk]
          obtain ⟨z, hz, e2, _⟩ := mem_nums.1 this
          rw [← e2]; exact h z hz
        · have : (numsF true m.files).getD k 0 = 0 := by simp [List.getD]; rw [List.getElem?_eq_none (by omega)]; rfl
          rw [this]; omega
      · exact ih y hy
  exact key _
theorem u32_do {m : FSm} (h : U32 m) {a : Ac} (ha : a.n < 4294967296) : U32 (doF m a).1 := by
  have hg : (getF m.files a.n).n < 4294967296 := by rw [getF_n]; exact ha
  unfold doF
  split
  · unfold createF
    split
    · exact h
    · split
      · exact h
      · split
        · exact h
        · exact u32_act h (by first | exact ha | exact hg) _
  split
  · unfold appendF
    split
    · exact h
    · split
      · exact h
      · exact u32_act h (by first | exact ha | exact hg) _
  split
  · unfold truncF
    split
    · exact h
    · split
      · exact h
      · split
        · exact h
        · exact u32_act h (by first | exact ha | exact hg) _
  split
  · unfold syncF
    split
    · exact h
    · split
      · exact h
      · exact u32_act h (by first | exact ha | exact hg) _
  split
  · unfold removeF
    split
    · exact h
    · split
      · exact h
      · exact u32_act h (by first | exact ha | exact hg) _
  split
  · exact h
  split
  · exact u32_crash h _
  · exact h
theorem nums_u32 {lo : Bool} {m : FSm} (h : U32 m) {n : Nat} (hn : n ∈ numsF lo m.files) : n < 4294967296 := by
  obtain ⟨y, hy, rfl, _⟩ := mem_nums.1 hn
  exact h y hy
end Go.Proofs.Ythfhmohbfoolnaa
