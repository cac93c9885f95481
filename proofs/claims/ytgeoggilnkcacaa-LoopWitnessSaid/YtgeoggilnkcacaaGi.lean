import Derived.Test.YtgeoggilnkcacaaGc
import Derived.Orders
namespace Go.Proofs.Ytgeoggilnkcacaa
open Go

/-! A region that draws its order, by an invariant: what each operation, its forerunners done, makes. -/
theorem countP_lt {p q : Nat → Bool} (hle : ∀ j, q j = true → p j = true) {i : Nat} (hp : p i = true) (hq : q i = false) : ∀ l : List Nat, (i ∈ l → l.countP q < l.countP p) ∧ l.countP q ≤ l.countP p
  | [] => ⟨fun h => (by cases h), Nat.le_refl _⟩
  | x :: l => by
    obtain ⟨h1, h2⟩ := countP_lt hle hp hq l
    rw [List.countP_cons, List.countP_cons]
    by_cases hx : x = i
    · subst hx
      rw [hp, hq]
      exact ⟨fun _ => by simp; omega, by simp; omega⟩
    · have hxx : (if q x = true then 1 else 0) ≤ (if p x = true then 1 else 0) := by
        cases hqx : q x with
        | false => simp
        | true => rw [hle x hqx]; simp
      refine ⟨fun hm => ?_, by omega⟩
      have := h1 ((List.mem_cons.1 hm).resolve_left (fun e => hx e.symm))
      omega
section
variable {P : Program} {ops : Array Oper} {Q : Exit → Act → World → Prop}
theorem wpOp_mono' {i : Nat} {a : Act} {w : World} {K K' : Act → World → Prop} (h : ∀ a w, K a w → K' a w) (hh : wpOp P ops Q i K a w) : wpOp P ops Q i K' a w := by
  unfold wpOp at *
  split
  · rename_i he; simp only [he] at hh; exact h _ _ hh
  · rename_i o he
    simp only [he] at hh
    split
    · rename_i hw
      rw [if_pos hw] at hh
      exact hh.imp (fun x => Oper.wp_mono h x) id
    · rename_i hw
      rw [if_neg hw] at hh
      exact h _ _ hh
def unlisted (ops : Array Oper) (listed : Array Bool) : Nat := (List.range ops.size).countP fun i => !listed.getD i false
theorem all_listed {listed : Array Bool} (hl : listed.size = ops.size) (hB : ∀ i o, ops[i]? = some o → ∀ e ∈ o.after, Region.binds .any e = true → e.on < i) (h : Region.ready .any ops listed = []) : ∀ i, i < ops.size → listed.getD i false = true := by
  intro i
  induction i using Nat.strongRecOn with
  | ind i ih =>
    intro hi
    cases hd : listed.getD i false with
    | true => rfl
    | false =>
      have : i ∈ Region.ready .any ops listed := mem_ready.2 ⟨by
        have : i < listed.size := by omega
        rw [← hd]; simp [Array.getD, this], ops[i], Array.getElem?_eq_getElem hi, fun e he hb => by
          have hlt := hB i _ (Array.getElem?_eq_getElem hi) e he hb
          exact ih e.on hlt (by omega)⟩
      rw [h] at this; cases this
theorem getD_other (l : Array Bool) {i j : Nat} (h : j ≠ i) (b : Bool) : (l.setIfInBounds i true).getD j b = l.getD j b := by
  simp only [Array.getD_eq_getD_getElem?, Array.getElem?_setIfInBounds, if_neg (Ne.symm h)]
/-- What waits on another operation stands behind it. -/
def fwdB (ops : Array Oper) : Bool := (List.range ops.size).all fun i => ((ops[i]?).map fun o => o.after.all fun e => !Region.binds .any e || decide (e.on < i)).getD true
theorem fwd_of (h : fwdB ops = true) : ∀ i o, ops[i]? = some o → ∀ e ∈ o.after, Region.binds .any e = true → e.on < i := fun i o ho e he hb => by
  have hi := (Array.getElem?_eq_some_iff.1 ho).1
  have h1 := List.all_eq_true.1 h i (List.mem_range.2 hi)
  rw [ho] at h1
  simp only [Option.map_some, Option.getD_some, Array.all_eq_true_iff_forall_mem] at h1
  have h2 := h1 e he
  simpa [hb] using h2
theorem wp_region_inv {id : Nat} {a : Act} {w : World} (hm : P.follows .mixedOrders = true) (hF : fwdB ops = true)
    (I : (Nat → Bool) → Act → World → Prop) (h0 : I (fun _ => false) a { w with drawn := w.drawn + 1 })
    (hs : ∀ i o d a w, ops[i]? = some o → d i = false → (∀ e ∈ o.after, Region.binds .any e = true → d e.on = true) → I d a w → wpOp P ops Q i (I (fun j => if j = i then true else d j)) a w)
    (he : ∀ d a w, I d a w → (∀ i, i < ops.size → d i = true) → Q .normal a w) : (Code.region id ops true).wp P Q a w := by
  have hB := fwd_of hF
  refine wp_region_any hm ?_
  have key : ∀ (f : Nat) (listed : Array Bool) (a : Act) (w : World), listed.size = ops.size → unlisted ops listed ≤ f → I (fun j => listed.getD j false) a w → wpAny P .any ops Q f listed a w := by
    intro f
    induction f with
    | zero =>
      intro listed a w hl hu hI
      have hall : ∀ i, i < ops.size → listed.getD i false = true := fun i hi => by
        have h0 := List.countP_eq_zero.1 (Nat.le_zero.1 hu) i (List.mem_range.2 hi)
        simpa using h0
      refine ⟨?_, he _ a w hI hall⟩
      cases hr : Region.ready .any ops listed with
      | nil => rfl
      | cons i l =>
        have hi : i ∈ Region.ready .any ops listed := by rw [hr]; exact List.mem_cons_self
        obtain ⟨h1, o, ho, _⟩ := mem_ready.1 hi
        have hlt := (Array.getElem?_eq_some_iff.1 ho).1
        have h2 := hall i hlt
        have h3 : i < listed.size := by omega
        simp [Array.getD, h3] at h1 h2
        rw [h1] at h2; cases h2
    | succ f ih =>
      intro listed a w hl hu hI
      refine ⟨fun hr => he _ a w hI (all_listed hl hB hr), fun i hi => ?_⟩
      obtain ⟨h1, o, ho, hd⟩ := mem_ready.1 hi
      have hlt := (Array.getElem?_eq_some_iff.1 ho).1
      have h3 : i < listed.size := by omega
      have h1' : listed.getD i false = false := by simpa [Array.getD, h3] using h1
      refine wpOp_mono' (fun a' w' hI' => ih _ a' w' (by simpa using hl) ?_ ?_) (hs i o _ a w ho h1' hd hI)
      · have hlt2 := (countP_lt (p := fun i => !listed.getD i false) (q := fun j => !(listed.setIfInBounds i true).getD j false) (i := i) (fun j hj => by
            by_cases e : j = i
            · subst e; simp [Array.getD, h3] at hj
            · rw [getD_other _ e] at hj; exact hj) (by simpa using h1') (by simp [Array.getD, h3]) (List.range ops.size)).1 (List.mem_range.2 hlt)
        unfold unlisted at hu ⊢
        omega
      · have e : (fun j => (listed.setIfInBounds i true).getD j false) = fun j => if j = i then true else listed.getD j false := by
          funext j
          by_cases e : j = i
          · subst e; simp [Array.getD, h3]
          · rw [if_neg e, getD_other _ e]
        rw [e]; exact hI'
  refine key ops.size _ a _ (by simp) ?_ ?_
  · unfold unlisted
    exact Nat.le_trans List.countP_le_length (by simp)
  · have e : (fun j => (Array.replicate ops.size false).getD j false) = fun _ => false := by
      funext j
      simp [Array.getD]
    rw [e]; exact h0
end
theorem wpOp_at {P : Program} {ops : Array Oper} {Q : Exit → Act → World → Prop} {i : Nat} {o : Oper} {a : Act} {w : World} {K : Act → World → Prop} (ho : ops[i]? = some o) (hg : o.guard = none)
    (h : ∀ K' : Act → World → Prop, (∀ a w, K a w → K' a w) → o.wp P a w K' Q) : wpOp P ops Q i K a w := by
  unfold wpOp
  rw [ho]
  simp only [Region.wanted, hg, if_true]
  exact .inl (h K fun _ _ h => h)
end Go.Proofs.Ytgeoggilnkcacaa

