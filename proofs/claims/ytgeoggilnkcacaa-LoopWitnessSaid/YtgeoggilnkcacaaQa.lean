import Derived.Test.YtgeoggilnkcacaaUd
namespace Go.Proofs.Ytgeoggilnkcacaa
set_option linter.unusedVariables false

/-! Layers of least sums: plain facts (stage 15), over any layers that follow the rule. -/
/-- X k h: what the host h has in the layer k; E: from, to, weight. -/
structure LayersAre (n : Nat) (E : List (Nat × Nat × Int)) (X : Nat → Nat → Int) : Prop where
  inr : ∀ e ∈ E, e.1 < n ∧ e.2.1 < n
  zero : ∀ h, h < n → X 0 h = 0
  mono : ∀ k h, h < n → X (k + 1) h ≤ X k h
  le : ∀ k, ∀ e ∈ E, X (k + 1) e.2.1 ≤ X k e.1 + e.2.2
  by_ : ∀ k h, h < n → X (k + 1) h < X k h → ∃ e ∈ E, e.2.1 = h ∧ X (k + 1) h = X k e.1 + e.2.2
section
variable {n : Nat} {E : List (Nat × Nat × Int)} {X : Nat → Nat → Int} {y : Nat → Int}
theorem LayersAre.down (L : LayersAre n E X) {h : Nat} (hh : h < n) : ∀ (i j : Nat), i ≤ j → X j h ≤ X i h
  | i, 0, hij => by obtain rfl : i = 0 := by omega
                    exact Int.le_refl _
  | i, j + 1, hij => by
    by_cases e : i = j + 1
    · subst e; exact Int.le_refl _
    · have := L.down hh i j (by omega)
      have := L.mono j h hh
      omega
theorem LayersAre.below (L : LayersAre n E X) {h : Nat} (hh : h < n) (k : Nat) : X k h ≤ 0 := by
  have h1 := L.down hh 0 k (Nat.zero_le _)
  have h2 := L.zero h hh
  omega
/-- Numbers for which all edges hold, none above 0, are nowhere above any layer. -/
theorem LayersAre.above (L : LayersAre n E X) (hy : ∀ e ∈ E, y e.2.1 ≤ y e.1 + e.2.2) {top : Int} (ht : ∀ h, h < n → y h ≤ top) : ∀ (k h : Nat), h < n → y h - top ≤ X k h
  | 0, h, hh => by have := L.zero h hh; have := ht h hh; omega
  | k + 1, h, hh => by
    have ih := L.above hy ht k
    by_cases c : X (k + 1) h < X k h
    · obtain ⟨e, he, e1, e2⟩ := L.by_ k h hh c
      have := ih e.1 (L.inr e he).1
      have h3 := hy e he
      rw [e1] at h3
      omega
    · have := ih h hh
      omega
/-- Where a host drops in a layer, a way of as many edges leads there, each of which is a drop. -/
theorem LayersAre.way (L : LayersAre n E X) (hy : ∀ e ∈ E, y e.2.1 ≤ y e.1 + e.2.2) : ∀ (j h : Nat), h < n → X (j + 1) h < X j h → ∃ f : Nat → Nat, f (j + 1) = h ∧ (∀ i, i ≤ j + 1 → f i < n) ∧
    ∀ i, i ≤ j → X i (f i) - y (f i) ≤ X (i + 1) (f (i + 1)) - y (f (i + 1)) ∧ X (i + 1) (f (i + 1)) < X i (f (i + 1))
  | 0, h, hh, hd => by
    obtain ⟨e, he, e1, e2⟩ := L.by_ 0 h hh hd
    have h3 := hy e he
    rw [e1] at h3
    refine ⟨fun i => if i = 0 then e.1 else h, rfl, fun i hi => ?_, fun i hi => ?_⟩
    · show (if i = 0 then e.1 else h) < n
      split
      · exact (L.inr e he).1
      · exact hh
    · obtain rfl : i = 0 := by omega
      show X 0 e.1 - y e.1 ≤ X (0 + 1) h - y h ∧ X (0 + 1) h < X 0 h
      exact ⟨by omega, hd⟩
  | j + 1, h, hh, hd => by
    obtain ⟨e, he, e1, e2⟩ := L.by_ (j + 1) h hh hd
    have h3 := hy e he
    rw [e1] at h3
    have hg := (L.inr e he).1
    have hdrop : X (j + 1) e.1 < X j e.1 := by
      have h4 := L.le j e he
      rw [e1] at h4
      have h5 := L.mono j e.1 hg
      omega
    obtain ⟨f, f1, f2, f3⟩ := L.way hy j e.1 hg hdrop
    refine ⟨fun i => if i ≤ j + 1 then f i else h, (by show (if j + 1 + 1 ≤ j + 1 then f (j + 1 + 1) else h) = h; rw [if_neg (by omega)]), fun i hi => ?_, fun i hi => ?_⟩
    · show (if i ≤ j + 1 then f i else h) < n
      split
      · exact f2 i (by omega)
      · exact hh
    · by_cases c : i ≤ j
      · have := f3 i c
        show X i (if i ≤ j + 1 then f i else h) - y (if i ≤ j + 1 then f i else h) ≤ X (i + 1) (if i + 1 ≤ j + 1 then f (i + 1) else h) - y (if i + 1 ≤ j + 1 then f (i + 1) else h) ∧ X (i + 1) (if i + 1 ≤ j + 1 then f (i + 1) else h) < X i (if i + 1 ≤ j + 1 then f (i + 1) else h)
        rw [if_pos (by omega), if_pos (by omega)]
        exact this
      · obtain rfl : i = j + 1 := by omega
        show X (j + 1) (if j + 1 ≤ j + 1 then f (j + 1) else h) - y (if j + 1 ≤ j + 1 then f (j + 1) else h) ≤ X (j + 1 + 1) (if j + 1 + 1 ≤ j + 1 then f (j + 1 + 1) else h) - y (if j + 1 + 1 ≤ j + 1 then f (j + 1 + 1) else h) ∧ X (j + 1 + 1) (if j + 1 + 1 ≤ j + 1 then f (j + 1 + 1) else h) < X (j + 1) (if j + 1 + 1 ≤ j + 1 then f (j + 1 + 1) else h)
        rw [if_pos (Nat.le_refl _), if_neg (by omega), f1]
        exact ⟨by omega, hd⟩
/-- One back over the edge by which a host dropped: its From dropped a layer ahead (stage 16). -/
theorem LayersAre.drop_back (L : LayersAre n E X) {k : Nat} {h : Nat} (hh : h < n) {e : Nat × Nat × Int} (he : e ∈ E) (e1 : e.2.1 = h) (e2 : X (k + 2) h = X (k + 1) e.1 + e.2.2) (hd : X (k + 2) h < X (k + 1) h) : X (k + 1) e.1 < X k e.1 := by
  have h4 := L.le k e he
  rw [e1] at h4
  have h5 := L.mono k e.1 (L.inr e he).1
  omega
/-- Edges from host to host, layer by layer: their weights together are what the ends differ by (stage 16). -/
theorem sum_way {f : Nat → Nat} {g : Nat → Nat × Nat × Int} {i : Nat} : ∀ (d : Nat), (∀ m, i ≤ m → m < i + d → X (m + 1) (f (m + 1)) = X m (f m) + (g m).2.2) → ((List.range d).map fun m => (g (i + m)).2.2).sum = X (i + d) (f (i + d)) - X i (f i)
  | 0, _ => by simp
  | d + 1, h => by
    have ih := sum_way d fun m h1 h2 => h m h1 (by omega)
    have hl := h (i + d) (by omega) (by omega)
    rw [List.range_succ, List.map_append, List.sum_append, ih]
    simp only [List.map_cons, List.map_nil, List.sum_cons, List.sum_nil]
    rw [show i + (d + 1) = i + d + 1 by omega, hl]
    omega
/-- A way that comes back to a host, and drops there: its weights are below 0 together (stage 16). -/
theorem LayersAre.loop_neg (L : LayersAre n E X) {f : Nat → Nat} {g : Nat → Nat × Nat × Int} {i d : Nat} (hd : 0 < d) (hf : f i < n) (hback : f (i + d) = f i) (hs : ∀ m, i ≤ m → m < i + d → X (m + 1) (f (m + 1)) = X m (f m) + (g m).2.2)
    (hdrop : X (i + d) (f (i + d)) < X (i + d - 1) (f (i + d))) : ((List.range d).map fun m => (g (i + m)).2.2).sum < 0 := by
  rw [sum_way d hs]
  rw [hback] at hdrop ⊢
  have := L.down hf i (i + d - 1) (by omega)
  omega
/-- Edges that hold for some numbers can be met: the layer n is the one ahead. -/
theorem LayersAre.met (L : LayersAre n E X) (hn : 1 ≤ n) (hy : ∀ e ∈ E, y e.2.1 ≤ y e.1 + e.2.2) {h : Nat} (hh : h < n) : X n h = X (n - 1) h := by
  have hm := L.mono (n - 1) h hh
  rw [show n - 1 + 1 = n by omega] at hm
  rcases Int.lt_or_le (X n h) (X (n - 1) h) with c | c
  · exfalso
    have c' : X (n - 1 + 1) h < X (n - 1) h := by rw [show n - 1 + 1 = n by omega]; exact c
    obtain ⟨f, f1, f2, f3⟩ := L.way hy (n - 1) h hh c'
    rw [show n - 1 + 1 = n by omega] at f1 f2
    obtain ⟨a, b, hab, hb, e⟩ := pigeon n f f2
    have hphi : ∀ d, a + d ≤ n → X a (f a) - y (f a) ≤ X (a + d) (f (a + d)) - y (f (a + d)) := by
      intro d
      induction d with
      | zero => intro _; exact Int.le_refl _
      | succ d ih =>
        intro hd
        have h1 := ih (by omega)
        have h2 := (f3 (a + d) (by omega)).1
        rw [show a + (d + 1) = a + d + 1 by omega]
        omega
    have h1 := hphi (b - a) (by omega)
    rw [show a + (b - a) = b by omega, ← e] at h1
    have h2 := (f3 (b - 1) (by omega)).2
    rw [show b - 1 + 1 = b by omega, ← e] at h2
    have h3 := L.down (f2 a (by omega)) a (b - 1) (by omega)
    omega
  · omega
/-- Where no host drops in the layer n, all edges hold. -/
theorem LayersAre.holds (L : LayersAre n E X) (hs : ∀ h, h < n → X n h = X (n - 1) h) (hn : 1 ≤ n) : ∀ e ∈ E, X n e.2.1 ≤ X n e.1 + e.2.2 := by
  intro e he
  have h1 := L.le (n - 1) e he
  rw [show n - 1 + 1 = n by omega] at h1
  have h2 := hs e.1 (L.inr e he).1
  omega
/-- What is below 0 is so by an edge that just holds, from another host. -/
theorem LayersAre.tight (L : LayersAre n E X) (hs : ∀ h, h < n → X n h = X (n - 1) h) (hn : 1 ≤ n) {h : Nat} (hh : h < n) (h0 : X n h < 0) : ∃ e ∈ E, e.2.1 = h ∧ e.1 ≠ h ∧ X n e.1 + e.2.2 = X n h := by
  have last : ∀ m, X m h < X 0 h → ∃ k, k < m ∧ X (k + 1) h < X k h ∧ X m h = X (k + 1) h := by
    intro m
    induction m with
    | zero => intro c; omega
    | succ m ih =>
      intro c
      by_cases d : X (m + 1) h < X m h
      · exact ⟨m, by omega, d, rfl⟩
      · have h1 := L.mono m h hh
        have h2 : X (m + 1) h = X m h := by omega
        obtain ⟨k, k1, k2, k3⟩ := ih (by omega)
        exact ⟨k, by omega, k2, by omega⟩
  obtain ⟨k, k1, k2, k3⟩ := last n (by rw [L.zero h hh]; exact h0)
  obtain ⟨e, he, e1, e2⟩ := L.by_ k h hh k2
  have hg := (L.inr e he).1
  have h1 := L.holds hs hn e he
  rw [e1] at h1
  have h2 := L.down hg k n (by omega)
  refine ⟨e, he, e1, fun c => ?_, by omega⟩
  rw [c] at e2 h1
  omega
/-- No layer is further below 0 than its weights let it. -/
theorem LayersAre.bound (L : LayersAre n E X) {B : Int} (hB : 0 ≤ B) (hw : ∀ e ∈ E, -B ≤ e.2.2) : ∀ (k h : Nat), h < n → -(B * (k : Int)) ≤ X k h
  | 0, h, hh => by rw [L.zero h hh]; simp
  | k + 1, h, hh => by
    have ih := L.bound hB hw k
    have e3 : B * ((k + 1 : Nat) : Int) = B * (k : Int) + B := by rw [show ((k + 1 : Nat) : Int) = (k : Int) + 1 by omega, Int.mul_add, Int.mul_one]
    rw [e3]
    by_cases c : X (k + 1) h < X k h
    · obtain ⟨e, he, e1, e2⟩ := L.by_ k h hh c
      have := ih e.1 (L.inr e he).1
      have := hw e he
      omega
    · have := ih h hh
      omega
end
end Go.Proofs.Ytgeoggilnkcacaa

