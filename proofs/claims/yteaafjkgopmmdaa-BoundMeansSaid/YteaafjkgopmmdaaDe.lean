import Derived.Test.YteaafjkgopmmdaaOa
import Derived.Test.YteaafjkgopmmdaaGn
import Derived.Sort.EncStr
import Derived.Lib.SlicesCompact
import Derived.Lib.RowBridge
import Derived.Sort.OwnSorted
namespace Go.Proofs.Yteaafjkgopmmdaa
open Go Go.RowKit Go.Sort
set_option linter.unusedVariables false

/-! Rows of texts, and texts in order: plain facts. -/
abbrev Tx := List UInt8
def strV (l : List Tx) : List Value := l.map encStr
theorem strV_length (l : List Tx) : (strV l).length = l.length := by simp [strV]
theorem strV_append (l m : List Tx) : strV (l ++ m) = strV l ++ strV m := by simp [strV]
theorem strV_one (l : List Tx) : ∀ u ∈ strV l, u.oneCell' = true := by
  intro u hu; obtain ⟨x, _, rfl⟩ := List.mem_map.1 hu; rfl
theorem strV_take (l : List Tx) (k : Nat) : (strV l).take k = strV (l.take k) := by simp [strV]
theorem strV_drop (l : List Tx) (k : Nat) : (strV l).drop k = strV (l.drop k) := by simp [strV]
theorem strV_get {l : List Tx} {i : Nat} (h : i < l.length) : (strV l)[i]? = some (encStr l[i]) := by simp [strV, h]
def txt (b : ByteArray) : Tx := b.data.toList
theorem enc_txt (b : ByteArray) : encStr (txt b) = .string b := by simp [txt]
theorem txt_inj {a b : ByteArray} (h : txt a = txt b) : a = b := by
  cases a; cases b; simp [txt] at h; rw [h]
theorem Rd.str {w : World} {B : Nat} {a : Option Addr} {l : List Tx} (h : Rd w B a (strV l)) {i : Nat} (hi : i < l.length) : ∃ b off X, a = some ⟨b, off, none⟩ ∧ b < B ∧ w.cell? ⟨b, off + i, none⟩ = some (.string X) ∧ l[i] = txt X := by
  obtain ⟨b, off, ha, hb, hc⟩ := h (by rw [strV_length]; omega)
  exact ⟨b, off, ⟨l[i].toArray⟩, ha, hb, hc i _ (strV_get hi), by simp [txt]⟩
theorem tx_eq {X Y : ByteArray} (h : txt X = txt Y) : (X.toList == Y.toList) = true := by
  rw [txt_inj h]; simp
theorem tx_ne {X Y : ByteArray} (h : txt X ≠ txt Y) : (X.toList == Y.toList) = false := by
  rw [ByteArray.toList_eq, ByteArray.toList_eq, beq_eq_false_iff_ne]; exact h
theorem tx_nq {X Y : ByteArray} (h : txt X ≠ txt Y) : (X.toList != Y.toList) = true := by
  unfold bne; rw [tx_ne h]; rfl
theorem tx_nn {X Y : ByteArray} (h : txt X = txt Y) : (X.toList != Y.toList) = false := by
  unfold bne; rw [tx_eq h]; rfl
/-! The order of texts. -/
theorem lexI_lt : ∀ a b : Tx, a < b ↔ lexI a b = -1
  | [], [] => by simp [lexI]
  | [], b :: y => by simp [lexI]
  | a :: x, [] => by simp [lexI]
  | a :: x, b :: y => by
    rw [List.cons_lt_cons_iff, lexI_lt x y]
    simp only [lexI]
    by_cases h1 : a < b
    · simp [h1]
    · by_cases h2 : b < a
      · have : ¬ a = b := fun e => h1 (e ▸ h2)
        simp [h1, h2, this]
      · have : a = b := UInt8.le_antisymm (UInt8.not_lt.1 h2) (UInt8.not_lt.1 h1)
        simp [this, UInt8.lt_irrefl]
theorem lexI_le (a b : Tx) : a ≤ b ↔ lexI a b ≤ 0 := by
  have h1 := lexI_vals a b
  have h2 := lexI_neg a b
  rw [← List.not_lt, lexI_lt]
  omega
def ltT (a b : Tx) : Prop := lexI a b = -1
theorem ltT_trans {a b c : Tx} (h1 : ltT a b) (h2 : ltT b c) : ltT a c := by
  have := lexI_tri a b c; unfold ltT at *; unfold Tri at this; omega
theorem ltT_irrefl {a : Tx} (h : ltT a a) : False := by unfold ltT at h; rw [lexI_refl] at h; omega
theorem ltT_asymm {a b : Tx} (h1 : ltT a b) (h2 : ltT b a) : False := ltT_irrefl (ltT_trans h1 h2)
/-- Texts, each once, in order. -/
def Once (K : List Tx) (X : Tx → Prop) : Prop := K.Pairwise ltT ∧ ∀ x, x ∈ K ↔ X x
theorem Once.unique {K M : List Tx} {X : Tx → Prop} (h : Once K X) (k : Once M X) : K = M := by
  have nk : K.Nodup := h.1.imp fun {a b} (hl : ltT a b) e => by subst e; exact ltT_irrefl hl
  have nm : M.Nodup := k.1.imp fun {a b} (hl : ltT a b) e => by subst e; exact ltT_irrefl hl
  exact List.Perm.eq_of_pairwise (le := ltT) (fun a b _ _ h1 h2 => (ltT_asymm h1 h2).elim) h.1 k.1 ((List.perm_ext_iff_of_nodup nk nm).2 fun y => (h.2 y).trans (k.2 y).symm)
theorem compactUpTo_once {d : Array Tx} (hs : ∀ i j, i < j → j < d.size → lexI d[i]! d[j]! ≤ 0) : ∀ m, m ≤ d.size → Once (Lib.compactUpTo d m) (fun x => ∃ j, j < m ∧ d[j]! = x)
  | 0, _ => ⟨by simp [Lib.compactUpTo], fun x => by simp [Lib.compactUpTo]⟩
  | m + 1, h => by
    obtain ⟨h1, h2⟩ := compactUpTo_once hs m (by omega)
    rw [Lib.compactUpTo_succ]
    by_cases hk : Lib.keeps d m = true
    · rw [if_pos hk]
      refine ⟨List.pairwise_append.2 ⟨h1, List.pairwise_singleton _ _, fun x hx y hy => ?_⟩, fun x => ?_⟩
      · obtain rfl := List.mem_singleton.1 hy
        obtain ⟨j, hj, rfl⟩ := (h2 x).1 hx
        have hk' : m = 0 ∨ d[m]! ≠ d[m - 1]! := by simpa [Lib.keeps] using hk
        have hne : d[m]! ≠ d[m - 1]! := hk'.resolve_left (by omega)
        have h3 := hs (m - 1) m (by omega) (by omega)
        have h4 : ltT d[m - 1]! d[m]! := by
          have hv := lexI_vals d[m - 1]! d[m]!
          unfold ltT
          rcases hv with hv | hv | hv
          · exact hv
          · exact absurd (lexI_zero _ _ hv).symm hne
          · omega
        by_cases hjm : j = m - 1
        · subst hjm; exact h4
        · have h5 := hs j (m - 1) (by omega) (by omega)
          have hv := lexI_vals d[j]! d[m - 1]!
          rcases hv with hv | hv | hv
          · exact ltT_trans hv h4
          · rw [lexI_zero _ _ hv]; exact h4
          · omega
      · rw [List.mem_append, h2, List.mem_singleton]
        constructor
        · rintro (⟨j, hj, e⟩ | rfl)
          · exact ⟨j, by omega, e⟩
          · exact ⟨m, by omega, rfl⟩
        · rintro ⟨j, hj, e⟩
          by_cases hjm : j = m
          · subst hjm; exact .inr e.symm
          · exact .inl ⟨j, by omega, e⟩
    · rw [if_neg hk, List.append_nil]
      refine ⟨h1, fun x => (h2 x).trans ?_⟩
      have hk' : ¬ (m = 0 ∨ d[m]! ≠ d[m - 1]!) := by simpa [Lib.keeps] using hk
      constructor
      · rintro ⟨j, hj, e⟩; exact ⟨j, by omega, e⟩
      · rintro ⟨j, hj, e⟩
        by_cases hjm : j = m
        · subst hjm
          exact ⟨j - 1, by omega, by rw [← e]; exact (Classical.not_not.1 fun h => hk' (.inr h)).symm⟩
        · exact ⟨j, by omega, e⟩
/-- The texts of a row, each once, in order. -/
def onceL (l : List Tx) : List Tx := Lib.compact (l.mergeSort fun x y => decide (x ≤ y))
theorem onceL_once (l : List Tx) : Once (onceL l) (· ∈ l) := by
  have hp := List.mergeSort_perm l (fun x y => decide (x ≤ y))
  have hsort : (l.mergeSort fun x y => decide (x ≤ y)).Pairwise fun x y => lexI x y ≤ 0 := by
    have := List.pairwise_mergeSort (le := fun (x y : Tx) => decide (x ≤ y)) (fun a b c h1 h2 => by
      simp only [decide_eq_true_eq] at *; exact List.le_trans h1 h2) (fun a b => by simp only [Bool.or_eq_true, decide_eq_true_eq]; exact List.le_total a b) l
    exact this.imp fun {a b} h => (lexI_le a b).1 (by simpa using h)
  unfold onceL Lib.compact
  obtain ⟨h1, h2⟩ := compactUpTo_once (d := (l.mergeSort fun x y => decide (x ≤ y)).toArray) (fun i j hij hj => by
    have hj' : j < (l.mergeSort fun x y => decide (x ≤ y)).length := by simpa using hj
    have := List.pairwise_iff_getElem.1 hsort i j (by omega) hj' hij
    rw [getElem!_pos _ i (by simp at hj ⊢; omega), getElem!_pos _ j (by simpa using hj)]
    simpa using this) _ (by simp : (l.mergeSort fun x y => decide (x ≤ y)).length ≤ _)
  refine ⟨h1, fun x => (h2 x).trans ?_⟩
  show (∃ j, j < _ ∧ _ = x) ↔ x ∈ l
  rw [← hp.mem_iff, List.mem_iff_getElem]
  constructor
  · rintro ⟨j, hj, e⟩
    refine ⟨j, hj, ?_⟩
    rw [getElem!_pos _ j (by simpa using hj)] at e
    simpa using e
  · rintro ⟨j, hj, e⟩
    refine ⟨j, hj, ?_⟩
    rw [getElem!_pos _ j (by simpa using hj)]
    simpa using e
theorem onceL_length (l : List Tx) : (onceL l).length ≤ l.length := by
  have := Lib.compact_length_le (l.mergeSort fun x y => decide (x ≤ y))
  simpa [onceL] using this
theorem Once.is {K l : List Tx} (h : Once K (· ∈ l)) : K = onceL l := h.unique (onceL_once l)
/-- One text more, laid in at its place. -/
theorem Once.insert {K l : List Tx} {x : Tx} (h : Once K (· ∈ l)) (hx : x ∉ K) {k : Nat} (hk : k ≤ K.length) (h1 : ∀ j (hj : j < K.length), k ≤ j → 0 < lexI K[j] x) (h2 : ∀ j (hj : j < K.length), j + 1 = k → lexI K[j] x ≤ 0) :
    Once (K.take k ++ x :: K.drop k) (· ∈ l ++ [x]) := by
  have hlow : ∀ j (hj : j < K.length), j < k → ltT K[j] x := by
    intro j hj hjk
    have hne : ∀ i (hi : i < K.length), lexI K[i] x ≠ 0 := fun i hi e => hx (by rw [← lexI_zero _ _ e]; exact List.getElem_mem hi)
    have h3 : ltT (K[k - 1]'(by omega)) x := by
      have a1 := h2 (k - 1) (by omega) (by omega)
      have a2 := lexI_vals (K[k - 1]'(by omega)) x
      have a3 := hne (k - 1) (by omega)
      unfold ltT; omega
    by_cases e : j = k - 1
    · subst e; exact h3
    · exact ltT_trans (List.pairwise_iff_getElem.1 h.1 j (k - 1) hj (by omega) (by omega)) h3
  have hhigh : ∀ j (hj : j < K.length), k ≤ j → ltT x K[j] := by
    intro j hj hjk
    have a1 := h1 j hj hjk
    have a2 := lexI_vals K[j] x
    have a3 := lexI_neg K[j] x
    unfold ltT; omega
  refine ⟨List.pairwise_append.2 ⟨h.1.sublist (List.take_sublist _ _), List.pairwise_cons.2 ⟨fun y hy => ?_, h.1.sublist (List.drop_sublist _ _)⟩, fun a ha b hb => ?_⟩, fun y => ?_⟩
  · obtain ⟨j, hj, rfl⟩ := List.mem_iff_getElem.1 hy
    rw [List.getElem_drop]; exact hhigh _ _ (by omega)
  · obtain ⟨i, hi, rfl⟩ := List.mem_iff_getElem.1 ha
    rw [List.length_take] at hi
    rw [List.getElem_take]
    rcases List.mem_cons.1 hb with rfl | hb
    · exact hlow i (by omega) (by omega)
    · obtain ⟨j, hj, rfl⟩ := List.mem_iff_getElem.1 hb
      rw [List.length_drop] at hj
      rw [List.getElem_drop]
      exact List.pairwise_iff_getElem.1 h.1 i _ (by omega) (by omega) (by omega)
  · show y ∈ K.take k ++ x :: K.drop k ↔ y ∈ l ++ [x]
    have e : y ∈ K.take k ++ x :: K.drop k ↔ y ∈ K ∨ y = x := by
      rw [List.mem_append, List.mem_cons]
      have : y ∈ K ↔ y ∈ K.take k ∨ y ∈ K.drop k := by rw [← List.mem_append, List.take_append_drop]
      rw [this]
      constructor
      · rintro (h | h | h)
        · exact .inl (.inl h)
        · exact .inr h
        · exact .inl (.inr h)
      · rintro ((h | h) | h)
        · exact .inl h
        · exact .inr (.inr h)
        · exact .inr (.inl h)
    rw [e, List.mem_append, List.mem_singleton, h.2]
/-! The first place of a text. -/
def placeF : List Tx → Tx → Nat → Int
  | [], _, _ => -1
  | y :: r, x, k => if y = x then (k : Int) else placeF r x (k + 1)
def placeL (l : List Tx) (x : Tx) : Int := placeF l x 0
theorem placeF_step {l : List Tx} {x : Tx} {k : Nat} (h : k < l.length) : placeF (l.drop k) x k = if l[k] = x then (k : Int) else placeF (l.drop (k + 1)) x (k + 1) := by
  rw [List.drop_eq_getElem_cons h]; rfl
theorem placeF_neg : ∀ (l : List Tx) (x : Tx) (k : Nat), placeF l x k < 0 ↔ x ∉ l
  | [], _, _ => by simp [placeF]
  | y :: r, x, k => by
    simp only [placeF, List.mem_cons, not_or]
    split
    · rename_i h; subst h; simp
    · rename_i h; rw [placeF_neg r x (k + 1)]; simp [Ne.symm h]
theorem placeL_neg (l : List Tx) (x : Tx) : placeL l x < 0 ↔ x ∉ l := placeF_neg l x 0
theorem placeF_range : ∀ (l : List Tx) (x : Tx) (k : Nat), -1 ≤ placeF l x k ∧ placeF l x k < k + l.length
  | [], _, _ => by simp [placeF]; omega
  | y :: r, x, k => by
    have := placeF_range r x (k + 1)
    simp only [placeF, List.length_cons]
    split <;> omega
/-! Stores of the library's over a row of texts. -/
theorem own_holds {w : World} {base g n cap : Nat} {e : TypeId} {ss : List Tx} (h : w.ownsRow base e 1 (.slice (some ⟨g, 0, none⟩) n cap) n (strV ss)) : Holds encStr w g 0 ss.toArray := by
  intro j hj
  have hl : (strV ss).length = n * 1 := h.1
  rw [strV_length] at hl
  have hj' : j < ss.length := by simpa using hj
  have h1 := h.cellAt j (by omega)
  rw [Nat.zero_add]
  refine ⟨?_, h.frozenAt j⟩
  rw [h1, strV_get hj', getElem!_pos _ j hj]
  simp
theorem own_putRow {w w' : World} {base g n cap : Nat} {e : TypeId} {xs : List Value} (h : w.ownsRow base e 1 (.slice (some ⟨g, 0, none⟩) n cap) n xs) {d : Array Tx} (hd : d.size = n) {q : Nat} {os : Array Obj} (hw : w' = grow (putRow encStr (Sort.ahead w q) g 0 d) os) :
    w'.ownsRow base e 1 (.slice (some ⟨g, 0, none⟩) n cap) n (strV d.toList) ∧ w.grownBy w' (some g) := by
  rcases h.2 with ⟨hv, _⟩ | ⟨g', cap', cur, hv, hb, hg, hnc, hcm, hcs, htk⟩
  · cases hv
  obtain ⟨rfl, rfl⟩ : g = g' ∧ cap = cap' := by injection hv; simp_all
  have hheap : w'.heap[g]? = some (.cells (putCells encStr 0 d cur) e (0, 0)) := by
    have hg' : g < w.heap.size := (Array.getElem?_eq_some_iff.1 hg).1
    rw [hw, heap_grow_old _ _ (by simpa [putRow, mapBlock, Sort.ahead] using hg')]
    simp [putRow, mapBlock, Sort.ahead, Array.getElem?_modify, hg, onCells]
  refine ⟨⟨by rw [strV_length]; simp [hd], .inr ⟨g, cap, _, rfl, hb, hheap, hnc, hcm, by simp [putCells, hcs], ?_⟩⟩, ?_⟩
  · apply List.ext_getElem?
    intro j
    by_cases hj : j < n
    · rw [List.getElem?_take_of_lt (by omega), Array.getElem?_toList]
      have hjd : j < d.size := by omega
      have hjc : j < cur.size := by rw [hcs]; omega
      rw [strV_get (l := d.toList) (by simpa using hjd)]
      simp [putCells, hjd, hjc]
    · rw [List.getElem?_take_eq_none (by omega), List.getElem?_eq_none (by rw [strV_length]; simp; omega)]
  · rw [hw]
    refine ⟨rfl, rfl, rfl, by simp [putRow, mapBlock, Sort.ahead], fun k hk hne => ?_⟩
    rw [heap_grow_old _ _ (by simpa [putRow, mapBlock, Sort.ahead] using hk)]
    have : g ≠ k := fun e => hne (by rw [e])
    simp [putRow, mapBlock, Sort.ahead, Array.getElem?_modify, this]
end Go.Proofs.Yteaafjkgopmmdaa

