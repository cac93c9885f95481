import Derived.Test.YthfhmohbfoolnaaFq
import Derived.Maps.RangeWalk
import Derived.Maps.Ext
import Derived.Laws.StructEq
namespace Go.Proofs.Ythfhmohbfoolnaa
open Go Go.RowKit Go.Maps

/-! The landed file system: a map of files, read as the document's row. -/
def flC (x : Fl) : Array Value := #[.bool x.there, .string x.now, .bool x.kept, .string x.safe]
def flV (x : Fl) : Value := .agg #[.bool x.there, .string x.now, .bool x.kept, .string x.safe]
def fileR (v : Value) : Option (DataW Value × List MemPlace) :=
  match v with
  | .agg cs => (match cs.toList with
    | [.bool _, .string _, .bool _, .string _] => some (.held v, [])
    | _ => none)
  | _ => none
theorem fileR_mk (x : Fl) : fileR (flV x) = some (.held (flV x), []) := rfl
theorem fileR_inv {v : Value} {y : DataW Value × List MemPlace} (h : fileR v = some y) : ∃ x : Fl, v = flV x ∧ y = (.held (flV x), []) := by
  unfold fileR at h
  cases v with
  | agg cs =>
    simp only at h
    split at h
    · rename_i a b c d hcs
      obtain ⟨l⟩ := cs
      simp only at hcs
      subst hcs
      exact ⟨⟨0, a, c, b, d⟩, rfl, by cases h; rfl⟩
    · cases h
  | _ => cases h
def keyF (n : Nat) : Lit := .int .u32 (n : Int)
theorem keyF_inj {n k : Nat} : keyF n = keyF k ↔ n = k := by simp only [keyF, Lit.int.injEq, true_and]; omega
theorem keyF_is (n : Nat) : WideAt.IsKeyLit (keyF n) := trivial
theorem keyF_same (n k : Nat) : (keyF n).sameKey (keyF k) = decide (n = k) := by simp only [keyF, Lit.sameKey, true_and]; congr 1; simp only [eq_iff_iff]; omega
theorem keyF_of {n : Nat} (h : n < 4294967296) : keyOf Try.prog 35 (.int .u32 (n : Int)) = some (keyF n) :=
  keyOf_int_mk Try.underlying35 (by simp only [Lit.wf, show IntKind.u32.min = 0 from rfl, show IntKind.u32.max = 4294967295 from rfl, Bool.and_eq_true, decide_eq_true_eq]; omega)
theorem lawF : Keyed Try.prog 35 := int_keyed Try.underlying35
def entF (x : Fl) : Lit × DataW Value := (keyF x.n, .held (flV x))
def dF (L : List Fl) : DataW Value := .map (L.map entF)
theorem has_dF (L : List Fl) (k : Lit) : Maps.has (dF L) k = true ↔ ∃ x ∈ L, k = keyF x.n := by
  unfold dF
  rw [has_eq, List.any_eq_true]
  constructor
  · rintro ⟨p, hp, hs⟩
    obtain ⟨x, hx, rfl⟩ := List.mem_map.1 hp
    exact ⟨x, hx, (WideAt.sameKey_eq hs).symm⟩
  · rintro ⟨x, hx, rfl⟩
    exact ⟨entF x, List.mem_map.2 ⟨x, hx, rfl⟩, WideAt.sameKey_self (keyF_is _)⟩
theorem at_dF {L : List Fl} (hs : SdF L) {x : Fl} (hx : x ∈ L) (z : DataW Value) : (dF L).atKey (keyF x.n) z = .held (flV x) := by
  have : (L.map entF).find? (fun p => p.1.sameKey (keyF x.n)) = some (entF x) := by
    rw [List.find?_map]
    have : L.find? ((fun p => p.1.sameKey (keyF x.n)) ∘ entF) = some x := by
      obtain ⟨s, t, rfl⟩ := List.append_of_mem hx
      rw [List.find?_append, List.find?_eq_none.2, List.find?_cons_of_pos]
      · rfl
      · simp [entF, keyF_same]
      · intro y hy
        have h := (List.pairwise_append.1 hs).2.2 y hy x (by simp)
        simp only [Function.comp, entF, keyF_same, decide_eq_true_eq]; omega
    rw [this]; rfl
  unfold dF DataW.atKey
  simp only [this]; rfl
theorem get_dF {L : List Fl} (hs : SdF L) (n : Nat) : (dF L).atKey (keyF n) (.held (flV (noF n))) = .held (flV (getF L n)) := by
  rcases getF_or L n with h | ⟨h, hn⟩
  · have := at_dF hs h (.held (flV (noF n)))
    rwa [getF_n] at this
  · rw [h]
    refine atKey_of_not_has ?_ _
    cases hh : Maps.has (dF L) (keyF n)
    · rfl
    · obtain ⟨x, hx, e⟩ := (has_dF L _).1 hh
      exact absurd (keyF_inj.1 e).symm (hn x hx)
theorem isMap_dF (L : List Fl) : IsMap (dF L) := ⟨_, rfl⟩
theorem size_dF (L : List Fl) : Maps.size (dF L) = L.length := by unfold dF; rw [size_eq, List.length_map]
theorem canon_dF {L : List Fl} (hs : SdF L) : Canon (dF L) := by
  refine ⟨_, rfl, ?_, ?_⟩
  · rw [List.pairwise_map]
    exact hs.imp fun {a b} h => by simp [entF, keyF, Lit.before]; exact h
  · intro p hp
    obtain ⟨x, _, rfl⟩ := List.mem_map.1 hp
    exact keyF_is _
theorem dF_ext {D : DataW Value} (c : Canon D) {L : List Fl} (hs : SdF L) (hh : ∀ k, Maps.has D k = true ↔ ∃ y ∈ L, k = keyF y.n) (ha : ∀ y ∈ L, ∀ z, D.atKey (keyF y.n) z = .held (flV y)) : D = dF L := by
  refine Maps.ext c (canon_dF hs) (fun k => ?_) fun k z hk => ?_
  · have h1 := hh k; have h2 := has_dF L k
    rw [Bool.eq_iff_iff, h1, h2]
  · obtain ⟨y, hy, rfl⟩ := (hh k).1 hk
    rw [ha y hy z, at_dF hs hy z]
theorem dF_put {L : List Fl} (hs : SdF L) {x : Fl} (hL : ∀ y ∈ L, hasF y = true) (hx : hasF x = true) (c : Canon ((dF L).put (keyF x.n) (.held (flV x)))) : (dF L).put (keyF x.n) (.held (flV x)) = dF (putF L x) := by
  refine dF_ext c (putF_SdF hs x) (fun k => ?_) fun y hy z => ?_
  · by_cases e : k = keyF x.n
    · subst e
      rw [has_put_same (isMap_dF L) (keyF_is _)]
      simp only [true_iff]
      exact ⟨x, (mem_putF hs).2 ⟨hx, .inl rfl⟩, rfl⟩
    · rw [has_put_other e, has_dF]
      constructor
      · rintro ⟨y, hy, rfl⟩
        exact ⟨y, (mem_putF hs).2 ⟨hL y hy, .inr ⟨hy, fun h => e (keyF_inj.2 h)⟩⟩, rfl⟩
      · rintro ⟨y, hy, rfl⟩
        rcases ((mem_putF hs).1 hy).2 with rfl | ⟨h, _⟩
        · exact absurd rfl e
        · exact ⟨y, h, rfl⟩
  · rcases ((mem_putF hs).1 hy).2 with rfl | ⟨h, hn⟩
    · exact atKey_put_same (isMap_dF L) (keyF_is _) _ _
    · rw [atKey_put_other (fun e => hn (keyF_inj.1 e)), at_dF hs h]
theorem dF_del {L : List Fl} (hs : SdF L) {x : Fl} (hL : ∀ y ∈ L, hasF y = true) (hx : hasF x = false) (c : Canon ((dF L).del (keyF x.n))) : (dF L).del (keyF x.n) = dF (putF L x) := by
  have key : ∀ y, y ∈ putF L x ↔ y ∈ L ∧ y.n ≠ x.n := fun y => by
    rw [mem_putF hs]
    constructor
    · rintro ⟨h, rfl | h2⟩
      · rw [hx] at h; cases h
      · exact h2
    · rintro ⟨h1, h2⟩; exact ⟨hL y h1, .inr ⟨h1, h2⟩⟩
  refine dF_ext c (putF_SdF hs x) (fun k => ?_) fun y hy z => ?_
  · by_cases e : k = keyF x.n
    · subst e
      rw [has_del_same]
      simp only [Bool.false_eq_true, false_iff]
      rintro ⟨y, hy, e⟩
      exact ((key y).1 hy).2 (keyF_inj.1 e).symm
    · rw [has_del_other e, has_dF]
      constructor
      · rintro ⟨y, hy, rfl⟩
        exact ⟨y, (key y).2 ⟨hy, fun h => e (keyF_inj.2 h)⟩, rfl⟩
      · rintro ⟨y, hy, rfl⟩
        exact ⟨y, ((key y).1 hy).1, rfl⟩
  · obtain ⟨h, hn⟩ := (key y).1 hy
    rw [atKey_del_other (fun e => hn (keyF_inj.1 e)), at_dF hs h]
/-- Two rows that rise, with the same files, are one. -/
theorem SdF_eq {L M : List Fl} (hl : SdF L) (hm : SdF M) (h : ∀ y, y ∈ L ↔ y ∈ M) : L = M := by
  have nl : L.Nodup := hl.imp fun {a b} h e => by rw [e] at h; omega
  have nm : M.Nodup := hm.imp fun {a b} h e => by rw [e] at h; omega
  have hp : L.Perm M := (List.perm_ext_iff_of_nodup nl nm).2 h
  exact List.Perm.eq_of_pairwise (le := fun (a b : Fl) => a.n < b.n) (fun a b _ _ h1 h2 => by omega) hl hm hp
theorem putF_same {L : List Fl} (hs : SdF L) (hL : ∀ y ∈ L, hasF y = true) (n : Nat) : putF L (getF L n) = L := by
  refine SdF_eq (putF_SdF hs _) hs fun y => ?_
  rw [mem_putF hs, getF_n]
  constructor
  · rintro ⟨h, rfl | h2⟩
    · rcases getF_or L n with h3 | ⟨h3, _⟩
      · exact h3
      · rw [h3] at h; cases h
    · exact h2.1
  · intro h
    refine ⟨hL y h, ?_⟩
    by_cases e : y.n = n
    · subst e; exact .inl (getF_mem hs h).symm
    · exact .inr ⟨h, e⟩
/-- The map's own block tells how many entries there are. -/
theorem owns_size {w : World} {b n : Nat} {D : DataW Value} (h : w.ownsMap Try.prog 35 fileR b n D) : w.ownsMap Try.prog 35 fileR b (Maps.size D) D := by
  obtain ⟨es, clock, hb, F, _, rfl⟩ := h
  exact ⟨es, clock, hb, F, by simp [Maps.size, length_sorted], rfl⟩
/-- A file system of the program's: block p, and its map's block. -/
def FsL (w : World) (S R : Nat → Prop) (p : Nat) (m : FSm) : Prop :=
  ∃ b fu, b ≠ p ∧ (∀ k, S k ↔ k = p ∨ k = b) ∧ (∀ k, ¬ R k) ∧ w.heap[p]? = some (.cells #[.map (some b), .int .i64 fu, .bool m.down] 62) ∧
    w.ownsMap Try.prog 35 fileR b m.files.length (dF m.files) ∧ -9223372036854775808 ≤ fu ∧ fu ≤ 9223372036854775807 ∧ m.fuse = max fu (-1) ∧ m.Ok
theorem FsL.low {w : World} {S R : Nat → Prop} {p : Nat} {m : FSm} (h : FsL w S R p m) : (∀ k, S k → k < w.heap.size) ∧ (∀ k, R k → k < w.heap.size) := by
  obtain ⟨b, fu, hne, hS, hR, hp, ho, _⟩ := h
  refine ⟨fun k hk => ?_, fun k hk => absurd hk (hR k)⟩
  rcases (hS k).1 hk with rfl | rfl
  · exact (Array.getElem?_eq_some_iff.1 hp).1
  · exact ho.lt
theorem owns_move {w w' : World} {b n : Nat} {D : DataW Value} (h : w.ownsMap Try.prog 35 fileR b n D) (hb : w'.heap[b]? = w.heap[b]?) : w'.ownsMap Try.prog 35 fileR b n D := by
  obtain ⟨es, clock, h1, r⟩ := h
  exact ⟨es, clock, hb.trans h1, r⟩
theorem FsL.move {w w' : World} {S R : Nat → Prop} {p : Nat} {m : FSm} (h : FsL w S R p m) (hb : ∀ k, S k ∨ R k → w'.heap[k]? = w.heap[k]?) : FsL w' S R p m := by
  obtain ⟨b, fu, hne, hS, hR, hp, ho, r⟩ := h
  exact ⟨b, fu, hne, hS, hR, (hb p (.inl ((hS p).2 (.inl rfl)))).trans hp, owns_move ho (hb b (.inl ((hS b).2 (.inr rfl)))), r⟩
theorem FsL.ok {w : World} {S R : Nat → Prop} {p : Nat} {m : FSm} (h : FsL w S R p m) : m.Ok := by
  obtain ⟨b, fu, hne, hS, hR, hp, ho, _, _, _, r⟩ := h; exact r
theorem FsL.below {w w' : World} {S R : Nat → Prop} {p : Nat} {m : FSm} (h : FsL w S R p m) (hb : Below w.heap.size w w') : FsL w' S R p m :=
  h.move fun k hk => hb.block k (hk.elim (h.low.1 k) (h.low.2 k))
end Go.Proofs.Ythfhmohbfoolnaa
