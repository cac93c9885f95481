import Derived.Test.YtlpalhlihckidaaWe
import Derived.Test.YtlpalhlihckidaaGe
import Derived.Deep.RegionHeldLaw
namespace Go.Proofs.Ytlpalhlihckidaa
open Go Go.RowKit

/-- What is answered: the spans and the error's number. -/
def SpansOut (w : World) (r : Except Nat (List Sp)) (e : Ending) (w' : World) : Prop :=
  ∃ a c, e = .returned (.tuple #[.slice a (lstW r).length c, .int .i64 (errW r : Nat)]) ∧ (lstW r).length ≤ c ∧ c ≤ maxLen ∧ Rd w' w'.heap.size a (flatL (lstW r)) ∧ Below w.heap.size w w'
theorem SpansOut.no {w w' : World} {r : Except Nat (List Sp)} {n : Nat} (h : r = .error n) (hb : Below w.heap.size w w') : SpansOut w r (.returned (.tuple #[.slice none 0 0, .int .i64 (n : Int)])) w' := by
  subst h; exact ⟨none, 0, rfl, Nat.le_refl _, by decide, Rd.nil _ _ _, hb⟩
theorem spansTo_stuck {b : List UInt8} {k e : Nat} (h : spansTo b k = .error e) : ∀ i, spansTo b (k + i) = .error e
  | 0 => h
  | i + 1 => by rw [← Nat.add_assoc, spansTo, spansTo_stuck h i]
theorem spansTo_err {b : List UInt8} {k n e : Nat} {l : List Sp} (h : spansTo b k = .ok l) (hk : k < n) (hs : spanAt b (6 + 75 * k) = .error e) : spansTo b n = .error e := by
  have h1 : spansTo b (k + 1) = .error e := by rw [spansTo, h]; simp only []; rw [hs]
  obtain ⟨i, rfl⟩ : ∃ i, n = k + 1 + i := ⟨n - (k + 1), by omega⟩
  exact spansTo_stuck h1 i
theorem spansTo_next {b : List UInt8} {k : Nat} {l : List Sp} {s : Sp} (h : spansTo b k = .ok l) (hs : spanAt b (6 + 75 * k) = .ok s) : spansTo b (k + 1) = .ok (l ++ [s]) := by
  rw [spansTo, h]; simp only []; rw [hs]
def szs (j : Nat) : Nat := [8, 8, 8, 1, 8, 8].getD j 0
def offs (j : Nat) : Nat := [0, 8, 16, 24, 25, 33, 41].getD j 0
theorem szs_all : ∀ j : Fin 6, szs j ≤ 8 ∧ 1 ≤ szs j ∧ offs (j + 1) = offs j + szs j ∧ offs j + szs j ≤ 41 ∧ cnt (szs j) = szs j := by decide
theorem szs_fact {j : Nat} (h : j < 6) : szs j ≤ 8 ∧ 1 ≤ szs j ∧ offs (j + 1) = offs j + szs j ∧ offs j + szs j ≤ 41 ∧ cnt (szs j) = szs j := szs_all ⟨j, h⟩
def szA : Array Value := #[.int .i64 8, .int .i64 8, .int .i64 8, .int .i64 1, .int .i64 8, .int .i64 8]
theorem szA_get : ∀ j : Fin 6, szA.toList[(j : Nat)]? = some (.int .i64 (szs j : Nat)) := by
  intro j
  match j with
  | ⟨0, _⟩ => rfl
  | ⟨1, _⟩ => rfl
  | ⟨2, _⟩ => rfl
  | ⟨3, _⟩ => rfl
  | ⟨4, _⟩ => rfl
  | ⟨5, _⟩ => rfl
def valL (b : List UInt8) (p j : Nat) : List Value := (List.range j).map fun i => .int .u64 (gN b (p + offs i) (szs i) : Nat)
theorem valL_succ (b : List UInt8) (p j : Nat) : valL b p (j + 1) = valL b p j ++ [.int .u64 (gN b (p + offs j) (szs j) : Nat)] := by
  unfold valL; rw [List.range_succ, List.map_append]; rfl
theorem valL_one (b : List UInt8) (p j : Nat) : ∀ u ∈ valL b p j, u.oneCell' = true := by
  intro u hu; obtain ⟨c, _, rfl⟩ := List.mem_map.1 hu; rfl
theorem info_u64 : (Try.prog.info? 39).map (fun i => (i.zero, i.size, i.bytes)) = some (some (.int .u64 0), 1, 8) := by kernel_rfl
theorem getW_short {b : List UInt8} (h : b.length < 6) : getW b = .error 2 := if_pos h
theorem getW_letters {b : List UInt8} (h : ¬ b.length < 6) (h2 : b.take 4 ≠ letL) : getW b = .error 3 := by unfold getW; rw [if_neg h, if_pos h2]
theorem getW_count {b : List UInt8} (h : ¬ b.length < 6) (h2 : b.take 4 = letL) (h3 : gN b 4 2 = 0 ∨ 32 < gN b 4 2) : getW b = .error 3 := by unfold getW; rw [if_neg h, if_neg (by simp [h2]), if_pos h3]
theorem getW_less {b : List UInt8} (h : ¬ b.length < 6) (h2 : b.take 4 = letL) (h3 : ¬ (gN b 4 2 = 0 ∨ 32 < gN b 4 2)) (h4 : b.length < 6 + 75 * gN b 4 2) : getW b = .error 2 := by unfold getW; rw [if_neg h, if_neg (by simp [h2]), if_neg h3, if_pos h4]
theorem getW_great {b : List UInt8} (h : ¬ b.length < 6) (h2 : b.take 4 = letL) (h3 : ¬ (gN b 4 2 = 0 ∨ 32 < gN b 4 2)) (h5 : 6 + 75 * gN b 4 2 < b.length) : getW b = .error 3 := by unfold getW; rw [if_neg h, if_neg (by simp [h2]), if_neg h3, if_neg (by omega), if_pos h5]
theorem getW_fit {b : List UInt8} (h : ¬ b.length < 6) (h2 : b.take 4 = letL) (h3 : ¬ (gN b 4 2 = 0 ∨ 32 < gN b 4 2)) (h5 : b.length = 6 + 75 * gN b 4 2) : getW b = spansTo b (gN b 4 2) := by unfold getW; rw [if_neg h, if_neg (by simp [h2]), if_neg h3, if_neg (by omega), if_neg (by omega)]
theorem refGet_is (x : ByteArray) (p : Nat) (s : Nat) (w : World) (b : List UInt8) (hb : x.data.toList = b) (hc : cnt s = s) (hs : s ≤ 8) (hp : p + s ≤ b.length) (hl : b.length ≤ 1000000000000) (G : Nat) (hG : gN b p s = G) :
    Calls Try.prog 23 #[.string x, .int .i64 (p : Int), .int .i64 (s : Int)] w fun e w' => e = .returned (.tuple #[.int .u64 (G : Int), .bool true]) ∧ Below w.heap.size w w' := by
  subst hb hG
  have hx : x.size ≤ 1000000000000 := by rw [← data_length]; exact hl
  have h := refGet_any x (p : Int) (s : Int) w hx (by omega) (by omega) (by omega) (by omega)
  rw [getR_yes (by rw [hc]; omega), hc, Int.toNat_natCast] at h
  exact h
theorem spanAt_err {b : List UInt8} {p e : Nat} (h : spanAt b p = .error e) : e ≠ 0 := by
  unfold spanAt at h
  split at h
  · injection h with h; omega
  · injection h with h; omega
  · simp only [] at h
    split at h
    · cases h
    · injection h with h; omega
theorem spansTo_err0 {b : List UInt8} : ∀ {k e : Nat}, spansTo b k = .error e → e ≠ 0
  | 0, _, h => by cases h
  | k + 1, e, h => by
    unfold spansTo at h
    cases h1 : spansTo b k with
    | error x => rw [h1] at h; injection h with h; subst h; exact spansTo_err0 h1
    | ok l =>
      rw [h1] at h
      simp only [] at h
      cases h2 : spanAt b (6 + 75 * k) with
      | error x => rw [h2] at h; injection h with h; subst h; exact spanAt_err h2
      | ok s => rw [h2] at h; cases h
theorem getW_err {b : List UInt8} {e : Nat} (h : getW b = .error e) : e ≠ 0 := by
  unfold getW at h
  split at h
  · injection h with h; omega
  split at h
  · injection h with h; omega
  split at h
  · injection h with h; omega
  split at h
  · injection h with h; omega
  split at h
  · injection h with h; omega
  exact spansTo_err0 h
end Go.Proofs.Ytlpalhlihckidaa
