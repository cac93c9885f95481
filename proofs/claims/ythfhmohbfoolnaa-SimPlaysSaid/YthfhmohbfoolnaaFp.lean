import Derived.Test.YthfhmohbfoolnaaFo
namespace Go.Proofs.Ythfhmohbfoolnaa
open Go Go.RowKit Go.Sort

/-! Where it falls; what is left of a file that was only appended to. -/
/-- What an act comes to: it is down; it is refused; it is done, or falls. -/
def Acted (m : FSm) (s : Bool) (r : FSm × Int) : Prop :=
  (m.down = true ∧ r = (m, 7)) ∨ (m.down = false ∧ r.1 = m ∧ r.2 ≠ 0 ∧ r.2 ≠ 7) ∨ (m.down = false ∧ ∃ x, OkX x ∧ r = actF m x s)
theorem create_acted (m : FSm) (n : Nat) : Acted m false (createF m n) := by
  unfold createF
  split
  · rename_i h; exact .inl ⟨h, rfl⟩
  · rename_i h
    have h : m.down = false := by simpa using h
    split
    · exact .inr (.inl ⟨h, rfl, by show (9 : Int) ≠ 0; decide, by show (9 : Int) ≠ 7; decide⟩)
    · split
      · exact .inr (.inl ⟨h, rfl, by show (6 : Int) ≠ 0; decide, by show (6 : Int) ≠ 7; decide⟩)
      · exact .inr (.inr ⟨h, _, ⟨fun _ => rfl, fun _ => rfl⟩, rfl⟩)
theorem append_acted {m : FSm} (ok : m.Ok) (n : Nat) (b : ByteArray) : Acted m false (appendF m n b) := by
  unfold appendF
  split
  · rename_i h; exact .inl ⟨h, rfl⟩
  · rename_i h
    have h : m.down = false := by simpa using h
    split
    · exact .inr (.inl ⟨h, rfl, by show (5 : Int) ≠ 0; decide, by show (5 : Int) ≠ 7; decide⟩)
    · rename_i ht
      exact .inr (.inr ⟨h, appF (getF m.files n) b, ⟨fun e => absurd e ht, (get_okx ok.2.1 n).2⟩, rfl⟩)
theorem trunc_acted {m : FSm} (ok : m.Ok) (n : Nat) (s : Int) : Acted m false (truncF m n s) := by
  unfold truncF
  split
  · rename_i h; exact .inl ⟨h, rfl⟩
  · rename_i h
    have h : m.down = false := by simpa using h
    split
    · exact .inr (.inl ⟨h, rfl, by show (5 : Int) ≠ 0; decide, by show (5 : Int) ≠ 7; decide⟩)
    · split
      · exact .inr (.inl ⟨h, rfl, by show (4 : Int) ≠ 0; decide, by show (4 : Int) ≠ 7; decide⟩)
      · rename_i ht _
        exact .inr (.inr ⟨h, cutF (getF m.files n) s.toNat, ⟨fun e => absurd e ht, (get_okx ok.2.1 n).2⟩, rfl⟩)
theorem synced_okx {x : Fl} (h : OkX x) : OkX (syncedF x) := by
  refine ⟨h.1, fun e => ?_⟩
  have e' : x.there = false := e
  show (if x.there = true then x.now else ByteArray.empty) = _
  rw [if_neg (by rw [e']; decide)]
theorem sync_acted {m : FSm} (ok : m.Ok) (n : Nat) : Acted m true (syncF m n) := by
  unfold syncF
  split
  · rename_i h; exact .inl ⟨h, rfl⟩
  · rename_i h
    have h : m.down = false := by simpa using h
    split
    · exact .inr (.inl ⟨h, rfl, by show (5 : Int) ≠ 0; decide, by show (5 : Int) ≠ 7; decide⟩)
    · exact .inr (.inr ⟨h, syncedF (getF m.files n), synced_okx (get_okx ok.2.1 n), rfl⟩)
theorem remove_acted {m : FSm} (ok : m.Ok) (n : Nat) : Acted m false (removeF m n) := by
  unfold removeF
  split
  · rename_i h; exact .inl ⟨h, rfl⟩
  · rename_i h
    have h : m.down = false := by simpa using h
    split
    · exact .inr (.inl ⟨h, rfl, by show (5 : Int) ≠ 0; decide, by show (5 : Int) ≠ 7; decide⟩)
    · exact .inr (.inr ⟨h, goneF (getF m.files n), ⟨fun _ => rfl, (get_okx ok.2.1 n).2⟩, rfl⟩)
/-- What an act does to the fuse. -/
theorem Acted.falls {m : FSm} {s : Bool} {r : FSm × Int} (h : Acted m s r) (hf : 0 ≤ m.fuse) :
    (m.down = true ∧ r = (m, 7)) ∨ (m.down = false ∧ r.1 = m ∧ r.2 ≠ 0 ∧ r.2 ≠ 7) ∨
    (m.down = false ∧ m.fuse = 0 ∧ r.2 = 7 ∧ r.1.down = true ∧ r.1.fuse = 0 ∧ (s = true → r.1.files = m.files)) ∨ (m.down = false ∧ 0 < m.fuse ∧ r.2 = 0 ∧ r.1.down = false ∧ r.1.fuse = m.fuse - 1) := by
  rcases h with h | h | ⟨h, x, _, rfl⟩
  · exact .inl h
  · exact .inr (.inl h)
  · by_cases h0 : m.fuse = 0
    · refine .inr (.inr (.inl ⟨h, h0, ?_⟩))
      unfold actF
      rw [if_pos h0]
      exact ⟨rfl, rfl, h0, fun hs => by show (if s = true then m.files else _) = _; rw [if_pos hs]⟩
    · refine .inr (.inr (.inr ⟨h, by omega, ?_⟩))
      unfold actF
      rw [if_neg h0]
      exact ⟨rfl, h, by show (if 0 < m.fuse then _ else _) = _; rw [if_pos (by omega)]⟩
/-! One file alone. -/
theorem getF_single {x : Fl} {n : Nat} (h : x.n = n) : getF [x] n = x := by
  have := getF_mem (L := [x]) (List.pairwise_singleton _ _) (List.mem_singleton.2 rfl)
  rw [h] at this; exact this
theorem putF_single {x y : Fl} (h : x.n = y.n) (hy : hasF y = true) : putF [x] y = [y] := by
  unfold putF
  rw [insF_sorted (List.pairwise_singleton _ _)]
  simp [h, hy]
theorem putF_none {y : Fl} (hy : hasF y = true) : putF [] y = [y] := by
  unfold putF
  rw [insF_sorted List.Pairwise.nil]
  simp [hy]
/-- Behind Create, Append and Sync: one file, safe as it is. -/
theorem three (b : ByteArray) : createF newF 3 = (⟨[⟨3, true, false, ByteArray.empty, ByteArray.empty⟩], -1, false⟩, 0) ∧
    appendF ⟨[⟨3, true, false, ByteArray.empty, ByteArray.empty⟩], -1, false⟩ 3 b = (⟨[⟨3, true, false, b, ByteArray.empty⟩], -1, false⟩, 0) ∧
    syncF ⟨[⟨3, true, false, b, ByteArray.empty⟩], -1, false⟩ 3 = (⟨[⟨3, true, true, b, b⟩], -1, false⟩, 0) := by
  refine ⟨?_, ?_, ?_⟩
  · have e : getF newF.files 3 = noF 3 := rfl
    unfold createF
    rw [if_neg (by decide), e, if_neg (by decide), if_neg (by decide)]
    unfold actF
    rw [if_neg (by decide)]
    show ((⟨putF [] _, _, _⟩ : FSm), _) = _
    rw [putF_none rfl]; rfl
  · have e : getF [⟨3, true, false, ByteArray.empty, ByteArray.empty⟩] 3 = ⟨3, true, false, ByteArray.empty, ByteArray.empty⟩ := getF_single rfl
    unfold appendF
    rw [if_neg (by decide)]
    simp only
    rw [e, if_neg (by decide)]
    unfold actF
    rw [if_neg (by decide)]
    simp only
    rw [putF_single (x := ⟨3, true, false, ByteArray.empty, ByteArray.empty⟩) (y := appF ⟨3, true, false, ByteArray.empty, ByteArray.empty⟩ b) rfl rfl]
    have hb : ByteArray.empty ++ b = b := by simp
    simp [appF, hb]
  · have e : getF [⟨3, true, false, b, ByteArray.empty⟩] 3 = ⟨3, true, false, b, ByteArray.empty⟩ := getF_single rfl
    unfold syncF
    rw [if_neg (by simp)]
    simp only
    rw [e, if_neg (by simp)]
    unfold actF
    rw [if_neg (by simp)]
    simp only
    rw [putF_single (x := ⟨3, true, false, b, ByteArray.empty⟩) (y := syncedF ⟨3, true, false, b, ByteArray.empty⟩) rfl rfl]
    simp [syncedF]
/-- One file that was safe, and appended to. -/
def oneF (safe all : ByteArray) (fu : Int) (dn : Bool) : FSm := ⟨[⟨3, true, true, all, safe⟩], fu, dn⟩
theorem one_get (safe all : ByteArray) (fu : Int) (dn : Bool) : getF (oneF safe all fu dn).files 3 = ⟨3, true, true, all, safe⟩ := getF_single rfl
theorem one_append (safe all p : ByteArray) (fu : Int) (dn : Bool) : appendF (oneF safe all fu dn) 3 p =
    if dn = true then (oneF safe all fu dn, 7) else if fu = 0 then (oneF safe (all ++ p) 0 true, 7) else (oneF safe (all ++ p) (if 0 < fu then fu - 1 else fu) dn, 0) := by
  unfold appendF
  rw [one_get]
  show (if dn = true then _ else _) = _
  split
  · rfl
  · rw [if_neg (by simp)]
    unfold actF
    show (if fu = 0 then _ else _) = _
    split
    · rename_i h
      show ((⟨(if false = true then _ else putF [_] _), fu, true⟩ : FSm), (7 : Int)) = _
      rw [if_neg (by decide), putF_single (x := ⟨3, true, true, all, safe⟩) (y := appF ⟨3, true, true, all, safe⟩ p) rfl rfl, h]; rfl
    · show ((⟨putF [_] _, _, dn⟩ : FSm), (0 : Int)) = _
      rw [putF_single (x := ⟨3, true, true, all, safe⟩) (y := appF ⟨3, true, true, all, safe⟩ p) rfl rfl]; rfl
theorem common_self : ∀ (a b : List UInt8), commonF (a ++ b) a = a.length
  | [], b => by cases b <;> rfl
  | x :: a, b => by simp [commonF, common_self a b]
/-- What is left of it. -/
theorem one_crash {safe all more : ByteArray} (h : all = safe ++ more) (fu : Int) (dn : Bool) (t : Ft) : readF (crashF (oneF safe all fu dn) [t]) 3 =
    (if all = safe then safe else bs (partF all.data.toList safe.size t.bytes t.g), 0) := by
  have ok : (oneF safe all fu dn).files = [⟨3, true, true, all, safe⟩] := rfl
  by_cases he : all = safe
  · have hl : looseF ⟨3, true, true, all, safe⟩ = false := by simp [looseF, he]
    have hn : numsF true (oneF safe all fu dn).files = [] := by rw [ok]; simp [numsF, pickF, hl]
    unfold crashF
    rw [hn]
    show readF ⟨[⟨3, true, true, all, safe⟩], -1, false⟩ 3 = _
    unfold readF
    rw [getF_single rfl, if_pos rfl, if_pos he, he]
  · have hl : looseF ⟨3, true, true, all, safe⟩ = true := by simp [looseF, he]
    have hn : numsF true (oneF safe all fu dn).files = [3] := by rw [ok]; simp [numsF, pickF, hl]
    have hc : commonF all.data.toList safe.data.toList = safe.size := by
      rw [h, ByteArray.data_append, Array.toList_append, common_self, data_length]
    have hle : leftF ⟨3, true, true, all, safe⟩ t = ⟨3, true, true, bs (partF all.data.toList safe.size t.bytes t.g), bs (partF all.data.toList safe.size t.bytes t.g)⟩ := by
      simp [leftF, hc]
    unfold crashF
    rw [hn]
    show readF ⟨putF [_] (leftF (getF [_] 3) t), -1, false⟩ 3 = _
    rw [getF_single rfl, hle, putF_single (x := ⟨3, true, true, all, safe⟩) (y := ⟨3, true, true, bs (partF all.data.toList safe.size t.bytes t.g), bs (partF all.data.toList safe.size t.bytes t.g)⟩) rfl rfl]
    unfold readF
    rw [getF_single rfl, if_pos rfl, if_neg he]
theorem partF_len (s : List UInt8) (base : Nat) (count : Int) (g : List UInt8) (h : base ≤ s.length) : (partF s base count g).length = base + min (max count 0).toNat (s.length - base) := by
  unfold partF
  simp only []
  rw [List.length_append, xorL_length, List.length_take, List.length_drop, List.length_take]; omega
theorem partF_at (s : List UInt8) (base : Nat) (count : Int) (g : List UInt8) (h : base ≤ s.length) (i : Nat) (hi : i < (partF s base count g).length) (h2 : i < base ∨ i + 16 < (partF s base count g).length) : (partF s base count g)[i]? = s[i]? := by
  have hl := partF_len s base count g h
  unfold partF at *
  simp only [] at *
  have hlt : i < max ((s.take (base + min (max count 0).toNat (s.length - base))).length - 16) base := by rw [List.length_take] at *; omega
  rw [List.getElem?_append_left (by rw [List.length_take, List.length_take]; rw [List.length_take] at hlt; omega), List.getElem?_take_of_lt hlt, List.getElem?_take_of_lt (by omega)]
end Go.Proofs.Ythfhmohbfoolnaa
