import Derived.Test.YthfhmohbfoolnaaFv
import Derived.Test.YthfhmohbfoolnaaKa
import Derived.Deep.DeepMust
import Derived.Deep.RegionHeldLaw
set_option linter.unusedVariables false
set_option linter.unusedSimpArgs false
namespace Go.Proofs.Ythfhmohbfoolnaa
open Go Go.RowKit Go.Maps

/-! Maps from numbers to what is no more than a value: the law's own. -/
def strH (v : Value) : Option (DataW Value × List MemPlace) := match v with | .string _ => some (.held v, []) | _ => none
def boolH (v : Value) : Option (DataW Value × List MemPlace) := match v with | .bool _ => some (.held v, []) | _ => none
theorem strH_inv {v : Value} {y : DataW Value × List MemPlace} (h : strH v = some y) : y = (.held v, []) := by
  unfold strH at h; split at h
  · cases h; rfl
  · cases h
theorem boolH_inv {v : Value} {y : DataW Value × List MemPlace} (h : boolH v = some y) : y = (.held v, []) := by
  unfold boolH at h; split at h
  · cases h; rfl
  · cases h
/-- The numbers of X are its keys, each with its value. -/
def MapX (Rv : Value → Option (DataW Value × List MemPlace)) (w : World) (b cnt : Nat) (X : Nat → Prop) (val : Nat → Value) : Prop :=
  ∃ D, w.ownsMap Try.prog 35 Rv b cnt D ∧ (∀ n, Maps.has D (keyF n) = true ↔ X n) ∧ (∀ n, X n → ∀ z, D.atKey (keyF n) z = .held (val n)) ∧ ∀ k, Maps.has D k = true → ∃ n, k = keyF n
section
variable {Rv : Value → Option (DataW Value × List MemPlace)} {w w' : World} {b cnt : Nat} {X : Nat → Prop} {val : Nat → Value}
theorem MapX.lt (h : MapX Rv w b cnt X val) : b < w.heap.size := by obtain ⟨D, h, _⟩ := h; exact h.lt
theorem MapX.new (Rv : Value → Option (DataW Value × List MemPlace)) (w : World) (val : Nat → Value) : MapX Rv (w.alloc (.map #[] 0)) w.heap.size 0 (fun _ => False) val := by
  refine ⟨.map [], World.ownsMap_made w Try.prog 35 Rv, fun n => ?_, fun n h => h.elim, fun k h => ?_⟩
  · simp [has_eq]
  · simp [has_eq] at h
theorem MapX.move (h : MapX Rv w b cnt X val) (hb : w'.heap[b]? = w.heap[b]?) : MapX Rv w' b cnt X val := by
  obtain ⟨D, ⟨es, clock, h1, r⟩, h2⟩ := h
  exact ⟨D, ⟨es, clock, hb.trans h1, r⟩, h2⟩
theorem MapX.off {S : Nat → Prop} (h : MapX Rv w b cnt X val) (ho : Off S w w') (hn : ¬ S b) : MapX Rv w' b cnt X val := h.move (ho.block b h.lt hn)
theorem MapX.below (h : MapX Rv w b cnt X val) (hb : Below w.heap.size w w') : MapX Rv w' b cnt X val := h.move (hb.block b h.lt)
theorem MapX.iff (h : MapX Rv w b cnt X val) {Y : Nat → Prop} (hXY : ∀ n, X n ↔ Y n) : MapX Rv w b cnt Y val := by
  obtain ⟨D, h1, h2, h3, h4⟩ := h
  exact ⟨D, h1, fun n => (h2 n).trans (hXY n), fun n hn => h3 n ((hXY n).2 hn), h4⟩
theorem MapX.put {D : DataW Value} {v : Value} {n : Nat} (hm : IsMap D) (h2 : ∀ n, Maps.has D (keyF n) = true ↔ X n) (h3 : ∀ n, X n → ∀ z, D.atKey (keyF n) z = .held (val n)) (h4 : ∀ k, Maps.has D k = true → ∃ n, k = keyF n)
    (ho : w'.ownsMap Try.prog 35 Rv b cnt (D.put (keyF n) (.held v))) (hv : val n = v) : MapX Rv w' b cnt (fun k => k = n ∨ X k) val := by
  refine ⟨_, ho, fun k => ?_, fun k hk z => ?_, fun k hk => ?_⟩
  · by_cases e : k = n
    · subst e; rw [has_put_same hm (keyF_is _)]; simp
    · rw [has_put_other (fun h => e (keyF_inj.1 h)), h2]; simp [e]
  · by_cases e : k = n
    · subst e; rw [atKey_put_same hm (keyF_is _), hv]
    · rw [atKey_put_other (fun h => e (keyF_inj.1 h))]
      exact h3 k (hk.elim (fun h => absurd h e) id) z
  · by_cases e : k = keyF n
    · exact ⟨n, e⟩
    · rw [has_put_other e] at hk; exact h4 k hk
theorem MapX.del {D : DataW Value} {n : Nat} (h2 : ∀ n, Maps.has D (keyF n) = true ↔ X n) (h3 : ∀ n, X n → ∀ z, D.atKey (keyF n) z = .held (val n)) (h4 : ∀ k, Maps.has D k = true → ∃ n, k = keyF n)
    (ho : w'.ownsMap Try.prog 35 Rv b cnt (D.del (keyF n))) : MapX Rv w' b cnt (fun k => k ≠ n ∧ X k) val := by
  refine ⟨_, ho, fun k => ?_, fun k hk z => ?_, fun k hk => ?_⟩
  · by_cases e : k = n
    · subst e; rw [has_del_same]; simp
    · rw [has_del_other (fun h => e (keyF_inj.1 h)), h2]; simp [e]
  · rw [atKey_del_other (fun h => hk.1 (keyF_inj.1 h))]; exact h3 k hk.2 z
  · by_cases e : k = keyF n
    · exact ⟨n, e⟩
    · rw [has_del_other e] at hk; exact h4 k hk
theorem MapX.none (h : MapX Rv w b cnt X val) (hX : ∀ n, ¬ X n) : ∀ (ty t e : TypeId), Try.prog.underlying t = some (.map 35 e) → (Builtin.len_ #[t] ty #[.map (some b)]).run Try.prog w = .ok (.int .i64 0) w := by
  intro ty t e ht
  obtain ⟨D, h1, h2, _, h4⟩ := h
  have hl := h1.len ht ty
  obtain ⟨es, rfl, _, hk⟩ := h1.entries lawF
  cases es with
  | nil => exact hl
  | cons p es =>
    exfalso
    have : Maps.has (.map (p :: es)) p.1 = true := by rw [has_eq]; simp [WideAt.sameKey_self (hk p (List.mem_cons_self ..))]
    obtain ⟨n, hn⟩ := h4 _ this
    rw [hn] at this
    exact hX n ((h2 n).1 this)
end
theorem zero_string (w : World) : (zeroValue 9).run Try.prog w = .ok (.string ⟨#[]⟩) w := by kernel_rfl
theorem zero_bool (w : World) : (zeroValue 4).run Try.prog w = .ok (.bool false) w := by kernel_rfl
section
variable {w : World} {b cnt : Nat} {X : Nat → Prop} {val : Nat → Value}
/-- 'v, ok := m[n]' at texts. -/
theorem MapX.str_yes (h : MapX strH w b cnt X val) {n : Nat} (hn : n < 4294967296) (hX : X n) : (Instr.lookup 41 (.map (some b)) (.int .u32 (n : Int)) true).run Try.prog w = .ok (.tuple #[val n, .bool true]) w := by
  obtain ⟨D, h1, h2, h3, _⟩ := h
  obtain ⟨v, ps, hrun, hv⟩ := h1.look_ok lawF Try.underlying41 (zero_string w) (zd := .held (.string ⟨#[]⟩)) (zp := []) rfl (keyF_of hn)
  rw [h3 n hX] at hv
  have := strH_inv hv
  simp only [Prod.mk.injEq, DataW.held.injEq] at this
  rw [hrun, this.1, (h2 n).2 hX]
theorem MapX.str_no (h : MapX strH w b cnt X val) {n : Nat} (hn : n < 4294967296) (hX : ¬ X n) : (Instr.lookup 41 (.map (some b)) (.int .u32 (n : Int)) true).run Try.prog w = .ok (.tuple #[.string ⟨#[]⟩, .bool false]) w := by
  obtain ⟨D, h1, h2, h3, _⟩ := h
  have hno : Maps.has D (keyF n) = false := by
    cases hh : Maps.has D (keyF n)
    · rfl
    · exact absurd ((h2 n).1 hh) hX
  obtain ⟨v, ps, hrun, hv⟩ := h1.look_ok lawF Try.underlying41 (zero_string w) (zd := .held (.string ⟨#[]⟩)) (zp := []) rfl (keyF_of hn)
  rw [atKey_of_not_has hno] at hv
  have := strH_inv hv
  simp only [Prod.mk.injEq, DataW.held.injEq] at this
  rw [hrun, ← this.1, hno]
/-- 'm[n]' at what is true or not. -/
theorem MapX.bool_yes (h : MapX boolH w b cnt X val) {n : Nat} (hn : n < 4294967296) (hX : X n) (hv1 : val n = .bool true) : (Instr.lookup 42 (.map (some b)) (.int .u32 (n : Int)) false).run Try.prog w = .ok (.bool true) w := by
  obtain ⟨D, h1, h2, h3, _⟩ := h
  obtain ⟨v, ps, hrun, hv⟩ := h1.lookup lawF Try.underlying42 (zero_bool w) (zd := .held (.bool false)) (zp := []) rfl (keyF_of hn)
  rw [h3 n hX] at hv
  have := boolH_inv hv
  simp only [Prod.mk.injEq, DataW.held.injEq] at this
  rw [hrun, ← this.1, hv1]
theorem MapX.bool_no (h : MapX boolH w b cnt X val) {n : Nat} (hn : n < 4294967296) (hX : ¬ X n) : (Instr.lookup 42 (.map (some b)) (.int .u32 (n : Int)) false).run Try.prog w = .ok (.bool false) w := by
  obtain ⟨D, h1, h2, h3, _⟩ := h
  have hno : Maps.has D (keyF n) = false := by
    cases hh : Maps.has D (keyF n)
    · rfl
    · exact absurd ((h2 n).1 hh) hX
  obtain ⟨v, ps, hrun, hv⟩ := h1.lookup lawF Try.underlying42 (zero_bool w) (zd := .held (.bool false)) (zp := []) rfl (keyF_of hn)
  rw [atKey_of_not_has hno] at hv
  have := boolH_inv hv
  simp only [Prod.mk.injEq, DataW.held.injEq] at this
  rw [hrun, ← this.1]
end
/-! What a crash leaves of what was there. -/
theorem read_there {m : FSm} (ok : m.Ok) {n : Nat} (h : n ∈ numsF false m.files) : readF m n = ((getF m.files n).now, 0) := by
  have h2 : (getF m.files n).there = true := (mem_nums_get ok.1).1 h
  unfold readF
  rw [if_pos h2]
/-- A number that is there, and is not unsafe: behind a crash it is there as it was. -/
theorem safe_stays {m : FSm} (ok : m.Ok) (T : List Ft) {n : Nat} (h1 : n ∈ numsF false m.files) (h2 : n ∉ numsF true m.files) : n ∈ numsF false (crashF m T).files ∧ (readF (crashF m T) n).1 = (readF m n).1 := by
  have hl : looseF (getF m.files n) = false := by
    cases hh : looseF (getF m.files n)
    · rfl
    · exact absurd ((mem_nums_get ok.1).2 (show pickF true _ = true from hh)) h2
  obtain ⟨ok2, hk, _, _⟩ := crash_all ok T
  have hg := hk n hl
  refine ⟨(mem_nums_get ok2.1).2 (by rw [hg]; exact (mem_nums_get ok.1).1 h1), ?_⟩
  unfold readF
  rw [hg]
def U32 (m : FSm) : Prop := ∀ y ∈ m.files, y.n < 4294967296
theorem u32_act {m : FSm} (h : U32 m) {x : Fl} (hx : x.n < 4294967296) (s : Bool) : U32 (actF m x s).1 := by
  have hp : ∀ y ∈ putF m.files x, y.n < 4294967296 := fun y hy => (mem_putF' hy).elim (fun e => by rw [e]; exact hx) (h y)
  unfold actF
  split
  · show ∀ y ∈ (if s = true then m.files else putF m.files x), _
    split
    · exact h
    · exact hp
  · exact hp
theorem u32_crash {m : FSm} (h : U32 m) (T : List Ft) : U32 (crashF m T) := by
  have key : ∀ k, ∀ y ∈ crashTo m.files T (numsF true m.files) k, y.n < 4294967296 := by
    intro k
    induction k with
    | zero => exact h
    | succ k ih =>
      intro y hy
      rw [crashTo] at hy
      rcases mem_putF' hy with e | hy
      · rw [e, left_n, getF_n]
        by_cases hk : k < (numsF true m.files).length
        · have : (numsF true m.files).getD k 0 ∈ numsF true m.files := by simp [List.getD, hk]
          obtain ⟨z, hz, e2, _⟩ := mem_nums.1 this
          rw [← e2]; exact h z hz
        · have : (numsF true m.files).getD k 0 = 0 := by simp [List.getD]; rw [List.getElem?_eq_none (by omega)]; rfl
          rw [this]; omega
      · exact ih y hy
  exact key _
theorem u32_do {m : FSm} (h : U32 m) {a : Ac} (ha : a.n < 4294967296) : U32 (doF m a).1 := by
  have hg : (getF m.files a.n).n < 4294967296 := by rw [getF_n]; exact ha
  unfold doF
  split
  · unfold createF
    split
    · exact h
    · split
      · exact h
      · split
        · exact h
        · exact u32_act h (by first | exact ha | exact hg) _
  split
  · unfold appendF
    split
    · exact h
    · split
      · exact h
      · exact u32_act h (by first | exact ha | exact hg) _
  split
  · unfold truncF
    split
    · exact h
    · split
      · exact h
      · split
        · exact h
        · exact u32_act h (by first | exact ha | exact hg) _
  split
  · unfold syncF
    split
    · exact h
    · split
      · exact h
      · exact u32_act h (by first | exact ha | exact hg) _
  split
  · unfold removeF
    split
    · exact h
    · split
      · exact h
      · exact u32_act h (by first | exact ha | exact hg) _
  split
  · exact h
  split
  · exact u32_crash h _
  · exact h
theorem nums_u32 {lo : Bool} {m : FSm} (h : U32 m) {n : Nat} (hn : n ∈ numsF lo m.files) : n < 4294967296 := by
  obtain ⟨y, hy, rfl, _⟩ := mem_nums.1 hn
  exact h y hy
end Go.Proofs.Ythfhmohbfoolnaa

namespace Go.Proofs.Ythfhmohbfoolnaa
open Go Go.RowKit Go.Sort

/-- A file system of the program and the document's, apart. -/
structure Q8 (K : FsKit) (w wr : World) (p : Nat) (S0 R0 S R : Nat → Prop) (m : FSm) (xa : Option Addr) (xc : Nat) : Prop where
  fs : K.Fs wr S R p m
  did : Did S0 R0 S R w wr
  x : RdN S wr xa (flF m.files)
  xl : m.files.length ≤ xc
  xm : xc ≤ maxLen
theorem Q8.step {K : FsKit} {w wr w' : World} {p : Nat} {S0 R0 S R S' R' : Nat → Prop} {m : FSm} {xa : Option Addr} {xc : Nat} (h : Q8 K w wr p S0 R0 S R m xa xc) (hf : K.Fs w' S' R' p m) (hd : Did S R S' R' wr w') : Q8 K w w' p S0 R0 S' R' m xa xc :=
  { h with fs := hf, did := h.did.trans hd, x := hd.rdn h.x }
theorem Q8.below {K : FsKit} {w wr w' : World} {p : Nat} {S0 R0 S R : Nat → Prop} {m : FSm} {xa : Option Addr} {xc : Nat} (h : Q8 K w wr p S0 R0 S R m xa xc) (hb : Below wr.heap.size wr w') : Q8 K w w' p S0 R0 S R m xa xc :=
  h.step (K.below h.fs hb) (Did.below hb)
theorem nums_len8 (lo : Bool) (L : List Fl) : (numsF lo L).length ≤ L.length := by
  unfold numsF; rw [List.length_map]; exact List.length_filter_le _ _
theorem Q8.len {K : FsKit} {w wr : World} {p : Nat} {S0 R0 S R : Nat → Prop} {m : FSm} {xa : Option Addr} {xc : Nat} (_h : Q8 K w wr p S0 R0 S R m xa xc) (hb : Bnd m) : m.files.length ≤ 1000000000 := by have := hb.1; omega
def bothV (p : Nat) (xa : Option Addr) (xc : Nat) (m : FSm) : Value := .agg #[.pointer (some ⟨p, 0, none⟩), .slice xa m.files.length xc, .int .i64 m.fuse, .bool m.down]
/-- .. and a cell block that holds both. -/
structure Q9 (K : FsKit) (w wr : World) (p : Nat) (S0 R0 S R : Nat → Prop) (m : FSm) (xa : Option Addr) (xc bb : Nat) : Prop extends Q8 K w wr p S0 R0 S R m xa xc where
  c0 : wr.cell? ⟨bb, 0, none⟩ = some (.pointer (some ⟨p, 0, none⟩))
  c1 : wr.cell? ⟨bb, 1, none⟩ = some (.slice xa m.files.length xc)
  c2 : wr.cell? ⟨bb, 2, none⟩ = some (.int .i64 m.fuse)
  c3 : wr.cell? ⟨bb, 3, none⟩ = some (.bool m.down)
  bs : ¬ S bb
  bl : bb < wr.heap.size
section
variable {K : FsKit} {w wr w' : World} {p : Nat} {S0 R0 S R S' R' : Nat → Prop} {m : FSm} {xa : Option Addr} {xc bb : Nat}
theorem Q9.step (h : Q9 K w wr p S0 R0 S R m xa xc bb) (hf : K.Fs w' S' R' p m) (hd : Did S R S' R' wr w') : Q9 K w w' p S0 R0 S' R' m xa xc bb :=
  { toQ8 := h.toQ8.step hf hd
    c0 := by rw [hd.off.cell (p := ⟨bb, 0, none⟩) h.bl h.bs]; exact h.c0
    c1 := by rw [hd.off.cell (p := ⟨bb, 1, none⟩) h.bl h.bs]; exact h.c1
    c2 := by rw [hd.off.cell (p := ⟨bb, 2, none⟩) h.bl h.bs]; exact h.c2
    c3 := by rw [hd.off.cell (p := ⟨bb, 3, none⟩) h.bl h.bs]; exact h.c3
    bs := fun hs => (hd.s bb hs).elim h.bs (fun h2 => by have := h.bl; omega)
    bl := Nat.lt_of_lt_of_le h.bl hd.off.size }
theorem Q9.below (h : Q9 K w wr p S0 R0 S R m xa xc bb) (hb : Below wr.heap.size wr w') : Q9 K w w' p S0 R0 S R m xa xc bb :=
  h.step (K.below h.fs hb) (Did.below hb)
theorem Q9.cells (h : Q9 K w wr p S0 R0 S R m xa xc bb) : wr.cell? ⟨bb, 0, none⟩ = some (.pointer (some ⟨p, 0, none⟩)) ∧ wr.cell? ⟨bb, 1, none⟩ = some (.slice xa m.files.length xc) ∧ wr.cell? ⟨bb, 2, none⟩ = some (.int .i64 m.fuse) ∧ wr.cell? ⟨bb, 3, none⟩ = some (.bool m.down) := ⟨h.c0, h.c1, h.c2, h.c3⟩
end
theorem RdN.below8 {S : Nat → Prop} {w w' : World} {a : Option Addr} {cs : List Value} (h : RdN S w a cs) (hb : Below w.heap.size w w') : RdN S w' a cs := (Did.below (S := S) (R := fun _ => False) hb).rdn h
theorem same_true (a b : Option Addr) (c d : Nat) (N : List Nat) (w : World) (ha : Rd w w.heap.size a (u32V N)) (hb : Rd w w.heap.size b (u32V N)) (hl : N.length ≤ 1000000000) :
    Calls Try.prog 56 #[.slice a N.length c, .slice b N.length d] w fun e w' => e = .returned (.bool true) ∧ Below w.heap.size w w' := by
  refine (same_any a b c d N N w ha hb hl hl).mono fun e w' h => ?_
  simpa using h
/-- A row of bytes that is nobody's. -/
def Mine (w wr : World) (S R : Nat → Prop) (bb : Nat) (xa : Option Addr) (n : Nat) (a : Option Addr) (len : Nat) : Prop :=
  0 < len → ∃ g off, a = some ⟨g, off, none⟩ ∧ w.heap.size ≤ g ∧ ¬ S g ∧ ¬ R g ∧ g ≠ bb ∧ (∀ b o, 0 < n → xa = some ⟨b, o, none⟩ → b ≠ g) ∧ wr.there g off len
theorem setCell_far {w : World} {g o k : Nat} (v : Value) (h : k ≠ g) : (w.setCell ⟨g, o, none⟩ v).heap[k]? = w.heap[k]? := by
  simp [World.setCell, Array.getElem?_modify, Ne.symm h]
theorem setCell_size (w : World) (a : Addr) (v : Value) : (w.setCell a v).heap.size = w.heap.size := by simp [World.setCell]
theorem Q8.set {K : FsKit} {w wr : World} {p : Nat} {S0 R0 S R : Nat → Prop} {m : FSm} {xa : Option Addr} {xc g : Nat} (h : Q8 K w wr p S0 R0 S R m xa xc) (o : Nat) (v : Value) (hg : w.heap.size ≤ g) (ns : ¬ S g) (nr : ¬ R g) (nx : ∀ b o, 0 < (flF m.files).length → xa = some ⟨b, o, none⟩ → b ≠ g) :
    Q8 K w (wr.setCell ⟨g, o, none⟩ v) p S0 R0 S R m xa xc :=
  { h with
    fs := K.move h.fs (Nat.le_of_eq (setCell_size _ _ _).symm) fun k hk => setCell_far v (fun e => by subst e; exact hk.elim ns nr)
    did := ⟨h.did.s, h.did.r, ⟨h.did.off.os, h.did.off.tape, h.did.off.output, by rw [setCell_size]; exact h.did.off.size, fun k hk hn => by
      rw [setCell_far v (by omega)]; exact h.did.off.block k hk hn⟩⟩
    x := fun h0 => by
      obtain ⟨b, off, ha, hb, hs, hc⟩ := h.x h0
      exact ⟨b, off, ha, by rw [setCell_size]; exact hb, hs, fun j u hu => by
        rw [World.cell?_of_block (a := ⟨b, off + j, none⟩) (setCell_far v (nx b off h0 ha))]; exact hc j u hu⟩ }
theorem Q9.set {K : FsKit} {w wr : World} {p : Nat} {S0 R0 S R : Nat → Prop} {m : FSm} {xa : Option Addr} {xc bb g : Nat} (h : Q9 K w wr p S0 R0 S R m xa xc bb) (o : Nat) (v : Value) (hg : w.heap.size ≤ g) (ns : ¬ S g) (nr : ¬ R g) (nb : g ≠ bb) (nx : ∀ b o, 0 < (flF m.files).length → xa = some ⟨b, o, none⟩ → b ≠ g) :
    Q9 K w (wr.setCell ⟨g, o, none⟩ v) p S0 R0 S R m xa xc bb :=
  { toQ8 := h.toQ8.set o v hg ns nr nx
    c0 := by rw [World.cell?_of_block (a := ⟨bb, 0, none⟩) (setCell_far v (Ne.symm nb))]; exact h.c0
    c1 := by rw [World.cell?_of_block (a := ⟨bb, 1, none⟩) (setCell_far v (Ne.symm nb))]; exact h.c1
    c2 := by rw [World.cell?_of_block (a := ⟨bb, 2, none⟩) (setCell_far v (Ne.symm nb))]; exact h.c2
    c3 := by rw [World.cell?_of_block (a := ⟨bb, 3, none⟩) (setCell_far v (Ne.symm nb))]; exact h.c3
    bs := h.bs
    bl := by rw [setCell_size]; exact h.bl }
theorem there_below8 {w w' : World} {g off n : Nat} (h : w.there g off n) (hg : g < w.heap.size) (hb : Below w.heap.size w w') : w'.there g off n := fun j hj => by
  obtain ⟨h1, h2⟩ := h j hj
  exact ⟨by rw [hb.cell (p := ⟨g, off + j, none⟩) hg]; exact h1, by rw [hb.frozen (p := ⟨g, off + j, none⟩) hg]; exact h2⟩
theorem Q9.mine {K : FsKit} {w wr w2 w3 : World} {p : Nat} {S0 R0 S R S2 R2 : Nat → Prop} {m : FSm} {xa : Option Addr} {xc bb : Nat} {a : Option Addr} {l : List UInt8} (h : Q9 K w wr p S0 R0 S R m xa xc bb) (hn : NewBytes wr w2 S2 R2 a l) (hb : Below w2.heap.size w2 w3) : Mine w w3 S2 R2 bb xa (flF m.files).length a l.length := fun h0 => by
  obtain ⟨g, off, ha, hg, hl, hs, hr, _, ht⟩ := hn h0
  refine ⟨g, off, ha, Nat.le_trans h.did.off.size hg, hs, hr, by have := h.bl; omega, fun b o hx e => ?_, there_below8 ht hl hb⟩
  obtain ⟨b', o', e', hlt, _⟩ := h.x hx
  rw [e] at e'
  cases e'
  omega
theorem rd_str8 {w : World} {B : Nat} {a : Option Addr} {s : ByteArray} (h : Rd w B a (bV s.data.toList)) (c : Nat) : (convert 36 9 (.slice a s.size c)).run Try.prog w = .ok (.string s) w := by
  have h2 := run_string_rd (P := Try.prog) w 36 9 5 Try.underlying36 Try.underlying5 Try.underlying9 s.size c h (by rw [Array.length_toList]; rfl)
  rw [bs_of] at h2
  exact h2
theorem NewBytes.rd8 {w w' : World} {S R : Nat → Prop} {a : Option Addr} {l : List UInt8} (h : NewBytes w w' S R a l) : Rd w' w'.heap.size a (bV l) := fun h0 => by
  obtain ⟨g, off, ha, _, hg, _, _, hr, _⟩ := h (by rw [← bV_length l]; exact h0)
  exact ⟨g, off, ha, hg, hr⟩
set_option maxRecDepth 20000 in
set_option maxHeartbeats 8000000 in
theorem bsame_any (K : FsKit) (p : Nat) (S R : Nat → Prop) (m : FSm) (xa : Option Addr) (xc : Nat) (w : World) (hq : Q8 K w w p S R S R m xa xc) (hb : Bnd m) :
    Calls Try.prog 41 #[bothV p xa xc m] w fun e w' => ∃ S' R', e = .returned (.bool true) ∧ Q8 K w w' p S R S' R' m xa xc := by
  have HB := Lib.hid hb
  have HLN : Hid (∀ lo, (numsF lo m.files).length ≤ 1000000000) := fun lo => by have h1 := hb.1; have h2 := nums_len8 lo m.files; omega
  have HLF := Lib.hid (hq.len hb)
  obtain ⟨bb, hbb⟩ : ∃ bb, bb = w.heap.size := ⟨_, rfl⟩
  obtain ⟨W, hW⟩ : ∃ W, W = w.alloc (.cells #[.pointer (some ⟨p, 0, none⟩), .slice xa m.files.length xc, .int .i64 m.fuse, .bool m.down] 30) := ⟨_, rfl⟩
  have hbW : Below w.heap.size w W := by rw [hW]; exact box1 _ _
  have HQ0 : Hid (Q9 K w W p S R S R m xa xc bb) := {
    toQ8 := hq.below hbW
    c0 := by rw [hW, hbb]; simp
    c1 := by rw [hW, hbb]; simp
    c2 := by rw [hW, hbb]; simp
    c3 := by rw [hW, hbb]; simp
    bs := fun hs => by have := (K.low hq.fs).1 _ hs; omega
    bl := by rw [hW, hbb]; simp }
  have HQd := Lib.hid (HQ0.out.below (Below_drew (Below.refl W.heap.size W)))
  clear hq hb hbW
  have hdd : (m.down != m.down) = false := by simp
  unfold bothV
  go_enter Try.func41, Try.ntmps41
  go_wp2_with fail
  rw [← hW, ← hbb]
  clear hW hbb
  go_region_held_law (fun w' => w'.cell? ⟨bb, 0, none⟩ = some (.pointer (some ⟨p, 0, none⟩)) ∧ w'.cell? ⟨bb, 1, none⟩ = some (.slice xa m.files.length xc) ∧ w'.cell? ⟨bb, 2, none⟩ = some (.int .i64 m.fuse) ∧ w'.cell? ⟨bb, 3, none⟩ = some (.bool m.down))
    (first | exact HQ7.out.cells | exact HQ6.out.cells | exact HQ5.out.cells | exact HQ4.out.cells | exact HQ3.out.cells | exact HQ2.out.cells | exact HQ1.out.cells | exact HQd.out.cells | exact HQ0.out.cells)
    (first
      | (go_at_call 16
         refine (K.down _ S R p m HQd.out.fs).mono ?_
         rintro e w1 ⟨S1, R1, rfl, hf1, hd1⟩
         have HQ1 := Lib.hid (HQd.out.step hf1 hd1)
         clear hf1 hd1)
      | (go_at_call 13
         refine (K.list w1 S1 R1 p m HQ1.out.fs HB.out).mono ?_
         rintro e w2 ⟨S2, R2, a2, c2, rfl, _, _, hr2, hf2, hd2⟩
         have HQ2 := Lib.hid (HQ1.out.step hf2 hd2)
         have HR2 := Lib.hid hr2
         clear hf2 hd2 hr2)
      | (go_at_call 50
         refine (list_fs xa xc m.files m.fuse m.down w2 HQ2.out.x.rd HLF.out).mono ?_
         rintro e w3 ⟨a3, c3, rfl, _, _, hr3, _, hb3⟩
         have HQ3 := Lib.hid (HQ2.out.below hb3)
         have HR3 := Lib.hid hr3
         have HR23 := Lib.hid (HR2.out.below8 hb3)
         clear hr3 hb3)
      | (go_at_call 56
         with_reducible (show Calls Try.prog 56 #[.slice a2 _ c2, .slice a3 _ c3] _ _)
         refine (same_true a2 a3 c2 c3 _ w3 HR23.out.rd HR3.out (HLN.out _)).mono ?_
         rintro e w4 ⟨rfl, hb4⟩
         have HQ4 := Lib.hid (HQ3.out.below hb4)
         clear hb4)
      | (go_at_call 12
         refine (K.unsafe_ w4 S2 R2 p m HQ4.out.fs HB.out).mono ?_
         rintro e w5 ⟨S5, R5, a5, c5, rfl, _, _, hr5, hf5, hd5⟩
         have HQ5 := Lib.hid (HQ4.out.step hf5 hd5)
         have HR5 := Lib.hid hr5
         clear hf5 hd5 hr5)
      | (go_at_call 52
         refine (unsafe_fs xa xc m.files m.fuse m.down w5 HQ5.out.x.rd HLF.out).mono ?_
         rintro e w6 ⟨a6, c6, rfl, _, _, hr6, _, hb6⟩
         have HQ6 := Lib.hid (HQ5.out.below hb6)
         have HR6 := Lib.hid hr6
         have HR56 := Lib.hid (HR5.out.below8 hb6)
         clear hr6 hb6)
      | (go_at_call 56
         refine (same_true a5 a6 c5 c6 _ w6 HR56.out.rd HR6.out (HLN.out _)).mono ?_
         rintro e w7 ⟨rfl, hb7⟩
         have HQ7 := Lib.hid (HQ6.out.below hb7)
         clear hb7))
  have HQ := HQ7
  clear HQ7 HQ6 HQ5 HQ4 HQ3 HQ2 HQ1 HQd HQ0 HR6 HR56 HR5 HR23 HR3 HR2 HLN hdd
  go_wp2_with fail
  go_loopw [36] (fun i wr => ∃ (k : Nat) (S1 R1 : Nat → Prop), k ≤ 6 ∧ i = .int .u32 (k : Int) ∧ Q9 K w wr p S R S1 R1 m xa xc bb) (fun i _ => 6 - (intOf i).toNat)
  case atStart => exact ⟨0, _, _, by omega, rfl, HQ.out⟩
  case round =>
    clear HQ
    obtain ⟨k, S1, R1, hk, rfl, hq⟩ := hrel
    have HQ := Lib.hid hq
    clear hq
    by_cases hlt : k < 6
    · obtain ⟨c0, c1, c2, c3⟩ := HQ.out.cells
      have HCR := Lib.hid (K.read wr S1 R1 p m k HQ.out.fs HB.out (by omega))
      have HLT := Lib.hid hlt
      go_wp2_with fail
      clear c0 c1 c2 c3
      refine HCR.out.mono ?_
      rintro e w2 ⟨S2, R2, sa, sc, rfl, hz1, hz2, hnew, hf2, hd2⟩
      have HQ2 := Lib.hid (HQ.out.step hf2 hd2)
      have HNEW := Lib.hid hnew
      obtain ⟨c0, c1, c2, c3⟩ := HQ2.out.cells
      have hrf := read_fs xa xc m k w2 HQ2.out.x.rd HLF.out
      unfold fsv at hrf
      have HRF := Lib.hid hrf
      clear hnew hf2 hd2 HCR hrf
      go_wp2_with fail
      clear c0 c1 c2 c3
      refine HRF.out.mono ?_
      rintro e w3 ⟨rfl, hb3⟩
      have HQ3 := Lib.hid (HQ2.out.below hb3)
      have HMI := Lib.hid (HQ.out.mine HNEW.out hb3)
      have hcv := rd_str8 (HNEW.out.rd8.below hb3) sc
      generalize readF m k = bf at *
      obtain ⟨B, ef⟩ := bf
      simp only at HMI hcv HRF HNEW ⊢
      clear hb3 HRF HNEW HQ HQ2
      go_wp2_with fail
      obtain ⟨nB, hnB⟩ : ∃ nB, nB = B.size := ⟨_, rfl⟩
      have hnm : nB ≤ 9223372036854775807 := by rw [hnB]; unfold maxLen at hz2; omega
      have HMI2 : Hid (Mine w w3 S2 R2 bb xa (flF m.files).length sa nB) := by
        have h := HMI.out
        rw [Array.length_toList] at h
        show Mine _ _ _ _ _ _ _ _ _
        rw [hnB]; exact h
      rw [← hnB]
      clear HMI hnB hcv
      go_loopw [64] (fun i wq => ∃ q : Nat, q ≤ nB ∧ i = .int .i64 q ∧ Q9 K w wq p S R S2 R2 m xa xc bb ∧ Mine w wq S2 R2 bb xa (flF m.files).length sa nB) (fun i _ => nB - (intOf i).toNat)
      case atStart => exact ⟨0, Nat.zero_le _, rfl, HQ3.out, HMI2.out⟩
      case round =>
        clear HQ3 HMI2
        obtain ⟨q, hq, rfl, hq9, hmi⟩ := hrel
        have HQ := Lib.hid hq9; have HMI := Lib.hid hmi
        clear hq9 hmi
        by_cases hql : q < nB
        · obtain ⟨g, off, rfl, hg, hs, hr, hnb, hnx, hth⟩ := HMI.out (by omega)
          obtain ⟨q1, q2⟩ := hth q hql
          obtain ⟨z, q1⟩ := Option.isSome_iff_exists.1 q1
          have HQS := Lib.hid (HQ.out.set (off + q) (.int .u8 99) hg hs hr hnb hnx)
          have HTS : Hid (Mine w (_) S2 R2 bb xa (flF m.files).length (some ⟨g, off, none⟩) nB) := fun _ => ⟨g, off, rfl, hg, hs, hr, hnb, hnx, fun j hj => (World.there_setCells hth g (off + q) [.int .u8 99]) j hj⟩
          have HQL := Lib.hid hql
          clear hg hs hr hnb hnx hth
          go_wp2_with fail
          go_roundw
          case rel => exact ⟨q + 1, HQL.out, by go_num, HQS.out, HTS.out⟩
          case measure => have := HQL.out; simp [intOf]; omega
        · clear HMI
          go_wp2_with fail
          go_roundw
          case rel => exact ⟨k + 1, S2, R2, HLT.out, by go_num, HQ.out⟩
          case measure => have := HLT.out; simp [intOf]; omega
    · go_wp2_with fail
      go_ret
      exact ⟨S1, R1, rfl, HQ.out.toQ8⟩
end Go.Proofs.Ythfhmohbfoolnaa

namespace Go.Proofs.Ythfhmohbfoolnaa
open Go Go.RowKit Go.Sort

/-- The boxes of a step: both, the act, the result. -/
structure Boxes (wr : World) (p : Nat) (m : FSm) (xa : Option Addr) (xc bb : Nat) (a : Ac) : Prop where
  c0 : wr.cell? ⟨bb, 0, none⟩ = some (.pointer (some ⟨p, 0, none⟩))
  c1 : wr.cell? ⟨bb, 1, none⟩ = some (.slice xa m.files.length xc)
  c2 : wr.cell? ⟨bb, 2, none⟩ = some (.int .i64 m.fuse)
  c3 : wr.cell? ⟨bb, 3, none⟩ = some (.bool m.down)
  f0 : wr.frozen? ⟨bb, 0, none⟩ = false
  f1 : wr.frozen? ⟨bb, 1, none⟩ = false
  f2 : wr.frozen? ⟨bb, 2, none⟩ = false
  f3 : wr.frozen? ⟨bb, 3, none⟩ = false
  d0 : wr.cell? ⟨bb + 1, 0, none⟩ = some (.int .i64 a.kind)
  d1 : wr.cell? ⟨bb + 1, 1, none⟩ = some (.int .u32 (a.n : Int))
  d2 : wr.cell? ⟨bb + 1, 2, none⟩ = some (.slice a.ba a.body.length a.bc)
  d3 : wr.cell? ⟨bb + 1, 3, none⟩ = some (.int .i64 a.size)
  d4 : wr.cell? ⟨bb + 1, 4, none⟩ = some (.slice a.fa a.fates.length a.fc)
  r0 : wr.cell? ⟨bb + 1 + 1, 0, none⟩ = some (.pointer none)
  r1 : wr.cell? ⟨bb + 1 + 1, 1, none⟩ = some (.slice none 0 0)
  r2 : wr.cell? ⟨bb + 1 + 1, 2, none⟩ = some (.int .i64 0)
  r3 : wr.cell? ⟨bb + 1 + 1, 3, none⟩ = some (.bool false)
  g0 : wr.frozen? ⟨bb + 1 + 1, 0, none⟩ = false
  g1 : wr.frozen? ⟨bb + 1 + 1, 1, none⟩ = false
  g2 : wr.frozen? ⟨bb + 1 + 1, 2, none⟩ = false
  g3 : wr.frozen? ⟨bb + 1 + 1, 3, none⟩ = false
theorem Boxes.off {wr w' : World} {p : Nat} {m : FSm} {xa : Option Addr} {xc bb : Nat} {a : Ac} (h : Boxes wr p m xa xc bb a) (hb : ∀ k, bb ≤ k → k ≤ bb + 2 → w'.heap[k]? = wr.heap[k]?) : Boxes w' p m xa xc bb a := by
  have e0 : ∀ j, w'.cell? ⟨bb, j, none⟩ = wr.cell? ⟨bb, j, none⟩ := fun j => World.cell?_of_block (hb bb (by omega) (by omega))
  have e1 : ∀ j, w'.cell? ⟨bb + 1, j, none⟩ = wr.cell? ⟨bb + 1, j, none⟩ := fun j => World.cell?_of_block (hb (bb + 1) (by omega) (by omega))
  have e2 : ∀ j, w'.cell? ⟨bb + 1 + 1, j, none⟩ = wr.cell? ⟨bb + 1 + 1, j, none⟩ := fun j => World.cell?_of_block (hb (bb + 1 + 1) (by omega) (by omega))
  have k0 : ∀ j, w'.frozen? ⟨bb, j, none⟩ = wr.frozen? ⟨bb, j, none⟩ := fun j => World.frozen?_of_block (hb bb (by omega) (by omega))
  have k2 : ∀ j, w'.frozen? ⟨bb + 1 + 1, j, none⟩ = wr.frozen? ⟨bb + 1 + 1, j, none⟩ := fun j => World.frozen?_of_block (hb (bb + 1 + 1) (by omega) (by omega))
  obtain ⟨c0, c1, c2, c3, f0, f1, f2, f3, d0, d1, d2, d3, d4, r0, r1, r2, r3, g0, g1, g2, g3⟩ := h
  constructor <;> first | (rw [e0]; assumption) | (rw [e1]; assumption) | (rw [e2]; assumption) | (rw [k0]; assumption) | (rw [k2]; assumption)
structure QS (K : FsKit) (w wr : World) (p : Nat) (S0 R0 S R : Nat → Prop) (m mx : FSm) (xa : Option Addr) (xc bb : Nat) (a : Ac) : Prop where
  fs : K.Fs wr S R p m
  did : Did S0 R0 S R w wr
  x : RdN S wr xa (flF mx.files)
  xl : mx.files.length ≤ xc
  xm : xc ≤ maxLen
  xn : ∀ b o, 0 < (flF mx.files).length → xa = some ⟨b, o, none⟩ → b < bb ∨ bb + 2 < b
  bx : Boxes wr p mx xa xc bb a
  ns : ∀ k, bb ≤ k → k ≤ bb + 2 → ¬ S k
  nr : ∀ k, bb ≤ k → k ≤ bb + 2 → ¬ R k
  ge : w.heap.size ≤ bb
  bl : bb + 2 < wr.heap.size
section
variable {K : FsKit} {w wr w' : World} {p : Nat} {S0 R0 S R S' R' : Nat → Prop} {m m' mx : FSm} {xa : Option Addr} {xc bb : Nat} {a : Ac}
theorem QS.step (h : QS K w wr p S0 R0 S R m mx xa xc bb a) (hf : K.Fs w' S' R' p m') (hd : Did S R S' R' wr w') : QS K w w' p S0 R0 S' R' m' mx xa xc bb a :=
  { h with
    fs := hf
    did := h.did.trans hd
    x := hd.rdn h.x
    bx := h.bx.off fun k h1 h2 => hd.off.block k (by have := h.bl; omega) (h.ns k h1 h2)
    ns := fun k h1 h2 hs => (hd.s k hs).elim (h.ns k h1 h2) (fun h3 => by have := h.bl; omega)
    nr := fun k h1 h2 hr => (hd.r k hr).elim (h.nr k h1 h2) (fun h3 => h3.elim (h.ns k h1 h2) (fun h4 => by have := h.bl; omega))
    bl := Nat.lt_of_lt_of_le h.bl hd.off.size }
theorem QS.below (h : QS K w wr p S0 R0 S R m mx xa xc bb a) (hb : Below wr.heap.size wr w') : QS K w w' p S0 R0 S R m mx xa xc bb a :=
  h.step (K.below h.fs hb) (Did.below hb)
end
theorem qs_start {K : FsKit} {p : Nat} {S R : Nat → Prop} {m : FSm} {xa : Option Addr} {xc : Nat} {w : World} (a : Ac) (hq : Q8 K w w p S R S R m xa xc) :
    QS K w (((w.alloc (.cells #[.pointer (some ⟨p, 0, none⟩), .slice xa m.files.length xc, .int .i64 m.fuse, .bool m.down] 30)).alloc (.cells a.c 38)).alloc (.cells #[.pointer none, .slice none 0 0, .int .i64 0, .bool false] 30)) p S R S R m m xa xc w.heap.size a := by
  obtain ⟨W, hW⟩ : ∃ W, W = (((w.alloc (.cells #[.pointer (some ⟨p, 0, none⟩), .slice xa m.files.length xc, .int .i64 m.fuse, .bool m.down] 30)).alloc (.cells a.c 38)).alloc (.cells #[.pointer none, .slice none 0 0, .int .i64 0, .bool false] 30)) := ⟨_, rfl⟩
  have hb : Below w.heap.size w W := by rw [hW]; exact (((Below.refl _ _).alloc (Nat.le_refl _) _).alloc (by simp) _).alloc (by simp; omega) _
  have hq2 := hq.below hb
  rw [← hW]
  refine { fs := hq2.fs, did := hq2.did, x := hq2.x, xl := hq2.xl, xm := hq2.xm, xn := fun b o h0 e => ?_, bx := ?_, ns := fun k h1 _ hs => ?_, nr := fun k h1 _ hr => ?_, ge := Nat.le_refl _, bl := by rw [hW]; simp }
  · obtain ⟨b', o', e', hlt, _⟩ := hq.x h0
    rw [e] at e'; cases e'; exact .inl hlt
  · rw [hW]
    unfold Ac.c
    constructor <;> go_simp
  · have := (K.low hq.fs).1 k hs; omega
  · have := (K.low hq.fs).2 k hr; omega
/-- What the document's file system has become, apart from all. -/
structure Xn (w2 : World) (S : Nat → Prop) (mx' : FSm) (xa' : Option Addr) (xc' bb : Nat) : Prop where
  x : RdN S w2 xa' (flF mx'.files)
  xl : mx'.files.length ≤ xc'
  xm : xc' ≤ maxLen
  xn : ∀ b o, 0 < (flF mx'.files).length → xa' = some ⟨b, o, none⟩ → b < bb ∨ bb + 2 < b
theorem QS.fresh {K : FsKit} {w w1 w2 : World} {p : Nat} {S0 R0 S R : Nat → Prop} {m mx mx' : FSm} {xa xa' : Option Addr} {xc xc' bb : Nat} {a : Ac} (h : QS K w w1 p S0 R0 S R m mx xa xc bb a) (hl : mx'.files.length ≤ xc') (hc : xc' ≤ maxLen) (hr : Rd w2 w2.heap.size xa' (flF mx'.files)) (hf : From w1 xa mx.files xa' mx'.files) (hb : Below w1.heap.size w1 w2) : Xn w2 S mx' xa' xc' bb := by
  refine ⟨?_, hl, hc, ?_⟩
  · rcases hf with ⟨e1, e2⟩ | hf
    · rw [e1, e2]; exact h.x.below8 hb
    · intro h0
      obtain ⟨b, off, ha, hlt, hcc⟩ := hr h0
      exact ⟨b, off, ha, hlt, fun hs => by have h1 := hf b off none ha; have h2 := (K.low h.fs).1 b hs; omega, hcc⟩
  · intro b o h0 e
    rcases hf with ⟨e1, e2⟩ | hf
    · exact h.xn b o (by rw [← e2]; exact h0) (by rw [← e1]; exact e)
    · have h1 := hf b o none e; have h2 := h.bl; exact .inr (by omega)
theorem set_at8 {w : World} {g o k : Nat} (v u : Value) (h : w.cell? ⟨g, o, none⟩ = some u) : (w.setCell ⟨g, o, none⟩ v).cell? ⟨g, k, none⟩ = if k = o then some v else w.cell? ⟨g, k, none⟩ := by
  by_cases e : k = o
  · subst e; rw [if_pos rfl]; exact World.cell?_setCell_same _ _ _ h
  · rw [if_neg e]; exact World.cell?_setCell_other _ _ _ _ (by simp <;> omega)
/-- Three cells of the box are laid anew. -/
theorem QS.laid {K : FsKit} {w wr : World} {p : Nat} {S0 R0 S R : Nat → Prop} {m mx : FSm} {xa xa' : Option Addr} {xc xc' bb : Nat} {a : Ac} (h : QS K w wr p S0 R0 S R m mx xa xc bb a) (hx : Xn wr S m xa' xc' bb) :
    QS K w (((wr.setCell ⟨bb, 1, none⟩ (.slice xa' m.files.length xc')).setCell ⟨bb, 2, none⟩ (.int .i64 m.fuse)).setCell ⟨bb, 3, none⟩ (.bool m.down)) p S0 R0 S R m m xa' xc' bb a := by
  obtain ⟨c0, c1, c2, c3, f0, f1, f2, f3, d0, d1, d2, d3, d4, r0, r1, r2, r3, g0, g1, g2, g3⟩ := h.bx
  obtain ⟨W, hW⟩ : ∃ W, W = (((wr.setCell ⟨bb, 1, none⟩ (.slice xa' m.files.length xc')).setCell ⟨bb, 2, none⟩ (.int .i64 m.fuse)).setCell ⟨bb, 3, none⟩ (.bool m.down)) := ⟨_, rfl⟩
  have hsz : W.heap.size = wr.heap.size := by rw [hW]; simp only [setCell_size]
  have hbk : ∀ k, k ≠ bb → W.heap[k]? = wr.heap[k]? := fun k hk => by rw [hW, setCell_far _ hk, setCell_far _ hk, setCell_far _ hk]
  have hc : ∀ b j, b ≠ bb → W.cell? ⟨b, j, none⟩ = wr.cell? ⟨b, j, none⟩ := fun b j hb => World.cell?_of_block (hbk b hb)
  have hf : ∀ b j, W.frozen? ⟨b, j, none⟩ = wr.frozen? ⟨b, j, none⟩ := fun b j => by rw [hW]; simp only [World.frozen?_setCell]
  rw [← hW]
  refine { fs := K.move h.fs (Nat.le_of_eq hsz.symm) fun k hk => hbk k (fun e => by subst e; exact hk.elim (h.ns k (Nat.le_refl _) (by omega)) (h.nr k (Nat.le_refl _) (by omega)))
           did := ⟨h.did.s, h.did.r, ⟨by rw [hW]; exact h.did.off.os, by rw [hW]; exact h.did.off.tape, by rw [hW]; exact h.did.off.output, by rw [hsz]; exact h.did.off.size, fun k hk hn => by
             rw [hbk k (by have := h.ge; omega)]; exact h.did.off.block k hk hn⟩⟩
           x := fun h0 => ?_, xl := hx.xl, xm := hx.xm, xn := hx.xn, bx := ?_, ns := h.ns, nr := h.nr, ge := h.ge, bl := by rw [hsz]; exact h.bl }
  · obtain ⟨b, off, ha, hlt, hs, hcc⟩ := hx.x h0
    have hne := hx.xn b off h0 ha
    exact ⟨b, off, ha, by rw [hsz]; exact hlt, hs, fun j u hu => by rw [hc b _ (by omega)]; exact hcc j u hu⟩
  · have k1 : (wr.setCell ⟨bb, 1, none⟩ (.slice xa' m.files.length xc')).cell? ⟨bb, 2, none⟩ = some (.int .i64 mx.fuse) := by rw [set_at8 _ _ c1]; exact c2
    have k2 : ((wr.setCell ⟨bb, 1, none⟩ (.slice xa' m.files.length xc')).setCell ⟨bb, 2, none⟩ (.int .i64 m.fuse)).cell? ⟨bb, 3, none⟩ = some (.bool mx.down) := by rw [set_at8 _ _ k1, if_neg (by omega), set_at8 _ _ c1]; exact c3
    refine { c0 := ?_, c1 := ?_, c2 := ?_, c3 := ?_, f0 := by rw [hf]; exact f0, f1 := by rw [hf]; exact f1, f2 := by rw [hf]; exact f2, f3 := by rw [hf]; exact f3, d0 := by rw [hc _ _ (by omega)]; exact d0, d1 := by rw [hc _ _ (by omega)]; exact d1, d2 := by rw [hc _ _ (by omega)]; exact d2, d3 := by rw [hc _ _ (by omega)]; exact d3, d4 := by rw [hc _ _ (by omega)]; exact d4, r0 := by rw [hc _ _ (by omega)]; exact r0, r1 := by rw [hc _ _ (by omega)]; exact r1, r2 := by rw [hc _ _ (by omega)]; exact r2, r3 := by rw [hc _ _ (by omega)]; exact r3, g0 := by rw [hf]; exact g0, g1 := by rw [hf]; exact g1, g2 := by rw [hf]; exact g2, g3 := by rw [hf]; exact g3 } <;> (rw [hW, set_at8 _ _ k2, set_at8 _ _ k1, set_at8 _ _ c1]; simp [c0])
/-- What the last region reads and writes. -/
theorem QS.fin {K : FsKit} {w wr : World} {p : Nat} {S0 R0 S R : Nat → Prop} {m mx : FSm} {xa : Option Addr} {xc bb : Nat} {a : Ac} (h : QS K w wr p S0 R0 S R m mx xa xc bb a) :
    wr.cell? ⟨bb, 0, none⟩ = some (.pointer (some ⟨p, 0, none⟩)) ∧ wr.cell? ⟨bb, 1, none⟩ = some (.slice xa mx.files.length xc) ∧ wr.cell? ⟨bb, 2, none⟩ = some (.int .i64 mx.fuse) ∧ wr.cell? ⟨bb, 3, none⟩ = some (.bool mx.down) ∧
    wr.cell? ⟨bb + 1 + 1, 0, none⟩ = some (.pointer none) ∧ wr.cell? ⟨bb + 1 + 1, 1, none⟩ = some (.slice none 0 0) ∧ wr.cell? ⟨bb + 1 + 1, 2, none⟩ = some (.int .i64 0) ∧ wr.cell? ⟨bb + 1 + 1, 3, none⟩ = some (.bool false) ∧
    wr.frozen? ⟨bb + 1 + 1, 0, none⟩ = false ∧ wr.frozen? ⟨bb + 1 + 1, 1, none⟩ = false ∧ wr.frozen? ⟨bb + 1 + 1, 2, none⟩ = false ∧ wr.frozen? ⟨bb + 1 + 1, 3, none⟩ = false :=
  ⟨h.bx.c0, h.bx.c1, h.bx.c2, h.bx.c3, h.bx.r0, h.bx.r1, h.bx.r2, h.bx.r3, h.bx.g0, h.bx.g1, h.bx.g2, h.bx.g3⟩
theorem QS.q8 {K : FsKit} {w wr : World} {p : Nat} {S0 R0 S R : Nat → Prop} {m : FSm} {xa : Option Addr} {xc bb : Nat} {a : Ac} (h : QS K w wr p S0 R0 S R m m xa xc bb a) : Q8 K wr wr p S R S R m xa xc := ⟨h.fs, Did.refl _ _ _, h.x, h.xl, h.xm⟩
theorem QS.q8' {K : FsKit} {w wr : World} {p : Nat} {S0 R0 S R : Nat → Prop} {m : FSm} {xa : Option Addr} {xc bb : Nat} {a : Ac} (h : QS K w wr p S0 R0 S R m m xa xc bb a) : Q8 K w wr p S0 R0 S R m xa xc := ⟨h.fs, h.did, h.x, h.xl, h.xm⟩
/-- The result is laid. -/
theorem QS.last {K : FsKit} {w wr : World} {p : Nat} {S0 R0 S R : Nat → Prop} {m : FSm} {xa : Option Addr} {xc bb : Nat} {a : Ac} (h : QS K w wr p S0 R0 S R m m xa xc bb a) (v0 v1 v2 v3 : Value) :
    Q8 K w ((((wr.setCell ⟨bb + 1 + 1, 0, none⟩ v0).setCell ⟨bb + 1 + 1, 1, none⟩ v1).setCell ⟨bb + 1 + 1, 2, none⟩ v2).setCell ⟨bb + 1 + 1, 3, none⟩ v3) p S0 R0 S R m xa xc := by
  have hg : w.heap.size ≤ bb + 1 + 1 := by have := h.ge; omega
  have ns := h.ns (bb + 1 + 1) (by omega) (by omega)
  have nr := h.nr (bb + 1 + 1) (by omega) (by omega)
  have nx : ∀ b o, 0 < (flF m.files).length → xa = some ⟨b, o, none⟩ → b ≠ bb + 1 + 1 := fun b o h0 e => by have := h.xn b o h0 e; omega
  exact (((h.q8'.set 0 v0 hg ns nr nx).set 1 v1 hg ns nr nx).set 2 v2 hg ns nr nx).set 3 v3 hg ns nr nx
theorem QS.fin4 {K : FsKit} {w wr : World} {p : Nat} {S0 R0 S R : Nat → Prop} {m mx : FSm} {xa : Option Addr} {xc bb : Nat} {a : Ac} (h : QS K w wr p S0 R0 S R m mx xa xc bb a) :
    wr.cell? ⟨bb, 0, none⟩ = some (.pointer (some ⟨p, 0, none⟩)) ∧ wr.cell? ⟨bb, 1, none⟩ = some (.slice xa mx.files.length xc) ∧ wr.cell? ⟨bb, 2, none⟩ = some (.int .i64 mx.fuse) ∧ wr.cell? ⟨bb, 3, none⟩ = some (.bool mx.down) :=
  ⟨h.bx.c0, h.bx.c1, h.bx.c2, h.bx.c3⟩
theorem QS.fin4s {K : FsKit} {w wr : World} {p : Nat} {S0 R0 S R : Nat → Prop} {m mx : FSm} {xa : Option Addr} {xc bb : Nat} {a : Ac} (h : QS K w wr p S0 R0 S R m mx xa xc bb a) (v0 v1 v2 v3 : Value) {W : World} (hW : W = (((wr.setCell ⟨bb + 1 + 1, 0, none⟩ v0).setCell ⟨bb + 1 + 1, 1, none⟩ v1).setCell ⟨bb + 1 + 1, 2, none⟩ v2).setCell ⟨bb + 1 + 1, 3, none⟩ v3) :
    W.cell? ⟨bb, 0, none⟩ = some (.pointer (some ⟨p, 0, none⟩)) ∧ W.cell? ⟨bb, 1, none⟩ = some (.slice xa mx.files.length xc) ∧ W.cell? ⟨bb, 2, none⟩ = some (.int .i64 mx.fuse) ∧ W.cell? ⟨bb, 3, none⟩ = some (.bool mx.down) := by
  have hbk : W.heap[bb]? = wr.heap[bb]? := by rw [hW, setCell_far _ (by omega), setCell_far _ (by omega), setCell_far _ (by omega), setCell_far _ (by omega)]
  have hc : ∀ j, W.cell? ⟨bb, j, none⟩ = wr.cell? ⟨bb, j, none⟩ := fun j => World.cell?_of_block hbk
  rw [hc, hc, hc, hc]
  exact h.fin4
theorem size_both : (Try.prog.info? 30).map (·.size) = some 4 := by kernel_rfl
theorem load_both (W : World) (b : Nat) (cs : Array Value) (ht : W.there b 0 cs.size) (hc : cs.size = 4 := by rfl) : (loadVar 30 ⟨b, 0, none⟩).run Try.prog (W.setCells b 0 cs.toList) = .ok (.agg cs) (W.setCells b 0 cs.toList) :=
  run_loadVar_mid (P := Try.prog) _ b 0 30 _ _ (World.rangeAt_setCells_same W b 0 cs.toList ht) Try.underlying30 rfl (by rw [size_both]; simp [hc])
theorem QS.there {K : FsKit} {w wr : World} {p : Nat} {S0 R0 S R : Nat → Prop} {m mx : FSm} {xa : Option Addr} {xc bb : Nat} {a : Ac} (h : QS K w wr p S0 R0 S R m mx xa xc bb a) : wr.there (bb + 1 + 1) 0 4 := fun j hj => by
  obtain ⟨_, _, _, _, r0, r1, r2, r3, g0, g1, g2, g3⟩ := h.fin
  have : j = 0 ∨ j = 1 ∨ j = 2 ∨ j = 3 := by omega
  rcases this with rfl | rfl | rfl | rfl <;> simp [*]
end Go.Proofs.Ythfhmohbfoolnaa

