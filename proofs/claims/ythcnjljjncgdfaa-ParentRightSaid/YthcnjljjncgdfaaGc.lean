import Derived.Test.YthcnjljjncgdfaaGa
import Derived.Test.YthcnjljjncgdfaaGb
import Derived.WalkSpells
import Derived.WalkLawsBesides
import Derived.BigQuiet
import Derived.Lib.Hide
import Derived.Laws.BytesArg
import Derived.Deep.Draws
import Derived.OwnWalk
import Derived.Laws.MakeOwn
import Derived.ScopeJumps
import Derived.WalkMore
namespace Go.Proofs.Ythcnjljjncgdfaa
open Go Go.RowKit

/-! Small facts on endings, worlds, and slices of bytes: over any program. -/
theorem ret_bool {a b : Bool} (h : a = b) : Ending.returned (.bool a) = .returned (.bool b) := by rw [h]
theorem ret_i64 {a b : Int} (h : a = b) : Ending.returned (.int .i64 a) = .returned (.int .i64 b) := by rw [h]
theorem ret_int {k : IntKind} {a b : Int} (h : a = b) : Ending.returned (.int k a) = .returned (.int k b) := by rw [h]
theorem ret_str {a b : ByteArray} (h : a = b) : Ending.returned (.string a) = .returned (.string b) := by rw [h]
theorem Below_drewN {B : Nat} {a w : World} (h : Below B a w) (n : Nat) : Below B a (w.drewN n) := ⟨h.os, h.tape, h.output, h.size, h.block⟩
theorem Below_drew {B : Nat} {a w : World} (h : Below B a w) : Below B a w.drew := ⟨h.os, h.tape, h.output, h.size, h.block⟩
theorem box1 (w : World) (o : Obj) : Below w.heap.size w (w.alloc o) := (Below.refl _ _).alloc (Nat.le_refl _) _
theorem bel2 {w w0 w1 : World} (h : Below w.heap.size w w0) (h1 : Below w0.heap.size w0 w1) : Below w.heap.size w w1 := h.trans (h1.mono h.size)
theorem Below.to_grown {w w' : World} (h : RowKit.Below w.heap.size w w') : w.grownBy w' none := ⟨h.os, h.tape, h.output, h.size, fun k hk _ => h.block k hk⟩
theorem own_below {w w' : World} {base : Nat} {e : TypeId} {size : Nat} {v : Value} {n : Nat} {xs : List Value} (h : w.ownsRow base e size v n xs) (hb : RowKit.Below w.heap.size w w') : w'.ownsRow base e size v n xs :=
  h.kept (Below.to_grown hb) (by cases hv : v.ownBlock <;> simp)
theorem own_slice {w : World} {base : Nat} {e : TypeId} {size : Nat} {v : Value} {n : Nat} {xs : List Value} (h : w.ownsRow base e size v n xs) :
    ∃ a c, v = .slice a n c ∧ n ≤ c ∧ c ≤ maxLen ∧ (0 < n → ∃ g, a = some ⟨g, 0, none⟩ ∧ base ≤ g ∧ g < w.heap.size) := by
  rcases h.2 with ⟨rfl, rfl⟩ | ⟨g, cap, cur, rfl, hb, hg, hnc, hcm, _⟩
  · exact ⟨none, 0, rfl, Nat.le_refl _, Nat.zero_le _, fun h => absurd h (by omega)⟩
  · exact ⟨_, cap, rfl, hnc, hcm, fun _ => ⟨g, rfl, hb, (Array.getElem?_eq_some_iff.1 hg).1⟩⟩
theorem own_base {w : World} {base base' : Nat} {e : TypeId} {size : Nat} {v : Value} {n : Nat} {xs : List Value} (h : w.ownsRow base e size v n xs) (hb : base' ≤ base) : w.ownsRow base' e size v n xs := by
  refine ⟨h.1, ?_⟩
  rcases h.2 with h | ⟨g, cap, cur, h1, h2, h3⟩
  · exact .inl h
  · exact .inr ⟨g, cap, cur, h1, by omega, h3⟩
/-- A world that is grown by a row of the call's own has not touched what is below. -/
theorem Below.of_grown {B : Nat} {a w w' : World} {row : Option Nat} (h : RowKit.Below B a w) (hg : w.grownBy w' row) (hB : B ≤ w.heap.size) (hr : ∀ g, row = some g → B ≤ g) : RowKit.Below B a w' := h.grown hg hB hr

theorem Rd.drop {w : World} {B b o : Nat} {cs : List Value} (h : Rd w B (some ⟨b, o, none⟩) cs) (m : Nat) : Rd w B (some ⟨b, o + m, none⟩) (cs.drop m) := fun h0 => by
  obtain ⟨b', o', he, hb, hc⟩ := h (by simp at h0; omega)
  obtain ⟨rfl, rfl⟩ : b = b' ∧ o = o' := by injection he with h; injection h; simp_all
  refine ⟨b, o + m, rfl, hb, fun j u hu => ?_⟩
  rw [List.getElem?_drop] at hu
  rw [Nat.add_assoc]
  exact hc (m + j) u hu
theorem Rd.take {w : World} {B : Nat} {a : Option Addr} {cs : List Value} (h : Rd w B a cs) (m : Nat) : Rd w B a (cs.take m) := fun h0 => by
  have h0' : 0 < cs.length := by simp at h0; omega
  obtain ⟨b, o, he, hb, hc⟩ := h h0'
  refine ⟨b, o, he, hb, fun j u hu => hc j u ?_⟩
  rw [List.getElem?_take] at hu
  split at hu
  · exact hu
  · cases hu

theorem enters_at {P : Program} {f : FuncId} {fn : Func} {c : Code} (hf : P.funcs[f]? = some fn) (hname : (fn.name == "runtime.NumGoroutine") = false) (hb : fn.body = some c) : ∀ args w, (callFunc f args).run P w = .ok (.enter f args) w := by
  intro args w
  have h1 : fn.name ≠ "runtime.NumGoroutine" := by simpa using hname
  simp [callFunc, hf, h1, hb, mark]
theorem getD_lt {l : List UInt8} {j : Nat} (h : j < l.length) : l.getD j 0 = l[j] := by simp [List.getD, h]
theorem getD_ge {l : List UInt8} {j : Nat} (h : l.length ≤ j) : l.getD j 0 = 0 := by simp [List.getD, h]
theorem data_length (s : ByteArray) : s.data.toList.length = s.size := by simp
theorem data_getD {s : ByteArray} {j : Nat} (h : j < s.size) : s.data.toList.getD j 0 = s[j] := by rw [getD_lt (by simpa using h)]; rfl
/-- Bytes as cells. -/
def bV (l : List UInt8) : List Value := l.map fun c => .int .u8 (c.toNat : Int)
def bs (l : List UInt8) : ByteArray := ⟨l.toArray⟩
theorem bV_length (l : List UInt8) : (bV l).length = l.length := by simp [bV]
theorem bV_nil : bV [] = [] := rfl
theorem bV_append (l m : List UInt8) : bV (l ++ m) = bV l ++ bV m := by simp [bV]
theorem bV_take (l : List UInt8) (k : Nat) : bV (l.take k) = (bV l).take k := by simp [bV]
theorem bV_drop (l : List UInt8) (k : Nat) : bV (l.drop k) = (bV l).drop k := by simp [bV]
theorem bV_get (l : List UInt8) (k : Nat) (h : k < l.length) : (bV l)[k]? = some (.int .u8 (l[k].toNat : Int)) := by simp [bV, h]
theorem bV_one (l : List UInt8) : ∀ u ∈ bV l, u.oneCell' = true := by
  intro u hu; obtain ⟨c, _, rfl⟩ := List.mem_map.1 hu; rfl
theorem bs_toList (l : List UInt8) : (bs l).data.toList = l := by simp [bs]
theorem bs_size (l : List UInt8) : (bs l).size = l.length := by simp [bs, ByteArray.size]
theorem bs_of (s : ByteArray) : bs s.data.toList = s := by cases s; simp [bs]
theorem bs_append (l m : List UInt8) : bs l ++ bs m = bs (l ++ m) := by
  have h : (bs l ++ bs m).data = (bs (l ++ m)).data := by
    rw [ByteArray.data_append]; simp [bs]
  cases h1 : bs l ++ bs m; cases h2 : bs (l ++ m); rw [h1, h2] at h; simp at h; rw [h]
theorem bs_extract (s : ByteArray) (i j : Nat) : s.extract i j = bs ((s.data.toList.drop i).take (j - i)) := by
  have h : (s.extract i j).data = (bs ((s.data.toList.drop i).take (j - i))).data := by
    rw [ByteArray.data_extract]; apply Array.toList_inj.1; simp [bs, List.extract_eq_take_drop]
  cases h1 : s.extract i j; cases h2 : bs ((s.data.toList.drop i).take (j - i)); rw [h1, h2] at h; simp at h; rw [h]
theorem bs_list (l : List UInt8) : (bs l).toList = l := by rw [ByteArray.toList_eq]; exact bs_toList l
/-- Two texts, compared. -/
theorem str_eq {x y : ByteArray} {b : Bool} (h : decide (x = y) = b) : (x.toList == y.toList) = b ∧ (x.toList != y.toList) = !b := by
  have e : (x.toList == y.toList) = decide (x = y) := by
    rw [ByteArray.toList_eq, ByteArray.toList_eq]
    by_cases hxy : x = y
    · subst hxy; simp
    · have : x.data.toList ≠ y.data.toList := fun e => hxy (by cases x; cases y; simp at e; rw [e])
      simp [hxy]
      intro e; apply hxy; cases x; cases y; simp at e; rw [e]
  rw [bne, e, h]; exact ⟨rfl, rfl⟩
theorem bs_inj {l m : List UInt8} (h : bs l = bs m) : l = m := by
  have := congrArg (fun s : ByteArray => s.data.toList) h; simpa [bs] using this
/-- The cell of one byte of what is read. -/
theorem Rd.byte {w : World} {B : Nat} {a : Option Addr} {l : List UInt8} (h : Rd w B a (bV l)) {i : Nat} (hi : i < l.length) :
    ∃ b off, a = some ⟨b, off, none⟩ ∧ b < B ∧ w.cell? ⟨b, off + i, none⟩ = some (.int .u8 (l[i].toNat : Int)) := by
  obtain ⟨b, off, ha, hb, hc⟩ := h (by rw [bV_length]; omega)
  exact ⟨b, off, ha, hb, hc i _ (bV_get l i hi)⟩
theorem strOf_bytes (l : List UInt8) : strOfNums (l.map fun c => (c.toNat : Int)) = bs l := by
  simp only [strOfNums, bs, List.map_map]
  congr 2
  exact (List.map_congr_left (fun c _ => by simp)).trans (List.map_id l)
/-- string(b) of bytes that are read. -/
theorem run_string_rd {P : Program} (w : World) (src dst e : TypeId) (hs : P.underlying src = some (.slice e)) (he : P.underlying e = some (.int .u8)) (hd : P.underlying dst = some .string)
    {B : Nat} {a : Option Addr} (n c : Nat) {l : List UInt8} (h : Rd w B a (bV l)) (hn : n = l.length) : (convert src dst (.slice a n c)).run P w = .ok (.string (bs l)) w := by
  subst hn
  rcases a with _ | ⟨b, off, sp⟩
  · by_cases h0 : 0 < l.length
    · obtain ⟨b, off, ha, _⟩ := h (by rw [bV_length]; exact h0)
      cases ha
    · have : l = [] := List.eq_nil_of_length_eq_zero (by omega)
      subst this
      exact run_convert_bytes_nil w src e hs he _ _ dst hd
  · by_cases h0 : 0 < l.length
    · obtain ⟨b', off', ha, _, hc⟩ := h (by rw [bV_length]; exact h0)
      injection ha with ha; injection ha with h1 h2 h3
      subst h1 h2 h3
      have := run_convert_bytes_arg (P := P) w src e hs he b off l.length c (l.map fun c => (c.toNat : Int)) (by simp) (fun i hi => by
        rw [hc i _ (bV_get l i hi)]; simp [List.getD, hi]) dst hd
      rw [this, strOf_bytes]
    · have : l = [] := List.eq_nil_of_length_eq_zero (by omega)
      subst this
      rw [run_convert_bytes_string w src dst e _ _ c hs he hd, run_bytesToString w _ _ c [] (by simp [loadCells, loadCellsFrom])]
      rfl

/-- The cells of a block that was just laid. -/
theorem lit_cells (w : World) (cs : Array Value) (t : TypeId) : ∀ (j : Nat) (u : Value), cs.toList[j]? = some u → (w.alloc (.cells cs t)).cell? ((⟨w.heap.size, 0, none⟩ : Addr).add j) = some u := by
  intro j u hu
  rw [add_at, Nat.zero_add, World.cell?_alloc_at _ _ _ _ rfl]
  simpa using hu
/-- make([]T, n, m): n zero elements are owned, with room for m. -/
theorem wpList_make_room {P : Program} (w : World) {ops : Array Oper} {rest : List Oper} {o : Oper} {a : Act} {Q : Exit → Act → World → Prop}
    (hg : o.guard = none) (l c : Operand) (t : TypeId) (hop : o.op = Op.makeSlice t l c)
    (base : Nat) (e : TypeId) (i : TypeInfo) (z : Value) (size : Nat) (h1 : P.underlying t = some (.slice e)) (h2 : P.info? e = some i) (h3 : i.zero = some z) (h4 : i.size = size)
    (kl kc : IntKind) (L C : Int) (n m : Nat) (hl : a.eval l = .int kl L) (hc : a.eval c = .int kc C) (hL : L = (n : Int)) (hC : C = (m : Int)) (hnm : n ≤ m) (b2 : i.bytes * m ≤ 281474976710656) (b3 : m ≤ maxLen) (b4 : base ≤ w.heap.size)
    (hK : ∀ w', w'.ownsRow base e size (.slice (some ⟨w.heap.size, 0, none⟩) n m) n ((madeCells z.cells (m * size)).toList.take (n * size)) → RowKit.Below w.heap.size w w' → wpList P ops Q rest (a.put o.dst (.slice (some ⟨w.heap.size, 0, none⟩) n m)) w') :
    wpList P ops Q (o :: rest) a w := by
  refine wpList_plain hg fun K hK' => ?_
  subst h4 hL hC
  have h63' : (m : Int) ≤ 9223372036854775807 := by
    have h := b3
    simp [maxLen] at h
    omega
  have hb' : (i.bytes : Int) * (m : Int) ≤ 281474976710656 := by
    have h : ((i.bytes * m : Nat) : Int) ≤ 281474976710656 := by omega
    rwa [Int.natCast_mul] at h
  have hrun := run_make (P := P) w t e i z h1 h2 h3 kl kc n m (by omega) (by omega) hb' h63'
  simp only [Int.toNat_natCast] at hrun
  unfold Oper.wp
  simp [execOp, hop, hl, hc, hrun, Result.andThen]
  refine hK' _ _ (hK _ ⟨?_, .inr ⟨w.heap.size, m, madeCells z.cells (m * i.size), rfl, b4, heap_alloc_new w _, hnm, b3, size_madeCells _ _, rfl⟩⟩ (box1 _ _))
  have : n * i.size ≤ m * i.size := Nat.mul_le_mul_right _ hnm
  rw [List.length_take, Array.length_toList, size_madeCells]; exact Nat.min_eq_left this

/-- A scope with a goto back: the walk from the label on is made once. -/
theorem wp_scope_back {P : Program} {a : Act} {w : World} {Q : Exit → Act → World → Prop} {c rest : Code} (l : Nat) (J : Act → World → Prop) (μ : Act → World → Nat) (hf : findLabel c l = some (.seq .skip rest))
    (pass : ∀ a w, J a w → rest.wp P (Exit.jump l (fun a' w' => J a' w' ∧ μ a' w' < μ a w) Q) a w)
    (first : (∀ a w, J a w → rest.wp P (Exit.jump l J Q) a w) → c.wp P (Exit.jump l J Q) a w) : (Code.scope c).wp P Q a w :=
  wp_scope_jumps l J μ hf (first fun a w hJ => wp_mono (pass a w hJ) fun e a' w' h => by
    cases e with
    | goto l' => exact ⟨h.1, h.2.1⟩
    | _ => exact h) (fun a w hJ => wp_seq (wp_skip (pass a w hJ)))
end Go.Proofs.Ythcnjljjncgdfaa

