import Derived.Test.YthbgnkkepfbmjaaGreatJl
import Derived.Laws.IdiomStrings
import Derived.Laws.BitsAllLaws
namespace Go.Proofs.YthbgnkkepfbmjaaGreat
open Go Go.RowKit

theorem u32_elem {w : World} {B : Nat} {a : Option Addr} {N : List Nat} (h : Rd w B a (u32V N)) {i : Nat} (hi : i < N.length) : ∃ b off, a = some ⟨b, off, none⟩ ∧ b < B ∧ w.cell? ⟨b, off + i, none⟩ = some (.int .u32 (N[i] : Int)) := by
  obtain ⟨b, off, ha, hb, hc⟩ := h (by rw [u32V_length]; omega)
  exact ⟨b, off, ha, hb, hc i _ (by simp [u32V, hi])⟩
theorem take_eq_succ {N M : List Nat} {k : Nat} (h : N.take k = M.take k) (h1 : k < N.length) (h2 : k < M.length) (e : N[k] = M[k]) : N.take (k + 1) = M.take (k + 1) := by
  rw [List.take_succ_eq_append_getElem h1, List.take_succ_eq_append_getElem h2, h, e]
set_option maxRecDepth 20000 in
set_option maxHeartbeats 2000000 in
theorem sames_any (a b : Option Addr) (c d : Nat) (N M : List Nat) (w : World) (ha : Rd w w.heap.size a (u32V N)) (hb : Rd w w.heap.size b (u32V M)) (hl : N.length ≤ 1000000000) (hm : M.length ≤ 1000000000) :
    Calls Tryz.prog 38 #[.slice a N.length c, .slice b M.length d] w fun e w' => e = .returned (.bool (decide (N = M))) ∧ Below w.heap.size w w' := by
  have HA := Lib.hid ha; have HB := Lib.hid hb; clear ha hb
  by_cases hlen : N.length = M.length
  case neg =>
    have HE : Hid (decide (N = M) = false) := decide_eq_false fun e => hlen (by rw [e])
    have hq : ((N.length : Int) != (M.length : Int)) = true := by simp; omega
    go_enter Tryz.func38, Tryz.ntmps38
    go_wp2_with fail
    go_ret
    exact ⟨ret_bool HE.out.symm, Below.refl _ _⟩
  have hq : ((N.length : Int) != (M.length : Int)) = false := by simp [hlen]
  have HL := Lib.hid hlen
  clear hlen
  go_enter Tryz.func38, Tryz.ntmps38
  go_wp2_with fail
  go_loopw [5] (fun i wr => ∃ k : Nat, k ≤ N.length ∧ i = .int .i64 k ∧ N.take k = M.take k ∧ RowKit.Below w.heap.size w wr) (fun i _ => N.length - (intOf i).toNat)
  case atStart => exact ⟨0, Nat.zero_le _, rfl, rfl, Below.refl _ _⟩
  case round =>
    obtain ⟨k, hk, rfl, he, hbw⟩ := hrel
    have HE := Lib.hid he; have HW := Lib.hid hbw; clear he hbw
    by_cases hlt : k < N.length
    · have hlt2 : k < M.length := by rw [← HL.out]; exact hlt
      obtain ⟨b1, o1, ha1, _, e1⟩ := u32_elem (HA.out.below HW.out) hlt
      obtain ⟨b2, o2, ha2, _, e2⟩ := u32_elem (HB.out.below HW.out) hlt2
      subst ha1 ha2
      have i1 : (0 : Int) ≤ (k : Int) := by omega
      have i2 : (k : Int) < (N.length : Int) := by omega
      have i3 : (k : Int) < (M.length : Int) := by omega
      by_cases hx : N[k] = M[k]
      · have HT := Lib.hid (take_eq_succ HE.out hlt hlt2 hx)
        rw [hx] at e1
        have hy : ((M[k] : Int) != (M[k] : Int)) = false := by simp
        clear hx
        generalize M[k] = y at *
        go_wp2_with fail
        go_region_held3 (fun w' => w'.cell? ⟨b1, o1 + k, none⟩ = some (.int .u32 (y : Int)) ∧ w'.cell? ⟨b2, o2 + k, none⟩ = some (.int .u32 (y : Int))) (go_keep) (fail)
        all_goals
          go_wp2_with fail
          go_roundw
          case rel => exact ⟨k + 1, by omega, by go_num, HT.out, Below_drew HW.out⟩
          case measure => simp [intOf]; omega
      · have HN : Hid (decide (N = M) = false) := decide_eq_false fun e => hx (by subst e; rfl)
        have hy : ((N[k] : Int) != (M[k] : Int)) = true := by simp; omega
        clear hx
        generalize M[k] = y at *
        generalize N[k] = x at *
        go_wp2_with fail
        go_region_held3 (fun w' => w'.cell? ⟨b1, o1 + k, none⟩ = some (.int .u32 (x : Int)) ∧ w'.cell? ⟨b2, o2 + k, none⟩ = some (.int .u32 (y : Int))) (go_keep) (fail)
        all_goals
          go_wp2_with fail
          go_ret
          exact ⟨ret_bool HN.out.symm, Below_drew HW.out⟩
    · have : k = N.length := by omega
      subst this
      have HN : Hid (decide (N = M) = true) := decide_eq_true (by have h := HE.out; rwa [List.take_length, HL.out, List.take_length] at h)
      go_wp2_with fail
      go_ret
      exact ⟨ret_bool HN.out.symm, HW.out⟩
end Go.Proofs.YthbgnkkepfbmjaaGreat

namespace Go.Proofs.YthbgnkkepfbmjaaGreat
open Go Go.RowKit Go.Sort

theorem common_step {a b : List UInt8} {k : Nat} (h1 : k < a.length) (h2 : k < b.length) (e : a[k] = b[k]) : commonF (a.drop k) (b.drop k) = commonF (a.drop (k + 1)) (b.drop (k + 1)) + 1 := by
  rw [List.drop_eq_getElem_cons h1, List.drop_eq_getElem_cons h2, commonF, if_pos e]
theorem common_diff {a b : List UInt8} {k : Nat} (h1 : k < a.length) (h2 : k < b.length) (e : ¬ a[k] = b[k]) : commonF (a.drop k) (b.drop k) = 0 := by
  rw [List.drop_eq_getElem_cons h1, List.drop_eq_getElem_cons h2, commonF, if_neg e]
theorem common_end {a b : List UInt8} {k : Nat} (h : a.length ≤ k ∨ b.length ≤ k) : commonF (a.drop k) (b.drop k) = 0 := by
  rcases h with h | h
  · rw [List.drop_of_length_le h]; rfl
  · rw [List.drop_of_length_le h]; cases a.drop k <;> rfl
theorem common_le : ∀ (a b : List UInt8), commonF a b ≤ a.length ∧ commonF a b ≤ b.length
  | [], _ => by simp [commonF]
  | _ :: _, [] => by simp [commonF]
  | x :: xs, y :: ys => by
    obtain ⟨h1, h2⟩ := common_le xs ys
    unfold commonF
    split
    · simp; omega
    · simp
end Go.Proofs.YthbgnkkepfbmjaaGreat

namespace Go.Proofs.YthbgnkkepfbmjaaGreat
open Go Go.RowKit

theorem xorL_length : ∀ (xs ys : List UInt8), (xorL xs ys).length = xs.length
  | [], _ => by simp [xorL]
  | _ :: _, [] => by simp [xorL]
  | x :: xs, y :: ys => by simp [xorL, xorL_length xs ys]
theorem xorL_nil (xs : List UInt8) : xorL xs [] = xs := by cases xs <;> rfl
theorem xorL_get : ∀ (xs ys : List UInt8) (k : Nat) (h : k < xs.length), (xorL xs (ys.take k))[k]'(by rw [xorL_length]; exact h) = xs[k]
  | x :: xs, ys, 0, _ => by simp [xorL]
  | x :: xs, [], k + 1, h => by simp [xorL]
  | x :: xs, y :: ys, k + 1, h => by
    simp only [List.take_succ_cons, xorL, List.getElem_cons_succ]
    exact xorL_get xs ys k (by simpa using h)
theorem xorL_next : ∀ (xs ys : List UInt8) (k : Nat) (h : k < xs.length) (h2 : k < ys.length), xorL xs (ys.take (k + 1)) = (xorL xs (ys.take k)).set k (xs[k] ^^^ ys[k])
  | x :: xs, y :: ys, 0, _, _ => by simp [xorL, xorL_nil]
  | x :: xs, y :: ys, k + 1, h, h2 => by
    simp only [List.take_succ_cons, xorL, List.getElem_cons_succ, List.set_cons_succ]
    rw [xorL_next xs ys k (by simpa using h) (by simpa using h2)]
theorem xorL_more : ∀ (xs ys : List UInt8) (k : Nat), xs.length ≤ k → xorL xs (ys.take k) = xorL xs ys
  | [], _, _, _ => by simp [xorL]
  | _ :: _, [], _, _ => by simp
  | x :: xs, y :: ys, 0, h => by simp at h
  | x :: xs, y :: ys, k + 1, h => by
    simp only [List.take_succ_cons, xorL]
    rw [xorL_more xs ys k (by simpa using h)]
/-- Bytes as they stand behind so many of them were made one with others. -/
def garbTo (l : List UInt8) (F : Nat) (g : List UInt8) (k : Nat) : List UInt8 := l.take F ++ xorL (l.drop F) (g.take k)
theorem garbTo_length {l : List UInt8} {F : Nat} (h : F ≤ l.length) (g : List UInt8) (k : Nat) : (garbTo l F g k).length = l.length := by
  unfold garbTo; rw [List.length_append, xorL_length, List.length_take, List.length_drop]; omega
theorem garbTo_get {l : List UInt8} {F : Nat} (g : List UInt8) {k : Nat} (h : F + k < l.length) : (garbTo l F g k)[F + k]? = some l[F + k] := by
  unfold garbTo
  have hk : k < (l.drop F).length := by rw [List.length_drop]; omega
  rw [List.getElem?_append_right (by rw [List.length_take]; omega), List.length_take, show F + k - min F l.length = k by omega, List.getElem?_eq_getElem (by rw [xorL_length]; exact hk), xorL_get _ _ _ hk]
  simp
theorem garbTo_next {l : List UInt8} {F : Nat} {g : List UInt8} {k : Nat} (h : F + k < l.length) (h2 : k < g.length) : garbTo l F g (k + 1) = (garbTo l F g k).set (F + k) (l[F + k] ^^^ g[k]) := by
  unfold garbTo
  have hk : k < (l.drop F).length := by rw [List.length_drop]; omega
  rw [xorL_next _ _ _ hk h2, List.set_append_right _ _ (by rw [List.length_take]; omega), List.length_take, show F + k - min F l.length = k by omega]
  simp
theorem garbTo_end {l : List UInt8} {F : Nat} {g : List UInt8} {k : Nat} (h : l.length ≤ F + k ∨ g.length ≤ k) : garbTo l F g k = l.take F ++ xorL (l.drop F) g := by
  unfold garbTo
  rcases h with h | h
  · rw [xorL_more _ _ _ (by rw [List.length_drop]; omega)]
  · rw [List.take_of_length_le h]
theorem partF_is {s : List UInt8} {base : Nat} {count : Int} {g : List UInt8} {q F : Nat} (hq : base + min (max count 0).toNat (s.length - base) = q) (hF : max ((s.take q).length - 16) base = F) : partF s base count g = (s.take q).take F ++ xorL ((s.take q).drop F) g := by
  subst hq hF; rfl
theorem range_set {w : World} {b : Nat} {l : List UInt8} (h : w.rangeAt b 0 (bV l)) (j : Nat) (hj : j < l.length) (z : UInt8) : (w.setCell ⟨b, j, none⟩ (.int .u8 (z.toNat : Int))).rangeAt b 0 (bV (l.set j z)) := fun i v hv => by
  have hi : i < l.length := by
    have := (List.getElem?_eq_some_iff.1 hv).1; rw [bV_length, List.length_set] at this; exact this
  rw [Nat.zero_add]
  by_cases he : i = j
  · subst he
    have h0 := h i _ (bV_get l i hi)
    rw [Nat.zero_add] at h0
    rw [World.cell?_setCell_same _ _ _ h0]
    rw [bV_get _ i (by rw [List.length_set]; exact hi), List.getElem_set_self] at hv
    exact hv
  · rw [World.cell?_setCell_other _ _ _ _ (fun e => he (by injection e with _ e; exact e.symm))]
    have h0 := h i _ (bV_get l i hi)
    rw [Nat.zero_add] at h0
    rw [bV_get _ i (by rw [List.length_set]; exact hi), List.getElem_set_ne (by omega)] at hv
    rw [h0]; exact hv
theorem Rd_range {w : World} {b : Nat} {cs : List Value} (h : w.rangeAt b 0 cs) (hb : b < w.heap.size) : Rd w w.heap.size (some ⟨b, 0, none⟩) cs := fun _ => ⟨b, 0, rfl, hb, fun j u hu => h j u hu⟩
theorem alloc_bytes (w : World) (S : ByteArray) (cap : Nat) (fr : Nat × Nat) (hf : S.size ≤ fr.1) : (w.alloc (.cells (bytesRow S cap) 5 fr)).rangeAt w.heap.size 0 (bV S.data.toList) ∧ (w.alloc (.cells (bytesRow S cap) 5 fr)).there w.heap.size 0 S.size := by
  have hc : ∀ j, j < S.size → ∃ u, (w.alloc (.cells (bytesRow S cap) 5 fr)).cell? ⟨w.heap.size, 0 + j, none⟩ = some u ∧ (bV S.data.toList)[j]? = some u := fun j hj => by
    refine ⟨.int .u8 (S.data[j].toNat : Int), ?_, ?_⟩
    · rw [World.cell?_alloc_mark, Nat.zero_add]; exact bytesRow_at S cap j hj
    · rw [bV_get _ j (by simpa using hj)]; simp
  refine ⟨fun j v hv => ?_, fun j hj => ?_⟩
  · have hj : j < S.size := by have := (List.getElem?_eq_some_iff.1 hv).1; rw [bV_length] at this; simpa using this
    obtain ⟨u, h1, h2⟩ := hc j hj
    rw [h2] at hv; rw [h1]; exact hv
  · obtain ⟨u, h1, _⟩ := hc j hj
    refine ⟨by rw [h1]; rfl, ?_⟩
    obtain ⟨lo, hi⟩ := fr
    rw [World.frozen?_alloc_mark]
    simp only at hf
    have : decide (lo ≤ 0 + j) = false := by simp; omega
    rw [this]; rfl
end Go.Proofs.YthbgnkkepfbmjaaGreat

namespace Go.Proofs.YthbgnkkepfbmjaaGreat
open Go Go.RowKit

def Ft.v (t : Ft) : Value := .agg #[.bool t.keep, .int .i64 t.bytes, .slice t.ga t.g.length t.gc]
def Ft.l (t : Ft) : List Value := [.bool t.keep, .int .i64 t.bytes, .slice t.ga t.g.length t.gc]
theorem there5 {w : World} {b : Nat} (h : w.there b 0 5) : ∃ u0 u1 u2 u3 u4, w.cell? ⟨b, 0, none⟩ = some u0 ∧ w.cell? ⟨b, 1, none⟩ = some u1 ∧ w.cell? ⟨b, 2, none⟩ = some u2 ∧ w.cell? ⟨b, 3, none⟩ = some u3 ∧ w.cell? ⟨b, 4, none⟩ = some u4 ∧
    w.frozen? ⟨b, 0, none⟩ = false ∧ w.frozen? ⟨b, 1, none⟩ = false ∧ w.frozen? ⟨b, 2, none⟩ = false ∧ w.frozen? ⟨b, 3, none⟩ = false ∧ w.frozen? ⟨b, 4, none⟩ = false := by
  obtain ⟨a0, b0⟩ := h 0 (by omega)
  obtain ⟨a1, b1⟩ := h 1 (by omega)
  obtain ⟨a2, b2⟩ := h 2 (by omega)
  obtain ⟨a3, b3⟩ := h 3 (by omega)
  obtain ⟨a4, b4⟩ := h 4 (by omega)
  obtain ⟨u0, e0⟩ := Option.isSome_iff_exists.1 a0
  obtain ⟨u1, e1⟩ := Option.isSome_iff_exists.1 a1
  obtain ⟨u2, e2⟩ := Option.isSome_iff_exists.1 a2
  obtain ⟨u3, e3⟩ := Option.isSome_iff_exists.1 a3
  obtain ⟨u4, e4⟩ := Option.isSome_iff_exists.1 a4
  simp only [Nat.zero_add] at *
  exact ⟨u0, u1, u2, u3, u4, e0, e1, e2, e3, e4, b0, b1, b2, b3, b4⟩
theorem frozen5 {w : World} {b : Nat} (h : w.there b 0 5) : w.frozen? ⟨b, 0, none⟩ = false ∧ w.frozen? ⟨b, 1, none⟩ = false ∧ w.frozen? ⟨b, 2, none⟩ = false ∧ w.frozen? ⟨b, 3, none⟩ = false ∧ w.frozen? ⟨b, 4, none⟩ = false := by
  obtain ⟨_, _, _, _, _, _, _, _, _, _, b0, b1, b2, b3, b4⟩ := there5 h
  exact ⟨b0, b1, b2, b3, b4⟩
theorem load_fl3 (W : World) (x : Fl) (n : Nat) (o : Obj) (hn : n = W.heap.size) : (loadVar 86 ⟨n, 0, none⟩).run Tryz.prog ((W.alloc (.cells x.c 86)).alloc o) = .ok x.v ((W.alloc (.cells x.c 86)).alloc o) :=
  run_loadVar_mid (P := Tryz.prog) _ n 0 86 _ _ (World.rangeAt_alloc (rangeAt_last W x.c 86 n hn) o) Tryz.underlying86 rfl size_fl
theorem load_flS (W : World) (b : Nat) (cs : Array Value) (ht : W.there b 0 cs.size) (hc : cs.size = 5 := by rfl) : (loadVar 86 ⟨b, 0, none⟩).run Tryz.prog (W.setCells b 0 cs.toList) = .ok (.agg cs) (W.setCells b 0 cs.toList) :=
  run_loadVar_mid (P := Tryz.prog) _ b 0 86 _ _ (World.rangeAt_setCells_same W b 0 cs.toList ht) Tryz.underlying86 rfl (by rw [size_fl]; simp [hc])
theorem FlAt.set_ne {w : World} {b o b' o' : Nat} {v : Value} {x : Fl} (h : FlAt w b o x) (hb : b' ≠ b) : FlAt (w.setCell ⟨b', o', none⟩ v) b o x := by
  obtain ⟨h0, h1, h2, h3, h4⟩ := h
  refine ⟨?_, ?_, ?_, ?_, ?_⟩ <;> (rw [World.cell?_setCell_other _ _ _ _ (fun e => hb (by injection e))]; assumption)
theorem left_part (xn : Nat) (kp : Bool) (tb : Int) (ga : Option Addr) (gc : Nat) (g : List UInt8) (xw xs : ByteArray) (K : Nat) (hK : K = commonF xw.data.toList xs.data.toList) (hc : ¬ (K < xs.size ∧ kp = false)) : leftF ⟨xn, true, true, xw, xs⟩ ⟨kp, tb, ga, gc, g⟩ = ⟨xn, true, true, bs (partF xw.data.toList K tb g), bs (partF xw.data.toList K tb g)⟩ := by
  subst hK; simp only [leftF]; simp [hc]
end Go.Proofs.YthbgnkkepfbmjaaGreat

namespace Go.Proofs.YthbgnkkepfbmjaaGreat
open Go Go.RowKit Go.Sort

/-! How great files may be. -/
def SzF (M : Nat) (x : Fl) : Prop := x.now.size ≤ M ∧ x.safe.size ≤ M
theorem mem_stepF {x : Fl} {s : List Fl × Bool} {y z : Fl} (h : z ∈ (stepF x s y).1) : z = x ∨ z = y ∨ z ∈ s.1 := by
  obtain ⟨l, b⟩ := s
  unfold stepF at h
  simp only at h ⊢
  by_cases h1 : x.n < y.n ∧ b = false
  · rw [if_pos h1] at h
    split at h
    · simp at h; rcases h with h | h <;> simp [h]
    · simp at h; rcases h with h | h | h <;> simp [h]
  · rw [if_neg h1] at h
    split at h
    · exact .inr (.inr h)
    · simp at h; rcases h with h | h <;> simp [h]
theorem mem_foldF {x z : Fl} : ∀ (L : List Fl) (s : List Fl × Bool), z ∈ (L.foldl (stepF x) s).1 → z = x ∨ z ∈ L ∨ z ∈ s.1
  | [], _, h => .inr (.inr h)
  | y :: r, s, h => by
    rw [List.foldl_cons] at h
    rcases mem_foldF r _ h with h | h | h
    · exact .inl h
    · exact .inr (.inl (by simp [h]))
    · rcases mem_stepF h with h | h | h
      · exact .inl h
      · exact .inr (.inl (by simp [h]))
      · exact .inr (.inr h)
theorem mem_putF' {L : List Fl} {x z : Fl} (h : z ∈ putF L x) : z = x ∨ z ∈ L := by
  have h := (List.mem_filter.1 h).1
  unfold insF walkF at h
  split at h
  · rcases mem_foldF L _ h with h | h | h
    · exact .inl h
    · exact .inr h
    · simp at h
  · rcases List.mem_append.1 h with h | h
    · rcases mem_foldF L _ h with h | h | h
      · exact .inl h
      · exact .inr h
      · simp at h
    · exact .inl (by simpa using h)
theorem put_sz {M : Nat} {L : List Fl} {x : Fl} (h : ∀ y ∈ L, SzF M y) (hx : SzF M x) : ∀ y ∈ putF L x, SzF M y := fun y hy => by
  rcases mem_putF' hy with rfl | hy
  · exact hx
  · exact h y hy
theorem get_sz {M : Nat} {L : List Fl} (h : ∀ y ∈ L, SzF M y) (n : Nat) : SzF M (getF L n) := by
  rcases getF_or L n with hm | ⟨e, _⟩
  · exact h _ hm
  · rw [e]; exact ⟨Nat.zero_le _, Nat.zero_le _⟩
theorem partF_length (s : List UInt8) (b : Nat) (c : Int) (g : List UInt8) : (partF s b c g).length ≤ s.length := by
  unfold partF
  simp only []
  rw [List.length_append, xorL_length, List.length_take, List.length_drop, List.length_take]; omega
theorem left_sz {M : Nat} {x : Fl} (h : SzF M x) (t : Ft) : SzF M (leftF x t) := by
  obtain ⟨h1, h2⟩ := h
  have hp : ∀ b, (bs (partF x.now.data.toList b t.bytes t.g)).size ≤ M := fun b => by
    rw [bs_size]
    have := partF_length x.now.data.toList b t.bytes t.g
    rw [data_length] at this; omega
  have key : (leftF x t).now.size ≤ M ∧ (leftF x t).safe = (leftF x t).now := by
    refine ⟨?_, rfl⟩
    have hi : ∀ r : Bool × ByteArray, r.2.size ≤ M → (if r.1 = true then r.2 else ByteArray.empty).size ≤ M := fun r h => by
      split
      · exact h
      · exact Nat.zero_le _
    unfold leftF
    refine hi _ ?_
    split
    · exact hp 0
    · split
      · exact h2
      · split
        · exact h2
        · exact hp _
  exact ⟨key.1, by rw [key.2]; exact key.1⟩
theorem crashTo_le (L : List Fl) (T : List Ft) (N : List Nat) : ∀ k, (crashTo L T N k).length ≤ L.length + k
  | 0 => Nat.le_refl _
  | k + 1 => Nat.le_trans (putF_le _ _) (by have := crashTo_le L T N k; omega)
theorem crashTo_sz {M : Nat} {L : List Fl} (T : List Ft) (N : List Nat) (h : ∀ y ∈ L, SzF M y) : ∀ k, ∀ y ∈ crashTo L T N k, SzF M y
  | 0 => h
  | k + 1 => put_sz (crashTo_sz T N h k) (left_sz (get_sz (crashTo_sz T N h k) _) _)
end Go.Proofs.YthbgnkkepfbmjaaGreat

namespace Go.Proofs.YthbgnkkepfbmjaaGreat
open Go Go.RowKit Go.Sort

def FsVal (w : World) (a : Option Addr) (L : List Fl) (m : FSm) (e : Ending) (w' : World) : Prop :=
  ∃ a' c', e = .returned (fsv a' m.files.length c' m.fuse m.down) ∧ m.files.length ≤ c' ∧ c' ≤ maxLen ∧ Rd w' w'.heap.size a' (flF m.files) ∧ From w a L a' m.files ∧ Below w.heap.size w w'
/-- Crash's loop: what lies where. -/
structure Q3 (w wr : World) (a : Option Addr) (L : List Fl) (fu : Int) (dn : Bool) (T : List Ft) (N : List Nat) (an : Option Addr) (k : Nat) (ai : Option Addr) (ci : Nat) : Prop where
  hk : k ≤ N.length
  c0 : wr.cell? ⟨w.heap.size, 0, none⟩ = some (.slice ai (crashTo L T N k).length ci)
  c1 : wr.cell? ⟨w.heap.size, 1, none⟩ = some (.int .i64 fu)
  c2 : wr.cell? ⟨w.heap.size, 2, none⟩ = some (.bool dn)
  ft : wr.there w.heap.size 0 3
  rs : wr.there (w.heap.size + 1) 0 3
  rd : Rd wr wr.heap.size ai (flF (crashTo L T N k))
  fr : (ai = a ∧ crashTo L T N k = L) ∨ ∀ b o s, ai = some ⟨b, o, s⟩ → w.heap.size + 2 ≤ b
  lc : (crashTo L T N k).length ≤ ci
  cm : ci ≤ maxLen
  nm : Rd wr wr.heap.size an (u32V N)
  fn : ∀ b o s, an = some ⟨b, o, s⟩ → w.heap.size + 2 ≤ b
  bw : RowKit.Below w.heap.size w wr
  sz : w.heap.size + 2 ≤ wr.heap.size
theorem Q3.move {w wr w' : World} {a an ai : Option Addr} {L : List Fl} {fu : Int} {dn : Bool} {T : List Ft} {N : List Nat} {k ci : Nat} (h : Q3 w wr a L fu dn T N an k ai ci) (hb : RowKit.Below wr.heap.size wr w') : Q3 w w' a L fu dn T N an k ai ci := by
  have hs := h.sz
  exact { h with
    c0 := by rw [hb.cell (p := ⟨w.heap.size, 0, none⟩) (by show w.heap.size < _; omega)]; exact h.c0
    c1 := by rw [hb.cell (p := ⟨w.heap.size, 1, none⟩) (by show w.heap.size < _; omega)]; exact h.c1
    c2 := by rw [hb.cell (p := ⟨w.heap.size, 2, none⟩) (by show w.heap.size < _; omega)]; exact h.c2
    ft := there_below h.ft hb (by omega)
    rs := there_below h.rs hb (by omega)
    rd := (h.rd.below hb).more hb.size
    nm := (h.nm.below hb).more hb.size
    bw := h.bw.trans (hb.mono h.bw.size)
    sz := Nat.le_trans hs hb.size }
theorem Q3.next {w wr : World} {a an ai a5 : Option Addr} {L : List Fl} {fu : Int} {dn : Bool} {T : List Ft} {N : List Nat} {k ci c5 : Nat} (h : Q3 w wr a L fu dn T N an k ai ci) (hk : k < N.length)
    (hl : (crashTo L T N (k + 1)).length ≤ c5) (hc : c5 ≤ maxLen) (hr : Rd wr wr.heap.size a5 (flF (crashTo L T N (k + 1)))) (hf : ∀ b o s, a5 = some ⟨b, o, s⟩ → w.heap.size + 2 ≤ b) :
    Q3 w (wr.setCells w.heap.size 0 [.slice a5 (crashTo L T N (k + 1)).length c5, .int .i64 fu, .bool dn]) a L fu dn T N an (k + 1) a5 c5 := by
  obtain ⟨s0, s1, s2⟩ := set3 (u0 := .slice a5 (crashTo L T N (k + 1)).length c5) (u1 := .int .i64 fu) (u2 := .bool dn) h.ft
  refine { hk := hk, c0 := s0, c1 := s1, c2 := s2, ft := World.there_setCells h.ft _ _ _, rs := World.there_setCells h.rs _ _ _, rd := ?_, fr := .inr hf, lc := hl, cm := hc, nm := ?_, fn := h.fn, bw := Below_setCells (Nat.le_refl _) _ 0 _ h.bw, sz := by rw [size_setCells']; exact h.sz }
  · exact (Rd_sets hr _ 0 (fun g o s e => by have := hf g o s e; omega)).more (by rw [size_setCells']; exact Nat.le_refl _)
  · exact (Rd_sets h.nm _ 0 (fun g o s e => by have := h.fn g o s e; omega)).more (by rw [size_setCells']; exact Nat.le_refl _)
theorem getf_is (a : Option Addr) (c : Nat) (L : List Fl) (fu : Int) (dn : Bool) (n : Nat) (x : Fl) (hx : x = getF L n) (w : World) (hr : Rd w w.heap.size a (flF L)) (hl : L.length ≤ 1000000000000) :
    Calls Tryz.prog 33 #[.agg #[.slice a L.length c, .int .i64 fu, .bool dn], .int .u32 (n : Int)] w fun e w' => e = .returned x.v ∧ Below w.heap.size w w' := by
  subst hx; exact refGetF_any a c L fu dn n w hr hl
theorem Ft_len (t : Ft) : t.l.length = 3 := rfl
theorem fate_elem {w : World} {B : Nat} {a : Option Addr} {T : List Ft} (h : Rd w B a (flatG Ft.l T)) {i : Nat} (hi : i < T.length) : ∃ b off, a = some ⟨b, off, none⟩ ∧ b < B ∧ w.cell? ⟨b, off + i * 3, none⟩ = some (.bool T[i].keep) ∧ w.cell? ⟨b, off + i * 3 + 1, none⟩ = some (.int .i64 T[i].bytes) ∧ w.cell? ⟨b, off + i * 3 + 2, none⟩ = some (.slice T[i].ga T[i].g.length T[i].gc) := by
  obtain ⟨b, off, ha, hb, hc⟩ := Rd.elemG Ft_len (by omega) h hi
  exact ⟨b, off, ha, hb, hc 0 _ rfl, hc 1 _ rfl, hc 2 _ rfl⟩
theorem crashTo_next (L : List Fl) (T : List Ft) (N : List Nat) {k : Nat} (hk : k < N.length) (t : Ft) (ht : T.getD k zeroT = t) : crashTo L T N (k + 1) = putF (crashTo L T N k) (leftF (getF (crashTo L T N k) N[k]) t) := by
  rw [crashTo, ht]; simp [List.getD, hk]
end Go.Proofs.YthbgnkkepfbmjaaGreat

namespace Go.Proofs.YthbgnkkepfbmjaaGreat
open Go Go.RowKit Go.Sort

/-! What the plain file system keeps; what a crash leaves. -/
def OkX (x : Fl) : Prop := (x.there = false → x.now = ByteArray.empty) ∧ (x.kept = false → x.safe = ByteArray.empty)
theorem get_okx {L : List Fl} (h : ∀ y ∈ L, OkF y) (n : Nat) : OkX (getF L n) := by
  rcases getF_or L n with hm | ⟨e, _⟩
  · exact (h _ hm).2
  · rw [e]; exact ⟨fun _ => rfl, fun _ => rfl⟩
theorem put_okf {L : List Fl} (hs : SdF L) (h : ∀ y ∈ L, OkF y) {x : Fl} (hx : OkX x) : ∀ y ∈ putF L x, OkF y := fun y hy => by
  obtain ⟨h1, h2 | ⟨h2, _⟩⟩ := (mem_putF hs).1 hy
  · subst h2; exact ⟨h1, hx⟩
  · exact h y h2
theorem act_ok {m : FSm} (h : m.Ok) {x : Fl} (hx : OkX x) (s : Bool) : (actF m x s).1.Ok := by
  obtain ⟨h1, h2, h3, h4⟩ := h
  unfold actF
  split
  · refine ⟨?_, ?_, h3, h4⟩
    · show SdF (if s = true then m.files else putF m.files x)
      split
      · exact h1
      · exact putF_SdF h1 x
    · show ∀ y ∈ (if s = true then m.files else putF m.files x), OkF y
      split
      · exact h2
      · exact put_okf h1 h2 hx
  · refine ⟨putF_SdF h1 x, put_okf h1 h2 hx, ?_, ?_⟩
    · show -1 ≤ (if 0 < m.fuse then m.fuse - 1 else m.fuse); split <;> omega
    · show (if 0 < m.fuse then m.fuse - 1 else m.fuse) ≤ _; split <;> omega
theorem new_ok : newF.Ok := ⟨List.Pairwise.nil, ⟨fun y (hy : y ∈ []) => (by cases hy), by decide, by decide⟩⟩
theorem create_ok {m : FSm} (h : m.Ok) (n : Nat) : (createF m n).1.Ok := by
  unfold createF
  split
  · exact h
  · split
    · exact h
    · split
      · exact h
      · exact act_ok h ⟨fun _ => rfl, fun _ => rfl⟩ _
theorem append_ok {m : FSm} (h : m.Ok) (n : Nat) (b : ByteArray) : (appendF m n b).1.Ok := by
  unfold appendF
  split
  · exact h
  · split
    · exact h
    · rename_i ht
      exact act_ok h (x := appF (getF m.files n) b) ⟨fun e => absurd e ht, (get_okx h.2.1 n).2⟩ _
theorem trunc_ok {m : FSm} (h : m.Ok) (n : Nat) (s : Int) : (truncF m n s).1.Ok := by
  unfold truncF
  split
  · exact h
  · split
    · exact h
    · split
      · exact h
      · rename_i ht _
        exact act_ok h (x := cutF (getF m.files n) s.toNat) ⟨fun e => absurd e ht, (get_okx h.2.1 n).2⟩ _
theorem sync_ok {m : FSm} (h : m.Ok) (n : Nat) : (syncF m n).1.Ok := by
  unfold syncF
  split
  · exact h
  · split
    · exact h
    · refine act_ok h (x := syncedF (getF m.files n)) ⟨(get_okx h.2.1 n).1, fun e => ?_⟩ _
      have e' : (getF m.files n).there = false := e
      show (if (getF m.files n).there = true then (getF m.files n).now else ByteArray.empty) = _
      rw [if_neg (by rw [e']; decide)]
theorem remove_ok {m : FSm} (h : m.Ok) (n : Nat) : (removeF m n).1.Ok := by
  unfold removeF
  split
  · exact h
  · split
    · exact h
    · exact act_ok h (x := goneF (getF m.files n)) ⟨fun _ => rfl, (get_okx h.2.1 n).2⟩ _
theorem left_okx (x : Fl) (t : Ft) : OkX (leftF x t) := by
  have hi : ∀ r : Bool × ByteArray, OkX ⟨x.n, r.1, r.1, if r.1 = true then r.2 else ByteArray.empty, if r.1 = true then r.2 else ByteArray.empty⟩ := fun r => by
    refine ⟨fun e => ?_, fun e => ?_⟩
    all_goals
      have e' : r.1 = false := e
      show (if r.1 = true then r.2 else ByteArray.empty) = _
      rw [if_neg (by rw [e']; decide)]
  exact hi _
theorem left_n (x : Fl) (t : Ft) : (leftF x t).n = x.n := rfl
theorem left_safe (x : Fl) (t : Ft) : looseF (leftF x t) = false := by
  have h1 : (leftF x t).there = (leftF x t).kept := rfl
  have h2 : (leftF x t).now = (leftF x t).safe := rfl
  unfold looseF
  rw [h1, h2]; simp
theorem loose_no (n : Nat) : looseF (noF n) = false := rfl
theorem mem_nums {lo : Bool} {L : List Fl} {n : Nat} : n ∈ numsF lo L ↔ ∃ y ∈ L, y.n = n ∧ pickF lo y = true := by
  unfold numsF
  simp only [List.mem_map, List.mem_filter]
  exact ⟨fun ⟨y, ⟨h1, h2⟩, h3⟩ => ⟨y, h1, h3, h2⟩, fun ⟨y, h1, h3, h2⟩ => ⟨y, ⟨h1, h2⟩, h3⟩⟩
theorem pick_no (lo : Bool) (n : Nat) : pickF lo (noF n) = false := by cases lo <;> rfl
theorem mem_nums_get {lo : Bool} {L : List Fl} (h : SdF L) {n : Nat} : n ∈ numsF lo L ↔ pickF lo (getF L n) = true := by
  rw [mem_nums]
  constructor
  · rintro ⟨y, hy, rfl, hp⟩; rw [getF_mem h hy]; exact hp
  · intro hp
    rcases getF_or L n with hm | ⟨e, _⟩
    · exact ⟨_, hm, getF_n L n, hp⟩
    · rw [e, pick_no] at hp; cases hp
theorem nums_sorted {lo : Bool} {L : List Fl} (h : SdF L) : (numsF lo L).Pairwise (· < ·) := by
  unfold numsF
  rw [List.pairwise_map]
  exact List.Pairwise.filter _ h
/-- A crash, number by number. -/
theorem crashTo_all {L : List Fl} (T : List Ft) (hs : SdF L) (ho : ∀ y ∈ L, OkF y) (N : List Nat) (hN : N.Pairwise (· < ·)) : ∀ k, k ≤ N.length →
    SdF (crashTo L T N k) ∧ (∀ y ∈ crashTo L T N k, OkF y) ∧ (∀ n, n ∉ N.take k → getF (crashTo L T N k) n = getF L n) ∧
    (∀ i (hi : i < N.length), i < k → getF (crashTo L T N k) N[i] = (if hasF (leftF (getF L N[i]) (T.getD i zeroT)) = true then leftF (getF L N[i]) (T.getD i zeroT) else noF N[i]))
  | 0, _ => ⟨hs, ho, fun _ _ => rfl, fun i _ h => absurd h (by omega)⟩
  | k + 1, hk => by
    obtain ⟨h1, h2, h3, h4⟩ := crashTo_all T hs ho N hN k (by omega)
    have hkl : k < N.length := by omega
    have hd : N.getD k 0 = N[k] := by simp [List.getD, hkl]
    have hnot : N[k] ∉ N.take k := fun hm => by
      obtain ⟨j, hj, he⟩ := List.getElem_of_mem hm
      rw [List.length_take] at hj
      rw [List.getElem_take] at he
      have := List.pairwise_iff_getElem.1 hN j k (by omega) hkl (by omega)
      omega
    have hg : getF (crashTo L T N k) N[k] = getF L N[k] := h3 _ hnot
    have hn : (leftF (getF L N[k]) (T.getD k zeroT)).n = N[k] := by rw [left_n, getF_n]
    have e : crashTo L T N (k + 1) = putF (crashTo L T N k) (leftF (getF L N[k]) (T.getD k zeroT)) := by rw [crashTo, hd, hg]
    rw [e]
    refine ⟨putF_SdF h1 _, put_okf h1 h2 (left_okx _ _), fun n hm => ?_, fun i hi hik => ?_⟩
    · rw [List.take_succ_eq_append_getElem hkl, List.mem_append, not_or] at hm
      rw [getF_put h1 (fun y hy => (h2 y hy).1), if_neg (by rw [hn]; simpa using hm.2)]
      exact h3 n hm.1
    · rw [getF_put h1 (fun y hy => (h2 y hy).1), hn]
      by_cases hik' : i = k
      · subst hik'
        rw [if_pos rfl]
      · have := List.pairwise_iff_getElem.1 hN i k hi hkl (by omega)
        rw [if_neg (by omega)]
        exact h4 i hi (by omega)
theorem crash_all {m : FSm} (h : m.Ok) (T : List Ft) : (crashF m T).Ok ∧ (∀ n, looseF (getF m.files n) = false → getF (crashF m T).files n = getF m.files n) ∧ (∀ n, looseF (getF (crashF m T).files n) = false) ∧ numsF true (crashF m T).files = [] := by
  obtain ⟨hs, ho, _, _⟩ := h
  obtain ⟨h1, h2, h3, h4⟩ := crashTo_all T hs ho (numsF true m.files) (nums_sorted hs) _ (Nat.le_refl _)
  rw [List.take_length] at h3
  have hkeep : ∀ n, looseF (getF m.files n) = false → getF (crashF m T).files n = getF m.files n := fun n hn =>
    h3 n fun hm => by
      have := (mem_nums_get hs).1 hm
      rw [show pickF true (getF m.files n) = looseF (getF m.files n) from rfl, hn] at this; cases this
  have hall : ∀ n, looseF (getF (crashF m T).files n) = false := fun n => by
    by_cases hm : n ∈ numsF true m.files
    · obtain ⟨i, hi, rfl⟩ := List.getElem_of_mem hm
      show looseF (getF (crashTo _ _ _ _) _) = false
      rw [h4 i hi hi]
      split
      · exact left_safe _ _
      · exact loose_no _
    · have hn : looseF (getF m.files n) = false := by
        cases hl : looseF (getF m.files n)
        · rfl
        · exact absurd ((mem_nums_get hs).2 (show pickF true _ = true from hl)) hm
      rw [hkeep n hn]; exact hn
  refine ⟨⟨h1, h2, by show (-1 : Int) ≤ -1; decide, by show (-1 : Int) ≤ 9223372036854775807; decide⟩, hkeep, hall, ?_⟩
  refine List.eq_nil_iff_forall_not_mem.2 fun n hm => ?_
  have := (mem_nums_get (L := (crashF m T).files) h1).1 hm
  rw [show pickF true (getF (crashF m T).files n) = looseF (getF (crashF m T).files n) from rfl, hall n] at this; cases this
/-- What is there behind a crash was there, or was unsafe. -/
theorem crash_there {m : FSm} (h : m.Ok) (T : List Ft) {n : Nat} (hn : n ∈ numsF false (crashF m T).files) : n ∈ numsF false m.files ∨ n ∈ numsF true m.files := by
  obtain ⟨⟨h1, _⟩, h2, _, _⟩ := crash_all h T
  by_cases hl : looseF (getF m.files n) = true
  · exact .inr ((mem_nums_get h.1).2 hl)
  · have hl : looseF (getF m.files n) = false := by simpa using hl
    have := (mem_nums_get h1).1 hn
    rw [h2 n hl] at this
    exact .inl ((mem_nums_get h.1).2 this)
end Go.Proofs.YthbgnkkepfbmjaaGreat

namespace Go.Proofs.YthbgnkkepfbmjaaGreat
open Go Go.RowKit Go.Sort

/-! Where it falls; what is left of a file that was only appended to. -/
/-- What an act comes to: it is down; it is refused; it is done, or falls. -/
def Acted (m : FSm) (s : Bool) (r : FSm × Int) : Prop :=
  (m.down = true ∧ r = (m, 7)) ∨ (m.down = false ∧ r.1 = m ∧ r.2 ≠ 0 ∧ r.2 ≠ 7) ∨ (m.down = false ∧ ∃ x, OkX x ∧ r = actF m x s)
theorem create_acted (m : FSm) (n : Nat) : Acted m false (createF m n) := by
  unfold createF
  split
  · rename_i h; exact .inl ⟨h, rfl⟩
  · rename_i h
    have h : m.down = false := by simpa using h
    split
    · exact .inr (.inl ⟨h, rfl, by show (9 : Int) ≠ 0; decide, by show (9 : Int) ≠ 7; decide⟩)
    · split
      · exact .inr (.inl ⟨h, rfl, by show (6 : Int) ≠ 0; decide, by show (6 : Int) ≠ 7; decide⟩)
      · exact .inr (.inr ⟨h, _, ⟨fun _ => rfl, fun _ => rfl⟩, rfl⟩)
theorem append_acted {m : FSm} (ok : m.Ok) (n : Nat) (b : ByteArray) : Acted m false (appendF m n b) := by
  unfold appendF
  split
  · rename_i h; exact .inl ⟨h, rfl⟩
  · rename_i h
    have h : m.down = false := by simpa using h
    split
    · exact .inr (.inl ⟨h, rfl, by show (5 : Int) ≠ 0; decide, by show (5 : Int) ≠ 7; decide⟩)
    · rename_i ht
      exact .inr (.inr ⟨h, appF (getF m.files n) b, ⟨fun e => absurd e ht, (get_okx ok.2.1 n).2⟩, rfl⟩)
theorem trunc_acted {m : FSm} (ok : m.Ok) (n : Nat) (s : Int) : Acted m false (truncF m n s) := by
  unfold truncF
  split
  · rename_i h; exact .inl ⟨h, rfl⟩
  · rename_i h
    have h : m.down = false := by simpa using h
    split
    · exact .inr (.inl ⟨h, rfl, by show (5 : Int) ≠ 0; decide, by show (5 : Int) ≠ 7; decide⟩)
    · split
      · exact .inr (.inl ⟨h, rfl, by show (4 : Int) ≠ 0; decide, by show (4 : Int) ≠ 7; decide⟩)
      · rename_i ht _
        exact .inr (.inr ⟨h, cutF (getF m.files n) s.toNat, ⟨fun e => absurd e ht, (get_okx ok.2.1 n).2⟩, rfl⟩)
theorem synced_okx {x : Fl} (h : OkX x) : OkX (syncedF x) := by
  refine ⟨h.1, fun e => ?_⟩
  have e' : x.there = false := e
  show (if x.there = true then x.now else ByteArray.empty) = _
  rw [if_neg (by rw [e']; decide)]
theorem sync_acted {m : FSm} (ok : m.Ok) (n : Nat) : Acted m true (syncF m n) := by
  unfold syncF
  split
  · rename_i h; exact .inl ⟨h, rfl⟩
  · rename_i h
    have h : m.down = false := by simpa using h
    split
    · exact .inr (.inl ⟨h, rfl, by show (5 : Int) ≠ 0; decide, by show (5 : Int) ≠ 7; decide⟩)
    · exact .inr (.inr ⟨h, syncedF (getF m.files n), synced_okx (get_okx ok.2.1 n), rfl⟩)
theorem remove_acted {m : FSm} (ok : m.Ok) (n : Nat) : Acted m false (removeF m n) := by
  unfold removeF
  split
  · rename_i h; exact .inl ⟨h, rfl⟩
  · rename_i h
    have h : m.down = false := by simpa using h
    split
    · exact .inr (.inl ⟨h, rfl, by show (5 : Int) ≠ 0; decide, by show (5 : Int) ≠ 7; decide⟩)
    · exact .inr (.inr ⟨h, goneF (getF m.files n), ⟨fun _ => rfl, (get_okx ok.2.1 n).2⟩, rfl⟩)
/-- What an act does to the fuse. -/
theorem Acted.falls {m : FSm} {s : Bool} {r : FSm × Int} (h : Acted m s r) (hf : 0 ≤ m.fuse) :
    (m.down = true ∧ r = (m, 7)) ∨ (m.down = false ∧ r.1 = m ∧ r.2 ≠ 0 ∧ r.2 ≠ 7) ∨
    (m.down = false ∧ m.fuse = 0 ∧ r.2 = 7 ∧ r.1.down = true ∧ r.1.fuse = 0 ∧ (s = true → r.1.files = m.files)) ∨ (m.down = false ∧ 0 < m.fuse ∧ r.2 = 0 ∧ r.1.down = false ∧ r.1.fuse = m.fuse - 1) := by
  rcases h with h | h | ⟨h, x, _, rfl⟩
  · exact .inl h
  · exact .inr (.inl h)
  · by_cases h0 : m.fuse = 0
    · refine .inr (.inr (.inl ⟨h, h0, ?_⟩))
      unfold actF
      rw [if_pos h0]
      exact ⟨rfl, rfl, h0, fun hs => by show (if s = true then m.files else _) = _; rw [if_pos hs]⟩
    · refine .inr (.inr (.inr ⟨h, by omega, ?_⟩))
      unfold actF
      rw [if_neg h0]
      exact ⟨rfl, h, by show (if 0 < m.fuse then _ else _) = _; rw [if_pos (by omega)]⟩
/-! One file alone. -/
theorem getF_single {x : Fl} {n : Nat} (h : x.n = n) : getF [x] n = x := by
  have := getF_mem (L := [x]) (List.pairwise_singleton _ _) (List.mem_singleton.2 rfl)
  rw [h] at this; exact this
theorem putF_single {x y : Fl} (h : x.n = y.n) (hy : hasF y = true) : putF [x] y = [y] := by
  unfold putF
  rw [insF_sorted (List.pairwise_singleton _ _)]
  simp [h, hy]
theorem putF_none {y : Fl} (hy : hasF y = true) : putF [] y = [y] := by
  unfold putF
  rw [insF_sorted List.Pairwise.nil]
  simp [hy]
/-- Behind Create, Append and Sync: one file, safe as it is. -/
theorem three (b : ByteArray) : createF newF 3 = (⟨[⟨3, true, false, ByteArray.empty, ByteArray.empty⟩], -1, false⟩, 0) ∧
    appendF ⟨[⟨3, true, false, ByteArray.empty, ByteArray.empty⟩], -1, false⟩ 3 b = (⟨[⟨3, true, false, b, ByteArray.empty⟩], -1, false⟩, 0) ∧
    syncF ⟨[⟨3, true, false, b, ByteArray.empty⟩], -1, false⟩ 3 = (⟨[⟨3, true, true, b, b⟩], -1, false⟩, 0) := by
  refine ⟨?_, ?_, ?_⟩
  · have e : getF newF.files 3 = noF 3 := rfl
    unfold createF
    rw [if_neg (by decide), e, if_neg (by decide), if_neg (by decide)]
    unfold actF
    rw [if_neg (by decide)]
    show ((⟨putF [] _, _, _⟩ : FSm), _) = _
    rw [putF_none rfl]; rfl
  · have e : getF [⟨3, true, false, ByteArray.empty, ByteArray.empty⟩] 3 = ⟨3, true, false, ByteArray.empty, ByteArray.empty⟩ := getF_single rfl
    unfold appendF
    rw [if_neg (by decide)]
    simp only
    rw [e, if_neg (by decide)]
    unfold actF
    rw [if_neg (by decide)]
    simp only
    rw [putF_single (x := ⟨3, true, false, ByteArray.empty, ByteArray.empty⟩) (y := appF ⟨3, true, false, ByteArray.empty, ByteArray.empty⟩ b) rfl rfl]
    have hb : ByteArray.empty ++ b = b := by simp
    simp [appF, hb]
  · have e : getF [⟨3, true, false, b, ByteArray.empty⟩] 3 = ⟨3, true, false, b, ByteArray.empty⟩ := getF_single rfl
    unfold syncF
    rw [if_neg (by simp)]
    simp only
    rw [e, if_neg (by simp)]
    unfold actF
    rw [if_neg (by simp)]
    simp only
    rw [putF_single (x := ⟨3, true, false, b, ByteArray.empty⟩) (y := syncedF ⟨3, true, false, b, ByteArray.empty⟩) rfl rfl]
    simp [syncedF]
/-- One file that was safe, and appended to. -/
def oneF (safe all : ByteArray) (fu : Int) (dn : Bool) : FSm := ⟨[⟨3, true, true, all, safe⟩], fu, dn⟩
theorem one_get (safe all : ByteArray) (fu : Int) (dn : Bool) : getF (oneF safe all fu dn).files 3 = ⟨3, true, true, all, safe⟩ := getF_single rfl
theorem one_append (safe all p : ByteArray) (fu : Int) (dn : Bool) : appendF (oneF safe all fu dn) 3 p =
    if dn = true then (oneF safe all fu dn, 7) else if fu = 0 then (oneF safe (all ++ p) 0 true, 7) else (oneF safe (all ++ p) (if 0 < fu then fu - 1 else fu) dn, 0) := by
  unfold appendF
  rw [one_get]
  show (if dn = true then _ else _) = _
  split
  · rfl
  · rw [if_neg (by simp)]
    unfold actF
    show (if fu = 0 then _ else _) = _
    split
    · rename_i h
      show ((⟨(if false = true then _ else putF [_] _), fu, true⟩ : FSm), (7 : Int)) = _
      rw [if_neg (by decide), putF_single (x := ⟨3, true, true, all, safe⟩) (y := appF ⟨3, true, true, all, safe⟩ p) rfl rfl, h]; rfl
    · show ((⟨putF [_] _, _, dn⟩ : FSm), (0 : Int)) = _
      rw [putF_single (x := ⟨3, true, true, all, safe⟩) (y := appF ⟨3, true, true, all, safe⟩ p) rfl rfl]; rfl
theorem common_self : ∀ (a b : List UInt8), commonF (a ++ b) a = a.length
  | [], b => by cases b <;> rfl
  | x :: a, b => by simp [commonF, common_self a b]
/-- What is left of it. -/
theorem one_crash {safe all more : ByteArray} (h : all = safe ++ more) (fu : Int) (dn : Bool) (t : Ft) : readF (crashF (oneF safe all fu dn) [t]) 3 =
    (if all = safe then safe else bs (partF all.data.toList safe.size t.bytes t.g), 0) := by
  have ok : (oneF safe all fu dn).files = [⟨3, true, true, all, safe⟩] := rfl
  by_cases he : all = safe
  · have hl : looseF ⟨3, true, true, all, safe⟩ = false := by simp [looseF, he]
    have hn : numsF true (oneF safe all fu dn).files = [] := by rw [ok]; simp [numsF, pickF, hl]
    unfold crashF
    rw [hn]
    show readF ⟨[⟨3, true, true, all, safe⟩], -1, false⟩ 3 = _
    unfold readF
    rw [getF_single rfl, if_pos rfl, if_pos he, he]
  · have hl : looseF ⟨3, true, true, all, safe⟩ = true := by simp [looseF, he]
    have hn : numsF true (oneF safe all fu dn).files = [3] := by rw [ok]; simp [numsF, pickF, hl]
    have hc : commonF all.data.toList safe.data.toList = safe.size := by
      rw [h, ByteArray.data_append, Array.toList_append, common_self, data_length]
    have hle : leftF ⟨3, true, true, all, safe⟩ t = ⟨3, true, true, bs (partF all.data.toList safe.size t.bytes t.g), bs (partF all.data.toList safe.size t.bytes t.g)⟩ := by
      simp [leftF, hc]
    unfold crashF
    rw [hn]
    show readF ⟨putF [_] (leftF (getF [_] 3) t), -1, false⟩ 3 = _
    rw [getF_single rfl, hle, putF_single (x := ⟨3, true, true, all, safe⟩) (y := ⟨3, true, true, bs (partF all.data.toList safe.size t.bytes t.g), bs (partF all.data.toList safe.size t.bytes t.g)⟩) rfl rfl]
    unfold readF
    rw [getF_single rfl, if_pos rfl, if_neg he]
theorem partF_len (s : List UInt8) (base : Nat) (count : Int) (g : List UInt8) (h : base ≤ s.length) : (partF s base count g).length = base + min (max count 0).toNat (s.length - base) := by
  unfold partF
  simp only []
  rw [List.length_append, xorL_length, List.length_take, List.length_drop, List.length_take]; omega
theorem partF_at (s : List UInt8) (base : Nat) (count : Int) (g : List UInt8) (h : base ≤ s.length) (i : Nat) (hi : i < (partF s base count g).length) (h2 : i < base ∨ i + 16 < (partF s base count g).length) : (partF s base count g)[i]? = s[i]? := by
  have hl := partF_len s base count g h
  unfold partF at *
  simp only [] at *
  have hlt : i < max ((s.take (base + min (max count 0).toNat (s.length - base))).length - 16) base := by rw [List.length_take] at *; omega
  rw [List.getElem?_append_left (by rw [List.length_take, List.length_take]; rw [List.length_take] at hlt; omega), List.getElem?_take_of_lt hlt, List.getElem?_take_of_lt (by omega)]
end Go.Proofs.YthbgnkkepfbmjaaGreat

