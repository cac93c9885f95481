import Derived.Test.YthfhmohbfoolnaaFj
import Derived.Laws.IdiomStrings
import Derived.Laws.BitsAllLaws
namespace Go.Proofs.Ythfhmohbfoolnaa
open Go Go.RowKit

theorem xorL_length : ∀ (xs ys : List UInt8), (xorL xs ys).length = xs.length
  | [], _ => by simp [xorL]
  | _ :: _, [] => by simp [xorL]
  | x :: xs, y :: ys => by simp [xorL, xorL_length xs ys]
theorem xorL_nil (xs : List UInt8) : xorL xs [] = xs := by cases xs <;> rfl
theorem xorL_get : ∀ (xs ys : List UInt8) (k : Nat) (h : k < xs.length), (xorL xs (ys.take k))[k]'(by rw [xorL_length]; exact h) = xs[k]
  | x :: xs, ys, 0, _ => by simp [xorL]
  | x :: xs, [], k + 1, h => by simp [xorL]
  | x :: xs, y :: ys, k + 1, h => by
    simp only [List.take_succ_cons, xorL, List.getElem_cons_succ]
    exact xorL_get xs ys k (by simpa using h)
theorem xorL_next : ∀ (xs ys : List UInt8) (k : Nat) (h : k < xs.length) (h2 : k < ys.length), xorL xs (ys.take (k + 1)) = (xorL xs (ys.take k)).set k (xs[k] ^^^ ys[k])
  | x :: xs, y :: ys, 0, _, _ => by simp [xorL, xorL_nil]
  | x :: xs, y :: ys, k + 1, h, h2 => by
    simp only [List.take_succ_cons, xorL, List.getElem_cons_succ, List.set_cons_succ]
    rw [xorL_next xs ys k (by simpa using h) (by simpa using h2)]
theorem xorL_more : ∀ (xs ys : List UInt8) (k : Nat), xs.length ≤ k → xorL xs (ys.take k) = xorL xs ys
  | [], _, _, _ => by simp [xorL]
  | _ :: _, [], _, _ => by simp
  | x :: xs, y :: ys, 0, h => by simp at h
  | x :: xs, y :: ys, k + 1, h => by
    simp only [List.take_succ_cons, xorL]
    rw [xorL_more xs ys k (by simpa using h)]
/-- Bytes as they stand behind so many of them were made one with others. -/
def garbTo (l : List UInt8) (F : Nat) (g : List UInt8) (k : Nat) : List UInt8 := l.take F ++ xorL (l.drop F) (g.take k)
theorem garbTo_length {l : List UInt8} {F : Nat} (h : F ≤ l.length) (g : List UInt8) (k : Nat) : (garbTo l F g k).length = l.length := by
  unfold garbTo; rw [List.length_append, xorL_length, List.length_take, List.length_drop]; omega
theorem garbTo_get {l : List UInt8} {F : Nat} (g : List UInt8) {k : Nat} (h : F + k < l.length) : (garbTo l F g k)[F + k]? = some l[F + k] := by
  unfold garbTo
  have hk : k < (l.drop F).length := by rw [List.length_drop]; omega
  rw [List.getElem?_append_right (by rw [List.length_take]; omega), List.length_take, show F + k - min F l.length = k by omega, List.getElem?_eq_getElem (by rw [xorL_length]; exact hk), xorL_get _ _ _ hk]
  simp
theorem garbTo_next {l : List UInt8} {F : Nat} {g : List UInt8} {k : Nat} (h : F + k < l.length) (h2 : k < g.length) : garbTo l F g (k + 1) = (garbTo l F g k).set (F + k) (l[F + k] ^^^ g[k]) := by
  unfold garbTo
  have hk : k < (l.drop F).length := by rw [List.length_drop]; omega
  rw [xorL_next _ _ _ hk h2, List.set_append_right _ _ (by rw [List.length_take]; omega), List.length_take, show F + k - min F l.length = k by omega]
  simp
theorem garbTo_end {l : List UInt8} {F : Nat} {g : List UInt8} {k : Nat} (h : l.length ≤ F + k ∨ g.length ≤ k) : garbTo l F g k = l.take F ++ xorL (l.drop F) g := by
  unfold garbTo
  rcases h with h | h
  · rw [xorL_more _ _ _ (by rw [List.length_drop]; omega)]
  · rw [List.take_of_length_le h]
theorem partF_is {s : List UInt8} {base : Nat} {count : Int} {g : List UInt8} {q F : Nat} (hq : base + min (max count 0).toNat (s.length - base) = q) (hF : max ((s.take q).length - 16) base = F) : partF s base count g = (s.take q).take F ++ xorL ((s.take q).drop F) g := by
  subst hq hF; rfl
theorem range_set {w : World} {b : Nat} {l : List UInt8} (h : w.rangeAt b 0 (bV l)) (j : Nat) (hj : j < l.length) (z : UInt8) : (w.setCell ⟨b, j, none⟩ (.int .u8 (z.toNat : Int))).rangeAt b 0 (bV (l.set j z)) := fun i v hv => by
  have hi : i < l.length := by
    have := (List.getElem?_eq_some_iff.1 hv).1; rw [bV_length, List.length_set] at this; exact this
  rw [Nat.zero_add]
  by_cases he : i = j
  · subst he
    have h0 := h i _ (bV_get l i hi)
    rw [Nat.zero_add] at h0
    rw [World.cell?_setCell_same _ _ _ h0]
    rw [bV_get _ i (by rw [List.length_set]; exact hi), List.getElem_set_self] at hv
    exact hv
  · rw [World.cell?_setCell_other _ _ _ _ (fun e => he (by injection e with _ e; exact e.symm))]
    have h0 := h i _ (bV_get l i hi)
    rw [Nat.zero_add] at h0
    rw [bV_get _ i (by rw [List.length_set]; exact hi), List.getElem_set_ne (by omega)] at hv
    rw [h0]; exact hv
theorem Rd_range {w : World} {b : Nat} {cs : List Value} (h : w.rangeAt b 0 cs) (hb : b < w.heap.size) : Rd w w.heap.size (some ⟨b, 0, none⟩) cs := fun _ => ⟨b, 0, rfl, hb, fun j u hu => h j u hu⟩
theorem alloc_bytes (w : World) (S : ByteArray) (cap : Nat) (fr : Nat × Nat) (hf : S.size ≤ fr.1) : (w.alloc (.cells (bytesRow S cap) 5 fr)).rangeAt w.heap.size 0 (bV S.data.toList) ∧ (w.alloc (.cells (bytesRow S cap) 5 fr)).there w.heap.size 0 S.size := by
  have hc : ∀ j, j < S.size → ∃ u, (w.alloc (.cells (bytesRow S cap) 5 fr)).cell? ⟨w.heap.size, 0 + j, none⟩ = some u ∧ (bV S.data.toList)[j]? = some u := fun j hj => by
    refine ⟨.int .u8 (S.data[j].toNat : Int), ?_, ?_⟩
    · rw [World.cell?_alloc_mark, Nat.zero_add]; exact bytesRow_at S cap j hj
    · rw [bV_get _ j (by simpa using hj)]; simp
  refine ⟨fun j v hv => ?_, fun j hj => ?_⟩
  · have hj : j < S.size := by have := (List.getElem?_eq_some_iff.1 hv).1; rw [bV_length] at this; simpa using this
    obtain ⟨u, h1, h2⟩ := hc j hj
    rw [h2] at hv; rw [h1]; exact hv
  · obtain ⟨u, h1, _⟩ := hc j hj
    refine ⟨by rw [h1]; rfl, ?_⟩
    obtain ⟨lo, hi⟩ := fr
    rw [World.frozen?_alloc_mark]
    simp only at hf
    have : decide (lo ≤ 0 + j) = false := by simp; omega
    rw [this]; rfl
set_option maxRecDepth 20000 in
set_option maxHeartbeats 4000000 in
theorem part_any (s : ByteArray) (base : Nat) (count : Int) (ga : Option Addr) (gc : Nat) (g : List UInt8) (w : World) (hr : Rd w w.heap.size ga (bV g)) (hb : base ≤ s.size) (hs : s.size ≤ 1000000000000) :
    Calls Try.prog 63 #[.string s, .int .i64 (base : Int), .int .i64 count, .slice ga g.length gc] w fun e w' => e = .returned (.string (bs (partF s.data.toList base count g))) ∧ Below w.heap.size w w' := by
  have HR := Lib.hid hr; clear hr
  have kb := fun (w : World) (S : ByteArray) => run_bytes_of_string (P := Try.prog) w 9 36 5 S Try.underlying9 Try.underlying36 Try.underlying5
  obtain ⟨q, hq⟩ : ∃ q, base + min (max count 0).toNat (s.data.toList.length - base) = q := ⟨_, rfl⟩
  have hsz := data_length s
  have hqs : q ≤ s.size := by omega
  have hqb : base ≤ q := by omega
  obtain ⟨l, hl⟩ : ∃ l, l = s.data.toList.take q := ⟨_, rfl⟩
  have HLL : Hid (l.length = q) := by show _ = _; rw [hl, List.length_take, hsz]; omega
  obtain ⟨F, hF⟩ : ∃ F, max ((s.data.toList.take q).length - 16) base = F := ⟨_, rfl⟩
  have HPF : Hid (partF s.data.toList base count g = l.take F ++ xorL (l.drop F) g) := by show _ = _; rw [partF_is hq hF, hl]
  rw [← hl, HLL.out] at hF
  have hFq : F ≤ q := by omega
  obtain ⟨S, hS⟩ : ∃ S, S = s.extract 0 q := ⟨_, rfl⟩
  have HSL : Hid (S.data.toList = l) := by show _ = _; rw [hS, bs_extract, bs_toList, List.drop_zero, hl, Nat.sub_zero]
  have hSq : S.size = q := by rw [← data_length, HSL.out, HLL.out]
  have HSQ := Lib.hid hSq
  have hex : s.extract 0 q = S := hS.symm
  clear hS hl
  rw [hsz] at hq
  clear hsz
  by_cases hc0 : count < 0
  · have hqb2 : q = base := by omega
    have hFq2 : F = q := by omega
    rw [hFq2] at HPF hFq
    have hbq : (base : Int) = (q : Int) := by omega
    have hc2 : ¬ ((s.size : Int) - (q : Int) < 0) := by omega
    have hc3 : (q : Int) - 16 < (q : Int) := by omega
    have d4 : (q : Int) ≤ (s.size : Int) := by omega
    have d3 : (0 : Int) ≤ (q : Int) := by omega
    clear hq hF hFq2 hqb2
    go_enter Try.func63, Try.ntmps63
    obtain ⟨hra, hth⟩ := alloc_bytes w S (grownCap w q 0 5) ((bytesRow S (grownCap w q 0 5)).size, (bytesRow S (grownCap w q 0 5)).size + 1) (by unfold bytesRow; simp)
    have HRA := Lib.hid hra; have HTH := Lib.hid hth; clear hra hth
    have HB0 : Hid (Below w.heap.size w (w.alloc (.cells (bytesRow S (grownCap w q 0 5)) 5 ((bytesRow S (grownCap w q 0 5)).size, (bytesRow S (grownCap w q 0 5)).size + 1))).drew) := Below_drew (box1 w _)
    go_wp2_with fail
    go_loopw [11] (fun i wr => ∃ k : Nat, i = .int .i64 k ∧ k ≤ g.length ∧ q + k ≤ q ∧ wr.rangeAt w.heap.size 0 (bV (garbTo l q g k)) ∧ wr.there w.heap.size 0 q ∧ w.heap.size < wr.heap.size ∧ RowKit.Below w.heap.size w wr) (fun i _ => g.length - (intOf i).toNat)
    case atStart => exact ⟨0, rfl, Nat.zero_le _, by omega, by have h := HRA.out; rw [HSL.out] at h; rw [show garbTo l q g 0 = l from by unfold garbTo; rw [List.take_zero, xorL_nil, List.take_append_drop]]; exact (World.rangeAt_drew _ _ _ _).2 h, by have h := HTH.out; rw [HSQ.out] at h; exact (World.there_drew _ _ _ _).2 h, by simp, HB0.out⟩
    case round =>
      obtain ⟨k, rfl, hkg, hkq, hra, hth, hgs, hbw⟩ := hrel
      have HA := Lib.hid hra; have HT := Lib.hid hth; have HW := Lib.hid hbw; clear hra hth hbw
      have HLQ : Hid (l.length = q) := HLL
      by_cases h1 : q + k < q
      · exact absurd h1 (by omega)
      · have d1 : decide (q + k < q) = false := decide_eq_false h1
        have HE : Hid (garbTo l q g k = partF s.data.toList base count g) := by show _ = _; rw [HPF.out]; exact garbTo_end (.inl (by rw [HLQ.out]; omega))
        have HRD := Lib.hid (Rd_range HA.out hgs)
        have HGL : Hid (q = (garbTo l q g k).length) := by show _ = _; rw [garbTo_length (by rw [HLQ.out]; omega), HLQ.out]
        have hcv := run_string_rd (P := Try.prog) wr 36 9 5 Try.underlying36 Try.underlying5 Try.underlying9 (l := garbTo l q g k) q (grownCap w q 0 5) HRD.out HGL.out
        go_wp2_with fail
        go_ret
        exact ⟨by rw [HE.out]; rfl, HW.out⟩
  · obtain ⟨K, rfl⟩ := Int.eq_ofNat_of_zero_le (Int.not_lt.1 hc0)
    by_cases hc1 : s.size < base + K
    · obtain ⟨D, hD⟩ : ∃ D, s.size - base = D := ⟨_, rfl⟩
      have hsub : (s.size : Int) - (base : Int) = (D : Int) := by omega
      have hqi : (base : Int) + (D : Int) = (q : Int) := by omega
      have hcD : D < K := by omega
      have d4 : (q : Int) ≤ (s.size : Int) := by omega
      have d3 : (0 : Int) ≤ (q : Int) := by omega
      by_cases hq16 : q < base + 16
      · have hFb : (base : Int) = (F : Int) := by omega
        rw [hFb] at hsub hqi
        have hc3 : (q : Int) - 16 < (F : Int) := by omega
        clear hq16 hc1 hq hD
        go_enter Try.func63, Try.ntmps63
        obtain ⟨hra, hth⟩ := alloc_bytes w S (grownCap w q 0 5) ((bytesRow S (grownCap w q 0 5)).size, (bytesRow S (grownCap w q 0 5)).size + 1) (by unfold bytesRow; simp)
        have HRA := Lib.hid hra; have HTH := Lib.hid hth; clear hra hth
        have HB0 : Hid (Below w.heap.size w (w.alloc (.cells (bytesRow S (grownCap w q 0 5)) 5 ((bytesRow S (grownCap w q 0 5)).size, (bytesRow S (grownCap w q 0 5)).size + 1))).drew) := Below_drew (box1 w _)
        go_wp2_with fail
        go_loopw [11] (fun i wr => ∃ k : Nat, i = .int .i64 k ∧ k ≤ g.length ∧ F + k ≤ q ∧ wr.rangeAt w.heap.size 0 (bV (garbTo l F g k)) ∧ wr.there w.heap.size 0 q ∧ w.heap.size < wr.heap.size ∧ RowKit.Below w.heap.size w wr) (fun i _ => g.length - (intOf i).toNat)
        case atStart => exact ⟨0, rfl, Nat.zero_le _, by omega, by have h := HRA.out; rw [HSL.out] at h; rw [show garbTo l F g 0 = l from by unfold garbTo; rw [List.take_zero, xorL_nil, List.take_append_drop]]; exact (World.rangeAt_drew _ _ _ _).2 h, by have h := HTH.out; rw [HSQ.out] at h; exact (World.there_drew _ _ _ _).2 h, by simp, HB0.out⟩
        case round =>
          obtain ⟨k, rfl, hkg, hkq, hra, hth, hgs, hbw⟩ := hrel
          have HA := Lib.hid hra; have HT := Lib.hid hth; have HW := Lib.hid hbw; clear hra hth hbw
          have HLQ : Hid (l.length = q) := HLL
          by_cases h1 : F + k < q
          · have d1 : decide (F + k < q) = true := decide_eq_true h1
            by_cases h2 : k < g.length
            · have d2 : decide (k < g.length) = true := decide_eq_true h2
              have hl1 : F + k < l.length := by rw [HLQ.out]; exact h1
              obtain ⟨gb, go, hga, hgbl, e1⟩ := (HR.out.below HW.out).byte h2
              subst hga
              have e0 : wr.cell? ⟨w.heap.size, F + k, none⟩ = some (.int .u8 (l[F + k].toNat : Int)) := by
                have hgt := garbTo_get g hl1
                have hlt : F + k < (garbTo l F g k).length := (List.getElem?_eq_some_iff.1 hgt).1
                have h := HA.out (F + k) _ (bV_get _ _ hlt)
                rw [Nat.zero_add] at h
                rw [h]
                rw [List.getElem?_eq_getElem hlt] at hgt
                injection hgt with hgt; rw [hgt]
              have f0 : wr.frozen? ⟨w.heap.size, F + k, none⟩ = false := by have := (HT.out (F + k) h1).2; rwa [Nat.zero_add] at this
              have i1 : (0 : Int) ≤ (F : Int) + (k : Int) := by omega
              have i2 : (F : Int) + (k : Int) < (q : Int) := by omega
              have i3 : (0 : Int) ≤ (k : Int) := by omega
              have i4 : (k : Int) < (g.length : Int) := by omega
              obtain ⟨z, hz⟩ : ∃ z, z = l[F + k] ^^^ g[k] := ⟨_, rfl⟩
              have hxr : bits .xor .u8 (l[F + k].toNat : Int) (g[k].toNat : Int) = (z.toNat : Int) := by rw [hz, u8_xor_nat _ _ l[F + k].toNat_lt g[k].toNat_lt, UInt8.toNat_xor]
              have HN : Hid (garbTo l F g (k + 1) = (garbTo l F g k).set (F + k) z) := by show _ = _; rw [garbTo_next hl1 h2, hz]
              have HGL : Hid (F + k < (garbTo l F g k).length) := (List.getElem?_eq_some_iff.1 (garbTo_get g hl1)).1
              clear hz
              generalize l[F + k] = x at *
              generalize g[k] = y at *
              go_wp2_with fail
              go_region
              all_goals
                go_wp2_with fail
                go_roundw
                case rel => exact ⟨k + 1, by go_num, by omega, by omega, by rw [HN.out]; exact range_set HA.out _ HGL.out z, fun j hj => (World.there_setCells HT.out w.heap.size (F + k) [.int .u8 (z.toNat : Int)]) j hj, by simp; exact hgs, (Below_drew HW.out).setCell (Nat.le_refl _) _⟩
                case measure => simp [intOf]; omega
            · have d2 : decide (k < g.length) = false := decide_eq_false h2
              have HE : Hid (garbTo l F g k = partF s.data.toList base (K : Int) g) := by show _ = _; rw [HPF.out]; exact garbTo_end (.inr (by omega))
              have HRD := Lib.hid (Rd_range HA.out hgs)
              have HGL : Hid (q = (garbTo l F g k).length) := by show _ = _; rw [garbTo_length (by rw [HLQ.out]; omega), HLQ.out]
              have hcv := run_string_rd (P := Try.prog) wr 36 9 5 Try.underlying36 Try.underlying5 Try.underlying9 (l := garbTo l F g k) q (grownCap w q 0 5) HRD.out HGL.out
              clear h2
              go_wp2_with fail
              go_ret
              exact ⟨by rw [HE.out]; rfl, HW.out⟩
          · have d1 : decide (F + k < q) = false := decide_eq_false h1
            have HE : Hid (garbTo l F g k = partF s.data.toList base (K : Int) g) := by show _ = _; rw [HPF.out]; exact garbTo_end (.inl (by rw [HLQ.out]; omega))
            have HRD := Lib.hid (Rd_range HA.out hgs)
            have HGL : Hid (q = (garbTo l F g k).length) := by show _ = _; rw [garbTo_length (by rw [HLQ.out]; omega), HLQ.out]
            have hcv := run_string_rd (P := Try.prog) wr 36 9 5 Try.underlying36 Try.underlying5 Try.underlying9 (l := garbTo l F g k) q (grownCap w q 0 5) HRD.out HGL.out
            go_wp2_with fail
            go_ret
            exact ⟨by rw [HE.out]; rfl, HW.out⟩
      · have hFq16 : (q : Int) - 16 = (F : Int) := by omega
        have hc3 : ¬ (F < base) := by omega
        clear hq16 hc1 hq hD
        go_enter Try.func63, Try.ntmps63
        obtain ⟨hra, hth⟩ := alloc_bytes w S (grownCap w q 0 5) ((bytesRow S (grownCap w q 0 5)).size, (bytesRow S (grownCap w q 0 5)).size + 1) (by unfold bytesRow; simp)
        have HRA := Lib.hid hra; have HTH := Lib.hid hth; clear hra hth
        have HB0 : Hid (Below w.heap.size w (w.alloc (.cells (bytesRow S (grownCap w q 0 5)) 5 ((bytesRow S (grownCap w q 0 5)).size, (bytesRow S (grownCap w q 0 5)).size + 1))).drew) := Below_drew (box1 w _)
        go_wp2_with fail
        go_loopw [11] (fun i wr => ∃ k : Nat, i = .int .i64 k ∧ k ≤ g.length ∧ F + k ≤ q ∧ wr.rangeAt w.heap.size 0 (bV (garbTo l F g k)) ∧ wr.there w.heap.size 0 q ∧ w.heap.size < wr.heap.size ∧ RowKit.Below w.heap.size w wr) (fun i _ => g.length - (intOf i).toNat)
        case atStart => exact ⟨0, rfl, Nat.zero_le _, by omega, by have h := HRA.out; rw [HSL.out] at h; rw [show garbTo l F g 0 = l from by unfold garbTo; rw [List.take_zero, xorL_nil, List.take_append_drop]]; exact (World.rangeAt_drew _ _ _ _).2 h, by have h := HTH.out; rw [HSQ.out] at h; exact (World.there_drew _ _ _ _).2 h, by simp, HB0.out⟩
        case round =>
          obtain ⟨k, rfl, hkg, hkq, hra, hth, hgs, hbw⟩ := hrel
          have HA := Lib.hid hra; have HT := Lib.hid hth; have HW := Lib.hid hbw; clear hra hth hbw
          have HLQ : Hid (l.length = q) := HLL
          by_cases h1 : F + k < q
          · have d1 : decide (F + k < q) = true := decide_eq_true h1
            by_cases h2 : k < g.length
            · have d2 : decide (k < g.length) = true := decide_eq_true h2
              have hl1 : F + k < l.length := by rw [HLQ.out]; exact h1
              obtain ⟨gb, go, hga, hgbl, e1⟩ := (HR.out.below HW.out).byte h2
              subst hga
              have e0 : wr.cell? ⟨w.heap.size, F + k, none⟩ = some (.int .u8 (l[F + k].toNat : Int)) := by
                have hgt := garbTo_get g hl1
                have hlt : F + k < (garbTo l F g k).length := (List.getElem?_eq_some_iff.1 hgt).1
                have h := HA.out (F + k) _ (bV_get _ _ hlt)
                rw [Nat.zero_add] at h
                rw [h]
                rw [List.getElem?_eq_getElem hlt] at hgt
                injection hgt with hgt; rw [hgt]
              have f0 : wr.frozen? ⟨w.heap.size, F + k, none⟩ = false := by have := (HT.out (F + k) h1).2; rwa [Nat.zero_add] at this
              have i1 : (0 : Int) ≤ (F : Int) + (k : Int) := by omega
              have i2 : (F : Int) + (k : Int) < (q : Int) := by omega
              have i3 : (0 : Int) ≤ (k : Int) := by omega
              have i4 : (k : Int) < (g.length : Int) := by omega
              obtain ⟨z, hz⟩ : ∃ z, z = l[F + k] ^^^ g[k] := ⟨_, rfl⟩
              have hxr : bits .xor .u8 (l[F + k].toNat : Int) (g[k].toNat : Int) = (z.toNat : Int) := by rw [hz, u8_xor_nat _ _ l[F + k].toNat_lt g[k].toNat_lt, UInt8.toNat_xor]
              have HN : Hid (garbTo l F g (k + 1) = (garbTo l F g k).set (F + k) z) := by show _ = _; rw [garbTo_next hl1 h2, hz]
              have HGL : Hid (F + k < (garbTo l F g k).length) := (List.getElem?_eq_some_iff.1 (garbTo_get g hl1)).1
              clear hz
              generalize l[F + k] = x at *
              generalize g[k] = y at *
              go_wp2_with fail
              go_region
              all_goals
                go_wp2_with fail
                go_roundw
                case rel => exact ⟨k + 1, by go_num, by omega, by omega, by rw [HN.out]; exact range_set HA.out _ HGL.out z, fun j hj => (World.there_setCells HT.out w.heap.size (F + k) [.int .u8 (z.toNat : Int)]) j hj, by simp; exact hgs, (Below_drew HW.out).setCell (Nat.le_refl _) _⟩
                case measure => simp [intOf]; omega
            · have d2 : decide (k < g.length) = false := decide_eq_false h2
              have HE : Hid (garbTo l F g k = partF s.data.toList base (K : Int) g) := by show _ = _; rw [HPF.out]; exact garbTo_end (.inr (by omega))
              have HRD := Lib.hid (Rd_range HA.out hgs)
              have HGL : Hid (q = (garbTo l F g k).length) := by show _ = _; rw [garbTo_length (by rw [HLQ.out]; omega), HLQ.out]
              have hcv := run_string_rd (P := Try.prog) wr 36 9 5 Try.underlying36 Try.underlying5 Try.underlying9 (l := garbTo l F g k) q (grownCap w q 0 5) HRD.out HGL.out
              clear h2
              go_wp2_with fail
              go_ret
              exact ⟨by rw [HE.out]; rfl, HW.out⟩
          · have d1 : decide (F + k < q) = false := decide_eq_false h1
            have HE : Hid (garbTo l F g k = partF s.data.toList base (K : Int) g) := by show _ = _; rw [HPF.out]; exact garbTo_end (.inl (by rw [HLQ.out]; omega))
            have HRD := Lib.hid (Rd_range HA.out hgs)
            have HGL : Hid (q = (garbTo l F g k).length) := by show _ = _; rw [garbTo_length (by rw [HLQ.out]; omega), HLQ.out]
            have hcv := run_string_rd (P := Try.prog) wr 36 9 5 Try.underlying36 Try.underlying5 Try.underlying9 (l := garbTo l F g k) q (grownCap w q 0 5) HRD.out HGL.out
            go_wp2_with fail
            go_ret
            exact ⟨by rw [HE.out]; rfl, HW.out⟩
    · have hqi : (base : Int) + (K : Int) = (q : Int) := by omega
      have hc2 : ¬ ((s.size : Int) - (base : Int) < (K : Int)) := by omega
      have d4 : (q : Int) ≤ (s.size : Int) := by omega
      have d3 : (0 : Int) ≤ (q : Int) := by omega
      clear hc1 hq
      by_cases hq16 : q < base + 16
      · have hFb : (base : Int) = (F : Int) := by omega
        rw [hFb] at hqi hc2
        have hc3 : (q : Int) - 16 < (F : Int) := by omega
        clear hq16
        go_enter Try.func63, Try.ntmps63
        obtain ⟨hra, hth⟩ := alloc_bytes w S (grownCap w q 0 5) ((bytesRow S (grownCap w q 0 5)).size, (bytesRow S (grownCap w q 0 5)).size + 1) (by unfold bytesRow; simp)
        have HRA := Lib.hid hra; have HTH := Lib.hid hth; clear hra hth
        have HB0 : Hid (Below w.heap.size w (w.alloc (.cells (bytesRow S (grownCap w q 0 5)) 5 ((bytesRow S (grownCap w q 0 5)).size, (bytesRow S (grownCap w q 0 5)).size + 1))).drew) := Below_drew (box1 w _)
        go_wp2_with fail
        go_loopw [11] (fun i wr => ∃ k : Nat, i = .int .i64 k ∧ k ≤ g.length ∧ F + k ≤ q ∧ wr.rangeAt w.heap.size 0 (bV (garbTo l F g k)) ∧ wr.there w.heap.size 0 q ∧ w.heap.size < wr.heap.size ∧ RowKit.Below w.heap.size w wr) (fun i _ => g.length - (intOf i).toNat)
        case atStart => exact ⟨0, rfl, Nat.zero_le _, by omega, by have h := HRA.out; rw [HSL.out] at h; rw [show garbTo l F g 0 = l from by unfold garbTo; rw [List.take_zero, xorL_nil, List.take_append_drop]]; exact (World.rangeAt_drew _ _ _ _).2 h, by have h := HTH.out; rw [HSQ.out] at h; exact (World.there_drew _ _ _ _).2 h, by simp, HB0.out⟩
        case round =>
          obtain ⟨k, rfl, hkg, hkq, hra, hth, hgs, hbw⟩ := hrel
          have HA := Lib.hid hra; have HT := Lib.hid hth; have HW := Lib.hid hbw; clear hra hth hbw
          have HLQ : Hid (l.length = q) := HLL
          by_cases h1 : F + k < q
          · have d1 : decide (F + k < q) = true := decide_eq_true h1
            by_cases h2 : k < g.length
            · have d2 : decide (k < g.length) = true := decide_eq_true h2
              have hl1 : F + k < l.length := by rw [HLQ.out]; exact h1
              obtain ⟨gb, go, hga, hgbl, e1⟩ := (HR.out.below HW.out).byte h2
              subst hga
              have e0 : wr.cell? ⟨w.heap.size, F + k, none⟩ = some (.int .u8 (l[F + k].toNat : Int)) := by
                have hgt := garbTo_get g hl1
                have hlt : F + k < (garbTo l F g k).length := (List.getElem?_eq_some_iff.1 hgt).1
                have h := HA.out (F + k) _ (bV_get _ _ hlt)
                rw [Nat.zero_add] at h
                rw [h]
                rw [List.getElem?_eq_getElem hlt] at hgt
                injection hgt with hgt; rw [hgt]
              have f0 : wr.frozen? ⟨w.heap.size, F + k, none⟩ = false := by have := (HT.out (F + k) h1).2; rwa [Nat.zero_add] at this
              have i1 : (0 : Int) ≤ (F : Int) + (k : Int) := by omega
              have i2 : (F : Int) + (k : Int) < (q : Int) := by omega
              have i3 : (0 : Int) ≤ (k : Int) := by omega
              have i4 : (k : Int) < (g.length : Int) := by omega
              obtain ⟨z, hz⟩ : ∃ z, z = l[F + k] ^^^ g[k] := ⟨_, rfl⟩
              have hxr : bits .xor .u8 (l[F + k].toNat : Int) (g[k].toNat : Int) = (z.toNat : Int) := by rw [hz, u8_xor_nat _ _ l[F + k].toNat_lt g[k].toNat_lt, UInt8.toNat_xor]
              have HN : Hid (garbTo l F g (k + 1) = (garbTo l F g k).set (F + k) z) := by show _ = _; rw [garbTo_next hl1 h2, hz]
              have HGL : Hid (F + k < (garbTo l F g k).length) := (List.getElem?_eq_some_iff.1 (garbTo_get g hl1)).1
              clear hz
              generalize l[F + k] = x at *
              generalize g[k] = y at *
              go_wp2_with fail
              go_region
              all_goals
                go_wp2_with fail
                go_roundw
                case rel => exact ⟨k + 1, by go_num, by omega, by omega, by rw [HN.out]; exact range_set HA.out _ HGL.out z, fun j hj => (World.there_setCells HT.out w.heap.size (F + k) [.int .u8 (z.toNat : Int)]) j hj, by simp; exact hgs, (Below_drew HW.out).setCell (Nat.le_refl _) _⟩
                case measure => simp [intOf]; omega
            · have d2 : decide (k < g.length) = false := decide_eq_false h2
              have HE : Hid (garbTo l F g k = partF s.data.toList base (K : Int) g) := by show _ = _; rw [HPF.out]; exact garbTo_end (.inr (by omega))
              have HRD := Lib.hid (Rd_range HA.out hgs)
              have HGL : Hid (q = (garbTo l F g k).length) := by show _ = _; rw [garbTo_length (by rw [HLQ.out]; omega), HLQ.out]
              have hcv := run_string_rd (P := Try.prog) wr 36 9 5 Try.underlying36 Try.underlying5 Try.underlying9 (l := garbTo l F g k) q (grownCap w q 0 5) HRD.out HGL.out
              clear h2
              go_wp2_with fail
              go_ret
              exact ⟨by rw [HE.out]; rfl, HW.out⟩
          · have d1 : decide (F + k < q) = false := decide_eq_false h1
            have HE : Hid (garbTo l F g k = partF s.data.toList base (K : Int) g) := by show _ = _; rw [HPF.out]; exact garbTo_end (.inl (by rw [HLQ.out]; omega))
            have HRD := Lib.hid (Rd_range HA.out hgs)
            have HGL : Hid (q = (garbTo l F g k).length) := by show _ = _; rw [garbTo_length (by rw [HLQ.out]; omega), HLQ.out]
            have hcv := run_string_rd (P := Try.prog) wr 36 9 5 Try.underlying36 Try.underlying5 Try.underlying9 (l := garbTo l F g k) q (grownCap w q 0 5) HRD.out HGL.out
            go_wp2_with fail
            go_ret
            exact ⟨by rw [HE.out]; rfl, HW.out⟩
      · have hFq16 : (q : Int) - 16 = (F : Int) := by omega
        have hc3 : ¬ (F < base) := by omega
        clear hq16
        go_enter Try.func63, Try.ntmps63
        obtain ⟨hra, hth⟩ := alloc_bytes w S (grownCap w q 0 5) ((bytesRow S (grownCap w q 0 5)).size, (bytesRow S (grownCap w q 0 5)).size + 1) (by unfold bytesRow; simp)
        have HRA := Lib.hid hra; have HTH := Lib.hid hth; clear hra hth
        have HB0 : Hid (Below w.heap.size w (w.alloc (.cells (bytesRow S (grownCap w q 0 5)) 5 ((bytesRow S (grownCap w q 0 5)).size, (bytesRow S (grownCap w q 0 5)).size + 1))).drew) := Below_drew (box1 w _)
        go_wp2_with fail
        go_loopw [11] (fun i wr => ∃ k : Nat, i = .int .i64 k ∧ k ≤ g.length ∧ F + k ≤ q ∧ wr.rangeAt w.heap.size 0 (bV (garbTo l F g k)) ∧ wr.there w.heap.size 0 q ∧ w.heap.size < wr.heap.size ∧ RowKit.Below w.heap.size w wr) (fun i _ => g.length - (intOf i).toNat)
        case atStart => exact ⟨0, rfl, Nat.zero_le _, by omega, by have h := HRA.out; rw [HSL.out] at h; rw [show garbTo l F g 0 = l from by unfold garbTo; rw [List.take_zero, xorL_nil, List.take_append_drop]]; exact (World.rangeAt_drew _ _ _ _).2 h, by have h := HTH.out; rw [HSQ.out] at h; exact (World.there_drew _ _ _ _).2 h, by simp, HB0.out⟩
        case round =>
          obtain ⟨k, rfl, hkg, hkq, hra, hth, hgs, hbw⟩ := hrel
          have HA := Lib.hid hra; have HT := Lib.hid hth; have HW := Lib.hid hbw; clear hra hth hbw
          have HLQ : Hid (l.length = q) := HLL
          by_cases h1 : F + k < q
          · have d1 : decide (F + k < q) = true := decide_eq_true h1
            by_cases h2 : k < g.length
            · have d2 : decide (k < g.length) = true := decide_eq_true h2
              have hl1 : F + k < l.length := by rw [HLQ.out]; exact h1
              obtain ⟨gb, go, hga, hgbl, e1⟩ := (HR.out.below HW.out).byte h2
              subst hga
              have e0 : wr.cell? ⟨w.heap.size, F + k, none⟩ = some (.int .u8 (l[F + k].toNat : Int)) := by
                have hgt := garbTo_get g hl1
                have hlt : F + k < (garbTo l F g k).length := (List.getElem?_eq_some_iff.1 hgt).1
                have h := HA.out (F + k) _ (bV_get _ _ hlt)
                rw [Nat.zero_add] at h
                rw [h]
                rw [List.getElem?_eq_getElem hlt] at hgt
                injection hgt with hgt; rw [hgt]
              have f0 : wr.frozen? ⟨w.heap.size, F + k, none⟩ = false := by have := (HT.out (F + k) h1).2; rwa [Nat.zero_add] at this
              have i1 : (0 : Int) ≤ (F : Int) + (k : Int) := by omega
              have i2 : (F : Int) + (k : Int) < (q : Int) := by omega
              have i3 : (0 : Int) ≤ (k : Int) := by omega
              have i4 : (k : Int) < (g.length : Int) := by omega
              obtain ⟨z, hz⟩ : ∃ z, z = l[F + k] ^^^ g[k] := ⟨_, rfl⟩
              have hxr : bits .xor .u8 (l[F + k].toNat : Int) (g[k].toNat : Int) = (z.toNat : Int) := by rw [hz, u8_xor_nat _ _ l[F + k].toNat_lt g[k].toNat_lt, UInt8.toNat_xor]
              have HN : Hid (garbTo l F g (k + 1) = (garbTo l F g k).set (F + k) z) := by show _ = _; rw [garbTo_next hl1 h2, hz]
              have HGL : Hid (F + k < (garbTo l F g k).length) := (List.getElem?_eq_some_iff.1 (garbTo_get g hl1)).1
              clear hz
              generalize l[F + k] = x at *
              generalize g[k] = y at *
              go_wp2_with fail
              go_region
              all_goals
                go_wp2_with fail
                go_roundw
                case rel => exact ⟨k + 1, by go_num, by omega, by omega, by rw [HN.out]; exact range_set HA.out _ HGL.out z, fun j hj => (World.there_setCells HT.out w.heap.size (F + k) [.int .u8 (z.toNat : Int)]) j hj, by simp; exact hgs, (Below_drew HW.out).setCell (Nat.le_refl _) _⟩
                case measure => simp [intOf]; omega
            · have d2 : decide (k < g.length) = false := decide_eq_false h2
              have HE : Hid (garbTo l F g k = partF s.data.toList base (K : Int) g) := by show _ = _; rw [HPF.out]; exact garbTo_end (.inr (by omega))
              have HRD := Lib.hid (Rd_range HA.out hgs)
              have HGL : Hid (q = (garbTo l F g k).length) := by show _ = _; rw [garbTo_length (by rw [HLQ.out]; omega), HLQ.out]
              have hcv := run_string_rd (P := Try.prog) wr 36 9 5 Try.underlying36 Try.underlying5 Try.underlying9 (l := garbTo l F g k) q (grownCap w q 0 5) HRD.out HGL.out
              clear h2
              go_wp2_with fail
              go_ret
              exact ⟨by rw [HE.out]; rfl, HW.out⟩
          · have d1 : decide (F + k < q) = false := decide_eq_false h1
            have HE : Hid (garbTo l F g k = partF s.data.toList base (K : Int) g) := by show _ = _; rw [HPF.out]; exact garbTo_end (.inl (by rw [HLQ.out]; omega))
            have HRD := Lib.hid (Rd_range HA.out hgs)
            have HGL : Hid (q = (garbTo l F g k).length) := by show _ = _; rw [garbTo_length (by rw [HLQ.out]; omega), HLQ.out]
            have hcv := run_string_rd (P := Try.prog) wr 36 9 5 Try.underlying36 Try.underlying5 Try.underlying9 (l := garbTo l F g k) q (grownCap w q 0 5) HRD.out HGL.out
            go_wp2_with fail
            go_ret
            exact ⟨by rw [HE.out]; rfl, HW.out⟩
end Go.Proofs.Ythfhmohbfoolnaa
