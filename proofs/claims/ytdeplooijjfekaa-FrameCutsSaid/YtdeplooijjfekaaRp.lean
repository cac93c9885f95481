import Derived.Test.YtdeplooijjfekaaRj
import Derived.Test.YtdeplooijjfekaaGs
import Derived.Deep.DeepMust
namespace Go.Proofs.Ytdeplooijjfekaa
open Go Go.RowKit

/-! Frames that are laid one behind the other. -/
def catF (L : List (List UInt8)) : List UInt8 := L.flatMap frL
def eL (L : List (List UInt8)) (i : Nat) : Nat := (catF (L.take i)).length
theorem catF_snoc (L : List (List UInt8)) (b : List UInt8) : catF (L ++ [b]) = catF L ++ frL b := by simp [catF]
theorem eL_zero (L : List (List UInt8)) : eL L 0 = 0 := rfl
theorem eL_succ (L : List (List UInt8)) {i : Nat} (h : i < L.length) : eL L (i + 1) = eL L i + (6 + L[i].length) := by
  unfold eL
  rw [← List.take_append_getElem h, catF_snoc, List.length_append, frL_length]
theorem eL_mono (L : List (List UInt8)) {i : Nat} : ∀ d, i + d ≤ L.length → eL L i ≤ eL L (i + d)
  | 0, _ => Nat.le_refl _
  | d + 1, h => by
    have := eL_mono L d (by omega : i + d ≤ L.length)
    rw [← Nat.add_assoc, eL_succ L (by omega)]; omega
theorem eL_all (L : List (List UInt8)) : eL L L.length = (catF L).length := by rw [eL, List.take_length]
theorem eL_le (L : List (List UInt8)) (h3 : ∀ b ∈ L, b.length ≤ 300) : ∀ i, i ≤ L.length → eL L i ≤ 306 * i
  | 0, _ => Nat.le_refl _
  | i + 1, h => by
    have ih := eL_le L h3 i (by omega)
    have := h3 L[i] (List.getElem_mem _)
    rw [eL_succ L (by omega)]; omega
theorem catF_drop (L : List (List UInt8)) {i : Nat} (h : i < L.length) : ∃ R, (catF L).drop (eL L i) = frL L[i] ++ R := by
  refine ⟨catF (L.drop (i + 1)), ?_⟩
  have e : catF L = catF (L.take i) ++ (frL L[i] ++ catF (L.drop (i + 1))) := by
    have h2 : L = L.take i ++ (L[i] :: L.drop (i + 1)) := by rw [← List.drop_eq_getElem_cons h, List.take_append_drop]
    have h3 : catF L = catF (L.take i ++ (L[i] :: L.drop (i + 1))) := by rw [← h2]
    rw [h3]; unfold catF; rw [List.flatMap_append, List.flatMap_cons]
  rw [e, eL, List.drop_left]
/-- How many are whole ahead of k. -/
def Whole (L : List (List UInt8)) (k i W : Nat) : Prop := W ≤ i ∧ eL L W ≤ k ∧ (W < i → k < eL L (W + 1))
theorem Whole.start (L : List (List UInt8)) (k : Nat) : Whole L k 0 0 := ⟨Nat.le_refl _, Nat.zero_le _, fun h => absurd h (by omega)⟩
theorem Whole.yes {L : List (List UInt8)} {k i W : Nat} (h : Whole L k i W) (hi : i < L.length) (he : eL L (i + 1) ≤ k) : W = i ∧ Whole L k (i + 1) (i + 1) := by
  have hW : W = i := by
    rcases Nat.lt_or_ge W i with h1 | h1
    · have h2 := h.2.2 h1
      have h3 := eL_mono L (i := W + 1) (i - W) (by omega)
      rw [show W + 1 + (i - W) = i + 1 by omega] at h3
      omega
    · have := h.1; omega
  exact ⟨hW, Nat.le_refl _, he, fun h => absurd h (by omega)⟩
theorem Whole.no {L : List (List UInt8)} {k i W : Nat} (h : Whole L k i W) (he : k < eL L (i + 1)) : Whole L k (i + 1) W :=
  ⟨by have := h.1; omega, h.2.1, fun _ => by
    rcases Nat.lt_or_ge W i with h1 | h1
    · exact h.2.2 h1
    · have : W = i := by have := h.1; omega
      subst this; exact he⟩
theorem endF_take (L : List (List UInt8)) : ∀ i, i ≤ L.length → endF 0 (L.take i) = (eL L i : Int)
  | 0, _ => by simp [endF, eL_zero]
  | i + 1, h => by
    rw [← List.take_append_getElem (by omega : i < L.length), endF_snoc, endF_take L i (by omega), eL_succ L (by omega)]; omega
/-- Cut off at k, just the whole ones are found. -/
theorem allF_cut {L : List (List UInt8)} (hL : ∀ b ∈ L, mayF b.length = true) {k W m : Nat} (hk : k ≤ (catF L).length) (hm : L.length ≤ m) (h : Whole L k L.length W) : allF ((catF L).take k) m 0 = L.take W := by
  have hlen : ((catF L).take k).length = k := by rw [List.length_take]; omega
  have hf : ∀ j, j ≤ W → Found ((catF L).take k) m 0 (L.take j) := by
    intro j
    induction j with
    | zero => intro _; exact Found.start _ _ _
    | succ j ih =>
      intro hj
      have hjl : j < L.length := by have := h.1; omega
      have hjw : eL L (j + 1) ≤ k := by
        have h3 := eL_mono L (i := j + 1) (W - (j + 1)) (by have := h.1; omega)
        rw [show j + 1 + (W - (j + 1)) = W by omega] at h3
        have := h.2.1; omega
      have hs := eL_succ L hjl
      have ihj := ih (by omega)
      rw [← List.take_append_getElem hjl]
      refine ihj.next (by rw [List.length_take]; omega) ?_
      rw [endF_take L j (by omega), gotF_at (by rw [hlen]; omega), List.drop_take]
      obtain ⟨R, hR⟩ := catF_drop L hjl
      rw [hR]
      refine firstF_of ?_ (hL _ (List.getElem_mem _))
      rw [List.take_take, Nat.min_eq_left (by omega), List.take_append_of_le_length (by rw [frL_length]; omega), ← frL_length, List.take_length]
  have hfw := hf W (Nat.le_refl _)
  have hW := h.1
  cases hg : gotF ((catF L).take k) (endF 0 (L.take W)) with
  | error e => exact hfw.stop hg
  | ok b =>
    exfalso
    rw [endF_take L W hW] at hg
    have hfit := gotF_fits hg
    rw [hlen] at hfit
    rcases Nat.lt_or_ge W L.length with h1 | h1
    · have h2 := h.2.2 h1
      rw [gotF_at (by rw [hlen]; omega), List.drop_take] at hg
      obtain ⟨R, hR⟩ := catF_drop L h1
      have hs := eL_succ L h1
      rw [hR, List.take_append_of_le_length (by rw [frL_length]; omega)] at hg
      obtain ⟨e, he⟩ := firstF_cut (b := L[W]) (mayF_iff.1 (hL _ (List.getElem_mem _))).2 (r := k - eL L W) (by rw [frL_length]; omega)
      rw [he] at hg; cases hg
    · have : W = L.length := by omega
      subst this
      rw [eL_all] at hfit
      omega
theorem By_elem {w : World} {B : Nat} {a : Option Addr} {L : List By} (h : Rd w B a (flatG By.l L)) {i : Nat} (hi : i < L.length) : ∃ b off, a = some ⟨b, off, none⟩ ∧ b < B ∧ w.cell? ⟨b, off + i, none⟩ = some (.slice L[i].a L[i].b.length L[i].c) := by
  obtain ⟨b, off, ha, hb, hc⟩ := Rd.elemG (enc := By.l) (m := 1) (fun _ => rfl) (by omega) h hi
  have := hc 0 _ rfl
  rw [Nat.mul_one, Nat.add_zero] at this
  exact ⟨b, off, ha, hb, this⟩
def iV (L : List Nat) : List Value := L.map fun (n : Nat) => .int .i64 (n : Int)
def endsL (L : List (List UInt8)) (i : Nat) : List Nat := (List.range i).map fun j => eL L (j + 1)
theorem endsL_succ (L : List (List UInt8)) (i : Nat) : endsL L (i + 1) = endsL L i ++ [eL L (i + 1)] := by simp [endsL, List.range_succ]
theorem endsL_length (L : List (List UInt8)) (i : Nat) : (endsL L i).length = i := by simp [endsL]
theorem info_int : (Try.prog.info? 3).map (fun i => (i.zero, i.size, i.bytes)) = some (some (.int .i64 0), 1, 8) := by kernel_rfl
/-- What laid answers. -/
def LaidOut (w : World) (L : List (List UInt8)) (e : Ending) (w' : World) : Prop :=
  ∃ vb ve, e = .returned (.tuple #[vb, ve, .bool true]) ∧ w'.ownsRow w.heap.size 5 1 vb (catF L).length (bV (catF L)) ∧ w'.ownsRow w.heap.size 3 1 ve L.length (iV (endsL L L.length)) ∧ Below w.heap.size w w'
set_option maxHeartbeats 2000000 in
theorem laid_any (a : Option Addr) (n c : Nat) (L : List By) (w : World) (hn : n = L.length) (hr : Rd w w.heap.size a (flatG By.l L)) (hb : ∀ x ∈ L, ByArg w x) (h3 : ∀ x ∈ L, 1 ≤ x.b.length ∧ x.b.length ≤ 300) (hl : L.length ≤ 20) :
    Calls Try.prog 15 #[.slice a n c] w (LaidOut w (L.map By.b)) := by
  have HN := Lib.hid hn
  have hn20 : n ≤ 20 := by omega
  have HR := Lib.hid hr; have HB := Lib.hid hb; have H3 := Lib.hid h3
  clear hn hr hb h3 hl
  obtain ⟨i0, hi0, hz0, hz1, hz2⟩ := info_parts info_u8
  obtain ⟨j0, hj0, hy0, hy1, hy2⟩ := info_parts info_int
  have HZ2 := Lib.hid hz2; have HY2 := Lib.hid hy2; clear hz2 hy2
  go_enter Try.func15, Try.ntmps15
  go_wp2_with fail
  have HXP : ∀ j, j < n → ∃ (x : By), x ∈ L ∧ (∃ b off, a = some ⟨b, off, none⟩ ∧ b < w.heap.size ∧ w.cell? ⟨b, off + j, none⟩ = some (.slice x.a x.b.length x.c)) ∧ eL (L.map By.b) (j + 1) = eL (L.map By.b) j + (6 + x.b.length) ∧ catF ((L.map By.b).take (j + 1)) = catF ((L.map By.b).take j) ++ frL x.b := by
    intro j hj
    have hjl : j < L.length := by rw [← HN.out]; exact hj
    refine ⟨L[j], List.getElem_mem _, By_elem HR.out hjl, ?_, ?_⟩
    · rw [eL_succ _ (by rw [List.length_map]; exact hjl)]; simp
    · rw [← List.take_append_getElem (by rw [List.length_map]; exact hjl), catF_snoc]; simp
  have HX := Lib.hid HXP; clear HXP
  have HEL : Hid (∀ j, j ≤ n → eL (L.map By.b) j ≤ 306 * j) := fun j hj => eL_le _ (fun b hb => by
    obtain ⟨x, hx, rfl⟩ := List.mem_map.1 hb
    exact (H3.out x hx).2) j (by rw [List.length_map, ← HN.out]; exact hj)
  go_loopw [5, 6, 13] (fun vb ve i wr => ∃ j : Nat, j ≤ n ∧ i = .int .i64 j ∧ wr.ownsRow w.heap.size 5 1 vb (eL (L.map By.b) j) (bV (catF ((L.map By.b).take j))) ∧ wr.ownsRow w.heap.size 3 1 ve j (iV (endsL (L.map By.b) j)) ∧ Below w.heap.size w wr) (fun _ _ i _ => n - (intOf i).toNat)
  case atStart => exact ⟨0, Nat.zero_le _, rfl, World.ownsRow_nil _ _ _ _, World.ownsRow_nil _ _ _ _, Below.refl _ _⟩
  case round =>
    obtain ⟨j, hj, rfl, ho1, ho2, hb⟩ := hrel
    have HO1 := Lib.hid ho1; have HO2 := Lib.hid ho2; have HBW := Lib.hid hb
    by_cases hlt : j < n
    · obtain ⟨x, hxm, ⟨b, off, rfl, hbl, hxc⟩, he1, he2⟩ := HX.out j hlt
      have HE1 := Lib.hid he1; have HE2 := Lib.hid he2
      have hx3 := H3.out x hxm
      have hq : wr.cell? ⟨b, off + j, none⟩ = some (.slice x.a x.b.length x.c) := by rw [hb.cell (p := ⟨b, off + j, none⟩) hbl]; exact hxc
      have HXR := Lib.hid (((HB.out x hxm).1.below hb).more hb.size)
      have HXM : Hid (mayF x.b.length = true) := mayF_iff.2 (by omega)
      obtain ⟨E0, hE0⟩ : ∃ E0, E0 = eL (L.map By.b) j := ⟨_, rfl⟩
      obtain ⟨E1, hE1⟩ : ∃ E1, E1 = eL (L.map By.b) (j + 1) := ⟨_, rfl⟩
      have hE01 : E1 = E0 + (6 + x.b.length) := by rw [hE0, hE1]; exact he1
      have hE0l : E0 ≤ 6120 := by have := HEL.out j hj; omega
      rw [← hE0] at ho1 HO1
      have HE0 := Lib.hid hE0; have HE1' := Lib.hid hE1; have HE01 := Lib.hid hE01
      obtain ⟨nb, hnb⟩ : ∃ nb, nb = x.b.length := ⟨_, rfl⟩
      have HNB := Lib.hid hnb
      rw [← hnb] at hq hx3
      obtain ⟨LF, hLF⟩ : ∃ LF, LF = frL x.b := ⟨_, rfl⟩
      have hLFl : LF.length ≤ 306 := by rw [hLF, frL_length, ← hnb]; omega
      have HLF := Lib.hid hLF
      obtain ⟨ba, bc, rfl, _, _, _⟩ := own_slice ho1
      obtain ⟨ea, ec, rfl, _, _, _⟩ := own_slice ho2
      have hBs := hb.size
      have HLT := Lib.hid hlt
      clear ho1 ho2 hb hxc hxm he1 he2 hE0 hE1 hE01 hnb hLF hlt
      go_wp2_with fail
      refine (putR_is x.a nb x.c x.b LF 0 wr HNB.out (by rw [HXM.out, HLF.out]; rfl) HXR.out).mono ?_; rintro e w1 ⟨fa, fc, rfl, _, _, hr1, hb1⟩
      have HF1 := Lib.hid hr1
      have HO11 := Lib.hid (own_below HO1.out hb1); have HO21 := Lib.hid (own_below HO2.out hb1); have HB1 := Lib.hid (bel2 HBW.out hb1)
      have hBs1 : w.heap.size ≤ w1.heap.size := HB1.out.size
      have HSUM : Hid (E0 + LF.length = E1) := by show _ = _; rw [HE01.out, HLF.out, frL_length]
      have hE1l : E1 ≤ 6500 := by rw [← HSUM.out]; omega
      clear hr1 hb1
      go_wp2_with (first
        | (at_builtin
           refine wpList_append_rd _ rfl (.tmp 24) (.tmp 25) 22 rfl w.heap.size 5 i0 _ 1 1 Try.underlying22 hi0 hz0 hz1 HZ2.out rfl (by omega) _ E0 _ rfl HO11.out _ _ LF.length _ (bV LF) rfl (by rw [bV_length, Nat.mul_one]) HF1.out (bV_one _) (by unfold maxLen; omega) (by omega) hBs1 ?_
           intro v7 w3 hown3 hg3 _
           rw [HSUM.out, ← bV_append] at hown3
           have HR21 := Lib.hid (HO21.out.kept hg3 (rows_apart HO21.out HO11.out (by decide)))
           have HB3 := Lib.hid (Below.of_grown HB1.out hg3 hBs1 (by intro g hg; exact (own_shape HO11.out hg).1))
           have HO3 := Lib.hid hown3
           obtain ⟨ba2, bc2, rfl, _, _, _⟩ := own_slice hown3
           have hBs3 : w.heap.size ≤ w3.heap.size := HB3.out.size
           clear hown3 hg3)
        | (at_builtin
           go_must (refine wpList_append_rd _ rfl _ _ 43 rfl w.heap.size 3 j0 _ 1 8 Try.underlying43 hj0 hy0 hy1 HY2.out rfl (by omega) _ j _ rfl (HR21.out.alloc _) _ _ 1 _ [.int .i64 (E1 : Int)] rfl rfl (lit_rd w3 #[.int .i64 (E1 : Int)] _) (by simp [Value.oneCell']) (by unfold maxLen; omega) (by omega) (by simp; omega) ?_)
           intro v8 w4 hown4 hg4 _
           have HR32 := Lib.hid ((HO3.out.alloc (.cells #[.int .i64 (E1 : Int)] 3)).kept hg4 (rows_apart (HO3.out.alloc (.cells #[.int .i64 (E1 : Int)] 3)) (HR21.out.alloc (.cells #[.int .i64 (E1 : Int)] 3)) (by decide)))
           have HB4 := Lib.hid (Below.of_grown (HB3.out.alloc hBs3 (.cells #[.int .i64 (E1 : Int)] 3)) hg4 (by simp; omega) (by intro g hg; exact (own_shape HR21.out hg).1))
           have HO4 := Lib.hid hown4
           clear hown4 hg4))
      go_roundw
      case rel =>
        refine ⟨j + 1, HLT.out, by go_num, ?_, ?_, HB4.out⟩
        · rw [← HE1'.out, HE2.out, ← HLF.out]; exact HR32.out
        · rw [endsL_succ, ← HE1'.out]
          have h := HO4.out
          simpa [iV] using h
      case measure => have := HLT.out; simp [intOf]; omega
    · have : j = n := by omega
      subst this
      have HM : Hid (j = (L.map By.b).length) := by show _ = _; rw [List.length_map]; exact HN.out
      have h1 := ho1
      rw [HM.out, eL_all, List.take_length] at h1
      have h2 := ho2
      rw [HM.out] at h2
      have HO1' := Lib.hid h1; have HO2' := Lib.hid h2
      clear h1 h2
      clear ho1 ho2 hb
      go_wp2_with fail
      go_ret3
      exact ⟨_, _, rfl, HO1'.out, HO2'.out, HBW.out⟩
end Go.Proofs.Ytdeplooijjfekaa
