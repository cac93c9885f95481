import Derived.Test.YtkaafjcfcknbpaaWp
namespace Go.Proofs.Ytkaafjcfcknbpaa
open Go Go.RowKit

set_option maxRecDepth 20000
/-- What countOf answers: how many spans, or the error's number. -/
def CountOut (w : World) (b : List UInt8) (e : Ending) (w' : World) : Prop :=
  (∃ n : Nat, e = .returned (.tuple #[.int .i64 (n : Int), .int .i64 0]) ∧ getW b = spansTo b n ∧ b.length = 6 + 75 * n ∧ 1 ≤ n ∧ n ≤ 32 ∧ w = w') ∨
  (∃ k : Nat, e = .returned (.tuple #[.int .i64 0, .int .i64 (k : Int)]) ∧ getW b = .error k ∧ k ≠ 0 ∧ w = w')
theorem get_is (a : Option Addr) (c : Nat) (b : List UInt8) (p k : Nat) (w : World) (hr : Rd w w.heap.size a (bV b)) (hl : b.length ≤ 1000000000000) (hk : cnt (k : Int) = k) (hk8 : k ≤ 8) (hp : p + k ≤ b.length) (G : Nat) (hG : gN b p k = G) :
    Calls Try.prog 43 #[.slice a b.length c, .int .i64 (p : Int), .int .i64 (k : Int)] w fun e w' => e = .returned (.tuple #[.int .u64 (G : Int), .bool true]) ∧ w = w' := by
  have h := get_any a c b (p : Int) (k : Int) w hr hl (by omega) (by omega) (by omega) (by omega)
  rw [getR_yes (by rw [hk]; omega), hk, Int.toNat_natCast, hG] at h
  exact h
set_option maxHeartbeats 4000000 in
theorem countOf_any (a : Option Addr) (c : Nat) (b : List UInt8) (w : World) (hr : Rd w w.heap.size a (bV b)) (hl : b.length ≤ 1000000000000) (hlc : b.length ≤ c) (hc : c ≤ maxLen) :
    Calls Try.prog 35 #[.slice a b.length c] w (CountOut w b) := by
  have HR := Lib.hid hr; clear hr
  unfold maxLen at hc
  by_cases h6 : b.length < 6
  · have HE := Lib.hid (getW_short h6)
    go_enter Try.func35, Try.ntmps35
    go_wp2_with fail
    go_ret2
    exact .inr ⟨2, rfl, HE.out, by omega, rfl⟩
  have e4 : (ByteArray.mk #[83, 80, 65, 78]).toList = [83, 80, 65, 78] := by rw [ByteArray.toList_eq]
  have hcv := run_string_of (w := w) (l := b.take 4) 4 c (by rw [bV_take]; exact HR.out.take 4) (by rw [List.length_take]; omega)
  have i1 : (4 : Int) ≤ (c : Int) := by omega
  obtain ⟨N, hN⟩ : ∃ N, gN b 4 2 = N := ⟨_, rfl⟩
  have hN16 : N < 65536 := by have := gN_lt b 4 2; omega
  have hw : IntKind.i64.wrap (N : Int) = (N : Int) := i64_small (by omega)
  have HN := Lib.hid hN
  by_cases h4 : b.take 4 = letL
  case neg =>
    have HE := Lib.hid (getW_letters h6 h4)
    obtain ⟨t1, t2⟩ := str_eq (x := bs (b.take 4)) (y := ByteArray.mk #[83, 80, 65, 78]) (b := false) (by
      have : ¬ bs (b.take 4) = ByteArray.mk #[83, 80, 65, 78] := fun e => h4 (bs_inj e)
      simp [this])
    have t3 : ((bs (b.take 4)).toList != [83, 80, 65, 78]) = true := by rw [bne, ← e4, t1]; rfl
    rw [e4] at t1
    clear t2 e4
    clear h4 hN
    generalize b.take 4 = B4 at hcv t1 t3
    go_enter Try.func35, Try.ntmps35
    go_wp2_with fail
    refine (get_is a c b 4 2 _ HR.out hl rfl (by omega) (by omega) N HN.out).mono ?_; rintro e w2 ⟨rfl, rfl⟩
    go_wp2_with fail
    go_ret2
    exact .inr ⟨3, rfl, HE.out, by omega, rfl⟩
  obtain ⟨t1, t2⟩ := str_eq (x := bs (b.take 4)) (y := ByteArray.mk #[83, 80, 65, 78]) (b := true) (by rw [h4]; decide)
  have t3 : ((bs (b.take 4)).toList != [83, 80, 65, 78]) = false := by rw [bne, ← e4, t1]; rfl
  rw [e4] at t1
  clear t2 e4
  by_cases hin : 1 ≤ N ∧ N ≤ 32
  case neg =>
    have HE := Lib.hid (getW_count h6 h4 (by omega))
    have HC : Hid ((decide (1 ≤ N) && decide (N ≤ 32)) = false) := by
      show _ = _
      by_cases h1 : 1 ≤ N
      · simp [h1]; omega
      · simp [h1]
    clear h4 hN
    generalize b.take 4 = B4 at hcv t1 t3
    go_enter Try.func35, Try.ntmps35
    go_wp2_with fail
    refine (get_is a c b 4 2 _ HR.out hl rfl (by omega) (by omega) N HN.out).mono ?_; rintro e w2 ⟨rfl, rfl⟩
    go_wp2_with fail
    refine (countMay_is N false HC.out _).mono ?_; rintro e w3 ⟨rfl, rfl⟩
    go_wp2_with fail
    go_ret2
    exact .inr ⟨3, rfl, HE.out, by omega, rfl⟩
  obtain ⟨hin1, hin2⟩ := hin
  have HC : Hid ((decide (1 ≤ N) && decide (N ≤ 32)) = true) := by show _ = _; simp [hin1, hin2]
  obtain ⟨sz, hsz⟩ : ∃ sz, 6 + 75 * N = sz := ⟨_, rfl⟩
  by_cases hless : b.length < sz
  · have HE := Lib.hid (getW_less h6 h4 (by omega) (by omega))
    have HSZ := Lib.hid hsz
    clear hsz
    clear h4 hN
    generalize b.take 4 = B4 at hcv t1 t3
    go_enter Try.func35, Try.ntmps35
    go_wp2_with fail
    refine (get_is a c b 4 2 _ HR.out hl rfl (by omega) (by omega) N HN.out).mono ?_; rintro e w2 ⟨rfl, rfl⟩
    go_wp2_with fail
    refine (countMay_is N true HC.out _).mono ?_; rintro e w3 ⟨rfl, rfl⟩
    go_wp2_with fail
    refine (batchSize_is N sz HSZ.out _ (by omega)).mono ?_; rintro e w4 ⟨rfl, rfl⟩
    go_wp2_with fail
    go_ret2
    exact .inr ⟨2, rfl, HE.out, by omega, rfl⟩
  by_cases hgreat : sz < b.length
  · have HE := Lib.hid (getW_great h6 h4 (by omega) (by omega))
    have HSZ := Lib.hid hsz
    clear hsz
    clear h4 hN
    generalize b.take 4 = B4 at hcv t1 t3
    go_enter Try.func35, Try.ntmps35
    go_wp2_with fail
    refine (get_is a c b 4 2 _ HR.out hl rfl (by omega) (by omega) N HN.out).mono ?_; rintro e w2 ⟨rfl, rfl⟩
    go_wp2_with fail
    refine (countMay_is N true HC.out _).mono ?_; rintro e w3 ⟨rfl, rfl⟩
    go_wp2_with fail
    refine (batchSize_is N sz HSZ.out _ (by omega)).mono ?_; rintro e w4 ⟨rfl, rfl⟩
    go_wp2_with fail
    refine (batchSize_is N sz HSZ.out _ (by omega)).mono ?_; rintro e w4 ⟨rfl, rfl⟩
    go_wp2_with fail
    go_ret2
    exact .inr ⟨3, rfl, HE.out, by omega, rfl⟩
  · have HLEN : Hid (b.length = 6 + 75 * N) := by show _ = _; omega
    have HE := Lib.hid (getW_fit h6 h4 (by omega) (by omega))
    rw [hN] at HE
    have HSZ := Lib.hid hsz
    clear hsz
    clear h4 hN
    generalize b.take 4 = B4 at hcv t1 t3
    go_enter Try.func35, Try.ntmps35
    go_wp2_with fail
    refine (get_is a c b 4 2 _ HR.out hl rfl (by omega) (by omega) N HN.out).mono ?_; rintro e w2 ⟨rfl, rfl⟩
    go_wp2_with fail
    refine (countMay_is N true HC.out _).mono ?_; rintro e w3 ⟨rfl, rfl⟩
    go_wp2_with fail
    refine (batchSize_is N sz HSZ.out _ (by omega)).mono ?_; rintro e w4 ⟨rfl, rfl⟩
    go_wp2_with fail
    refine (batchSize_is N sz HSZ.out _ (by omega)).mono ?_; rintro e w4 ⟨rfl, rfl⟩
    go_wp2_with fail
    go_ret2
    exact .inl ⟨N, rfl, HE.out, HLEN.out, by omega, by omega, rfl⟩
theorem own_there {w : World} {base : Nat} {e : TypeId} {size n g c : Nat} {xs : List Value} (h : w.ownsRow base e size (.slice (some ⟨g, 0, none⟩) n c) n xs) : w.there g 0 (n * size) := by
  rcases h.2 with ⟨hv, _⟩ | ⟨g', cap, cur, hv, hb, hg, hnc, hcm, hcs, ht⟩
  · cases hv
  · obtain ⟨rfl, rfl⟩ : g = g' ∧ c = cap := by injection hv; simp_all
    intro j hj
    have hj' : j < cur.size := by rw [hcs]; exact Nat.lt_of_lt_of_le hj (Nat.mul_le_mul_right _ hnc)
    rw [Nat.zero_add]
    exact ⟨by rw [cell_of_row _ _ j _ _ _ hg]; simp [hj'], frozen_of_row w g j cur e hg⟩
theorem there_part {w : World} {b o n o' m : Nat} (h : w.there b o n) (h1 : o ≤ o') (h2 : o' + m ≤ o + n) : w.there b o' m := fun j hj => by
  have := h (o' - o + j) (by omega)
  rwa [show o + (o' - o + j) = o' + j by omega] at this
theorem range_below {w w' : World} {B b o : Nat} {cs : List Value} (h : w.rangeAt b o cs) (hb : RowKit.Below B w w') (hB : b < B) : w'.rangeAt b o cs := fun j v hv => by
  rw [hb.cell (p := ⟨b, o + j, none⟩) hB]; exact h j v hv
/-- Cells that are stored behind others. -/
theorem range_next {w : World} {b : Nat} {cs vs : List Value} (h : w.rangeAt b 0 cs) (ht : w.there b cs.length vs.length) : (w.setCells b cs.length vs).rangeAt b 0 (cs ++ vs) := fun j v hv => by
  by_cases hj : j < cs.length
  · rw [List.getElem?_append_left hj] at hv
    exact World.rangeAt_setCells_apart h b cs.length vs (.inr (.inl (by omega))) j v hv
  · rw [List.getElem?_append_right (by omega)] at hv
    have := World.rangeAt_setCells_same w b cs.length vs ht (j - cs.length) v hv
    rwa [show cs.length + (j - cs.length) = 0 + j by omega] at this
theorem Rd.range {w : World} {b : Nat} {cs : List Value} (h : w.rangeAt b 0 cs) (hb : b < w.heap.size) : Rd w w.heap.size (some ⟨b, 0, none⟩) cs := fun _ => ⟨b, 0, rfl, hb, fun j u hu => h j u hu⟩
theorem size_setCells (b : Nat) : ∀ (vs : List Value) (o : Nat) (w : World), (w.setCells b o vs).heap.size = w.heap.size
  | [], _, _ => rfl
  | v :: r, o, w => by rw [World.setCells, size_setCells b r (o + 1)]; simp
set_option maxRecDepth 20000 in
set_option maxHeartbeats 4000000 in
theorem getW_any (a : Option Addr) (c : Nat) (b : List UInt8) (w : World) (hr : Rd w w.heap.size a (bV b)) (hl : b.length ≤ 1000000000000) (hlc : b.length ≤ c) (hc : c ≤ maxLen) :
    Calls Try.prog 16 #[.slice a b.length c] w (SpansOut w (getW b)) := by
  have HR := Lib.hid hr; have HC := Lib.hid hc; clear hr hc
  obtain ⟨i0, hi0, hz0, hz1, hz2⟩ := info_parts info_sp
  have HZ2 := Lib.hid hz2; clear hz2
  go_enter Try.func16, Try.ntmps16
  go_wp2_with fail
  refine (countOf_any a c b _ HR.out hl hlc HC.out).mono ?_
  rintro e w1 (⟨N, rfl, hg, hlen, hn1, hn2, rfl⟩ | ⟨k, rfl, hg, hk, rfl⟩)
  case inr =>
    have HG := Lib.hid hg
    have hk' : ((k : Int) != 0) = true := by simp; omega
    clear hg hk
    go_wp2_with fail
    go_ret2
    exact SpansOut.no HG.out (Below.refl _ _)
  have HG := Lib.hid hg; have HLEN := Lib.hid hlen
  clear hg hlen
  go_wp2_with (refine wpList_make_room _ rfl (.tmp 16) (.tmp 16) 46 rfl w.heap.size 54 i0 _ 8 Try.underlying46 hi0 hz0 hz1 .i64 .i64 _ _ N N rfl rfl rfl rfl (Nat.le_refl _) (by rw [HZ2.out]; omega) (by unfold maxLen; omega) (Nat.le_refl _) ?_
               intro w2 hown2 hb2
               have HT2 := Lib.hid (own_there hown2); have HB2 := Lib.hid hb2
               have HS2 : Hid (w.heap.size < w2.heap.size) := (own_shape hown2 rfl).2.1
               clear hown2 hb2)
  obtain ⟨g, hg⟩ : ∃ g, g = w.heap.size := ⟨_, rfl⟩
  rw [← hg]
  rw [← hg] at HT2
  have HGW := Lib.hid hg
  have HS2' : Hid (g < w2.heap.size) := by show _ < _; rw [hg]; exact HS2.out
  clear hg HS2
  go_loopw [5, 20] (fun _ i wr => ∃ (k : Nat) (l : List Sp), k ≤ N ∧ i = .int .i64 k ∧ l.length = k ∧ wr.there g 0 (N * 8) ∧ wr.rangeAt g 0 (flatL l) ∧ g < wr.heap.size ∧ spansTo b k = .ok l ∧ RowKit.Below w.heap.size w wr) (fun _ i _ => N - (intOf i).toNat)
  case atStart => exact ⟨0, [], Nat.zero_le _, rfl, rfl, HT2.out, fun j v hv => (by simp [flatL] at hv), HS2'.out, rfl, HB2.out⟩
  case round =>
    obtain ⟨k, l, hk, rfl, hlk, hth, hra, hgs, hsp, hbw⟩ := hrel
    have HLK := Lib.hid hlk; have HT := Lib.hid hth; have HA := Lib.hid hra; have HGS := Lib.hid hgs; have HL := Lib.hid hsp; have HW := Lib.hid hbw; clear hlk hth hra hgs hsp hbw
    by_cases hlt : k < N
    · have hkN : (k : Int) < (N : Int) := by omega
      have i1 : (0 : Int) ≤ (k : Int) := by omega
      obtain ⟨q, hq⟩ : ∃ q, 6 + 75 * k = q := ⟨_, rfl⟩
      have HQ := Lib.hid hq
      have hq75 : q + 75 ≤ b.length := by have := HLEN.out; omega
      clear hq
      go_wp2_with fail
      refine (batchSize_is k q HQ.out _ (by omega)).mono ?_; rintro e w4 ⟨rfl, rfl⟩
      go_wp2_with fail
      refine (spanAt_any a c b q wr ((HR.out.below HW.out).more HW.out.size) hl hlc HC.out hq75).mono ?_
      rintro e w5 (⟨s, hs, rfl, hb5⟩ | ⟨n, s, hs, rfl, hb5⟩)
      · have HS := Lib.hid hs
        have HW5 := Lib.hid (bel2 HW.out hb5)
        have HT5 := Lib.hid (there_below HT.out hb5 HGS.out)
        have HA5 := Lib.hid (range_below HA.out hb5 HGS.out)
        have HG5 : Hid (g < w5.heap.size) := Nat.lt_of_lt_of_le HGS.out hb5.size
        have HTK : Hid (w5.there g (k * 8) 8) := there_part HT5.out (Nat.zero_le _) (by omega)
        clear hs hb5
        unfold Sp.v
        go_wp2_with (refine wpList_store_mid rfl 54 (.tmp 32) (.tmp 30) rfl g (k * 8) s.c ?hx ?hy ?ht ?hi ?h1 ?h
                     case hx => rfl
                     case hy => rfl
                     case ht => exact HTK.out
                     case hi => exact size_sp
                     case h1 => exact sp_one _)
        go_roundw
        case rel =>
          refine ⟨k + 1, l ++ [s], by omega, by go_num, by rw [List.length_append, HLK.out]; rfl, World.there_setCells HT5.out _ _ _, ?_, by rw [size_setCells]; exact HG5.out, spansTo_next HL.out (by rw [HQ.out]; exact HS.out), Below_setCells (by rw [HGW.out]; exact Nat.le_refl _) _ _ _ HW5.out⟩
          have h := range_next (vs := s.c.toList) HA5.out (by rw [flatL_length, HLK.out]; exact HTK.out)
          rw [flatL_length, HLK.out] at h
          rw [flatL_append]
          simpa [flatL] using h
        case measure => simp [intOf]; omega
      · have HS := Lib.hid hs
        have HE := Lib.hid (spansTo_err HL.out hlt (by rw [HQ.out]; exact hs))
        have hn0 : ((n : Int) != 0) = true := by have := spanAt_err hs; simp; omega
        have HW5 := Lib.hid (bel2 HW.out hb5)
        have HTK : Hid (w5.there g (k * 8) 8) := there_part (there_below HT.out hb5 HGS.out) (Nat.zero_le _) (by omega)
        clear hs hb5
        unfold Sp.v
        go_wp2_with (refine wpList_store_mid rfl 54 (.tmp 32) (.tmp 30) rfl g (k * 8) s.c ?hx ?hy ?ht ?hi ?h1 ?h
                     case hx => rfl
                     case hy => rfl
                     case ht => exact HTK.out
                     case hi => exact size_sp
                     case h1 => exact sp_one _)
        go_ret2
        exact SpansOut.no (by rw [HG.out]; exact HE.out) (Below_setCells (by rw [HGW.out]; exact Nat.le_refl _) _ _ _ HW5.out)
    · have : k = N := by omega
      subst this
      go_wp2_with fail
      go_ret2
      rw [HG.out, HL.out]
      exact ⟨some ⟨g, 0, none⟩, k, by rw [show (lstW (Except.ok (ε := Nat) l)).length = k from HLK.out]; rfl, by show l.length ≤ k; rw [HLK.out]; exact Nat.le_refl _, by unfold maxLen; omega, Rd.range HA.out HGS.out, HW.out⟩
end Go.Proofs.Ytkaafjcfcknbpaa

/-! Here putW_any (text Wn) and getW_any (text Wr) are at hand: what a seat's own code has to pay; the texts Wh .. Wk go over these two alone. -/

