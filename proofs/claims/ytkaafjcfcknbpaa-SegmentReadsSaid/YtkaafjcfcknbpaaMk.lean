import Derived.Test.YtkaafjcfcknbpaaMi
namespace Go.Proofs.Ytkaafjcfcknbpaa
open Go Go.RowKit Go.Sort

/-! SegmentReads. -/
def sgB (b : List UInt8) : List (List UInt8) := match headOf b with | .ok (_, K) => segB b K | .error _ => []
def sgG (b : List UInt8) : Int := match headOf b with | .ok _ => endF 14 (sgB b) | .error _ => 0
theorem sgB_ok {b : List UInt8} {N K : Nat} (h : headOf b = .ok (N, K)) : sgB b = segB b K := by unfold sgB; rw [h]
theorem sgB_err {b : List UInt8} {n : Nat} (h : headOf b = .error n) : sgB b = [] := by unfold sgB; rw [h]
theorem sgG_ok {b : List UInt8} {N K : Nat} (h : headOf b = .ok (N, K)) : sgG b = endF 14 (segB b K) := by unfold sgG; rw [h, sgB_ok h]
theorem sgG_err {b : List UInt8} {n : Nat} (h : headOf b = .error n) : sgG b = 0 := by unfold sgG; rw [h]
theorem read_uni (a : Option Addr) (m c : Nat) (b : List UInt8) (w : World) (N K : Nat) (g : Int) (E : Nat) (L : List (List UInt8)) (hm : m = b.length) (hr : Rd w w.heap.size a (bV b)) (hl : b.length ≤ 1000000000000) (hlc : m ≤ c) (hc : c ≤ maxLen)
    (hN : (hdOf (headOf b)).1 = N) (hK : (hdOf (headOf b)).2 = K) (hg : sgG b = g) (hE : hdErr (headOf b) = E) (hL : sgB b = L) :
    Calls Try.prog 9 #[.slice a m c] w fun e w' => ∃ (v : Value) (xs : List Bod), e = .returned (.tuple #[.agg (sgV N K v g (decide (0 < K) && decide (L.length = K))), .int .i64 (E : Int)]) ∧
      w'.ownsRow w.heap.size 23 1 v xs.length (xs.map Bod.v) ∧ (∀ x ∈ xs, BodAt w.heap.size x w') ∧ xs.map Bod.b = L ∧ Below w.heap.size w w' := by
  subst hm
  refine (read_any a c b w hr hl hlc hc).mono ?_
  rintro e w1 ⟨hb, (⟨n, hh, rfl⟩ | ⟨N', K', v, xs, hh, rfl, ho, hbod, hx⟩)⟩
  · rw [hh] at hN hK hE
    rw [sgG_err hh] at hg
    rw [sgB_err hh] at hL
    subst hN hK hg hE hL
    exact ⟨.slice none 0 0, [], rfl, World.ownsRow_nil _ _ _ _, fun _ h => absurd h (by simp), rfl, hb⟩
  · rw [hh] at hN hK hE
    rw [sgG_ok hh] at hg
    rw [sgB_ok hh] at hL
    obtain ⟨_, hk1, _, _⟩ := headOf_range hh
    have hk : decide (0 < K') = true := by simp; omega
    subst hN hK hg hE hL
    refine ⟨v, xs, ?_, ho, hbod, hx, hb⟩
    show _ = Ending.returned (.tuple #[.agg (sgV N' K' v _ (decide (0 < K') && decide ((segB b K').length = K'))), .int .i64 0])
    rw [hk, Bool.true_and]
theorem refRead_uni (t : ByteArray) (b : List UInt8) (w : World) (N K : Nat) (g : Int) (E : Nat) (L : List (List UInt8)) (ht : t = bs b) (hl : b.length ≤ 1000000000000)
    (hN : (hdOf (headOf b)).1 = N) (hK : (hdOf (headOf b)).2 = K) (hg : sgG b = g) (hE : hdErr (headOf b) = E) (hL : sgB b = L) :
    Calls Try.prog 11 #[.string t] w fun e w' => ∃ (v : Value), e = .returned (.tuple #[.agg (sgR N K v g), .int .i64 (E : Int)]) ∧
      w'.ownsRow w.heap.size 9 1 v L.length (sV L) ∧ Below w.heap.size w w' := by
  refine (refRead_any t b w ht hl).mono ?_
  rintro e w1 ⟨hb, (⟨n, hh, rfl⟩ | ⟨N', K', v, hh, rfl, ho⟩)⟩
  · rw [hh] at hN hK hE
    rw [sgG_err hh] at hg
    rw [sgB_err hh] at hL
    subst hN hK hg hE hL
    exact ⟨.slice none 0 0, rfl, World.ownsRow_nil _ _ _ _, hb⟩
  · rw [hh] at hN hK hE
    rw [sgG_ok hh] at hg
    rw [sgB_ok hh] at hL
    subst hN hK hg hE hL
    exact ⟨v, rfl, ho, hb⟩
theorem sgB_few (b : List UInt8) : (sgB b).length ≤ 65536 := by
  cases h : headOf b with
  | error n => rw [sgB_err h]; simp
  | ok x =>
    obtain ⟨N, K⟩ := x
    rw [sgB_ok h]
    have h1 : (segB b K).length ≤ (allF b K 14).length := (List.takeWhile_sublist _).length_le
    have h2 := all_take_len (b := b) (K := K)
    have := headOf_range h
    omega
theorem sgB_small (b : List UInt8) : ∀ x ∈ sgB b, x.length ≤ 2406 := by
  intro x hx
  cases h : headOf b with
  | error n => rw [sgB_err h] at hx; exact absurd hx (by simp)
  | ok y =>
    obtain ⟨N, K⟩ := y
    rw [sgB_ok h] at hx
    have h1 := List.takeWhile_subset _ hx
    exact (all_bounds x h1).2
set_option maxRecDepth 20000 in
set_option maxHeartbeats 2000000 in
theorem law_reads (a : Option Addr) (c : Nat) (b : List UInt8) (w : World) (hr : Rd w w.heap.size a (bV b)) (hlc : b.length ≤ c) (hc : c ≤ maxLen) :
    Calls Try.prog 4 #[.slice a b.length c] w fun e w' => e = .returned (.bool true) ∧ Below w.heap.size w w' := by
  have HR := Lib.hid hr; clear hr
  have HC := Lib.hid hc
  by_cases hlong : 6000 < b.length
  · go_enter Try.func4, Try.ntmps4
    go_wp2_with (go_at_call 10; refine (fixed7_any _).mono ?_; rintro e w' ⟨rfl, hb⟩)
    go_ret
    exact ⟨rfl, hb⟩
  obtain ⟨m, hm⟩ : ∃ m, m = b.length := ⟨_, rfl⟩
  have HM := Lib.hid hm
  rw [← hm] at hlong hlc ⊢
  have HLC := Lib.hid hlc
  have HLL : Hid (b.length ≤ 1000000000000) := by show _ ≤ _; omega
  clear hm hlc
  obtain ⟨N, hN⟩ : ∃ N, (hdOf (headOf b)).1 = N := ⟨_, rfl⟩
  obtain ⟨K, hK⟩ : ∃ K, (hdOf (headOf b)).2 = K := ⟨_, rfl⟩
  obtain ⟨g, hg⟩ : ∃ g, sgG b = g := ⟨_, rfl⟩
  obtain ⟨E, hE⟩ : ∃ E, hdErr (headOf b) = E := ⟨_, rfl⟩
  obtain ⟨L, hL⟩ : ∃ L, sgB b = L := ⟨_, rfl⟩
  have HLF : Hid (L.length ≤ 65536) := by show _ ≤ _; rw [← hL]; exact sgB_few b
  have HLS : Hid (∀ x ∈ L, x.length ≤ 2406) := by rw [← hL]; exact sgB_small b
  have HN := Lib.hid hN; have HK := Lib.hid hK; have HG := Lib.hid hg; have HE := Lib.hid hE; have HL := Lib.hid hL
  obtain ⟨r, hrr⟩ : ∃ r, r = (decide (0 < K) && decide (L.length = K)) := ⟨_, rfl⟩
  have HRR := Lib.hid hrr
  clear hN hK hg hE hL hrr
  have cv := run_string_of (w := w) (l := b) m c HR.out HM.out
  go_enter Try.func4, Try.ntmps4
  go_wp2_with fail
  refine (read_uni a m c b w N K g E L HM.out HR.out HLL.out HLC.out HC.out HN.out HK.out HG.out HE.out HL.out).mono ?_
  rintro e w1 ⟨v, xs, rfl, ho1, hbod, hx, hb1⟩
  rw [← HRR.out]
  obtain ⟨va, vc, rfl, _, _, _⟩ := own_slice ho1
  have HO1 := Lib.hid ho1; have HBD1 := Lib.hid hbod; have HX := Lib.hid hx; have HB1 := Lib.hid hb1
  have HXL : Hid (xs.length = L.length) := by show _ = _; rw [← hx, List.length_map]
  clear ho1 hbod hx hb1 cv
  unfold sgV
  go_wp2_with fail
  obtain ⟨w2, hw2⟩ : ∃ w2, w2 = w1.alloc (.cells #[.int .u32 (N : Int), .int .i64 (K : Int), .slice va xs.length vc, .int .i64 g, .bool r] 31) := ⟨_, rfl⟩
  have h12 : Below w1.heap.size w1 w2 := by rw [hw2]; exact box1 _ _
  have HS2 : Hid (w1.heap.size < w2.heap.size) := by show _ < _; rw [hw2]; simp
  have HRS : Hid (w2.rangeAt w1.heap.size 0 [.int .u32 (N : Int), .int .i64 (K : Int), .slice va xs.length vc, .int .i64 g, .bool r]) := by show World.rangeAt _ _ _ _; rw [hw2]; exact rangeAt_last w1 _ _ _ rfl
  rw [← hw2]
  clear hw2
  have HO2 := Lib.hid (own_below HO1.out h12); have HBD2 : Hid (∀ x ∈ xs, BodAt w.heap.size x w2) := fun x hx => (HBD1.out x hx).below h12
  have HB2 := Lib.hid (bel2 HB1.out h12)
  clear h12
  refine (refRead_uni _ b w2 N K g E L rfl HLL.out HN.out HK.out HG.out HE.out HL.out).mono ?_
  rintro e w3 ⟨vr, rfl, ho3, hb3⟩
  obtain ⟨ra, rc, rfl, _, _, _⟩ := own_slice ho3
  have HO3 := Lib.hid (own_below HO2.out hb3); have HBD3 : Hid (∀ x ∈ xs, BodAt w.heap.size x w3) := fun x hx => (HBD2.out x hx).below hb3
  have HRS3 := Lib.hid (range_below HRS.out hb3 HS2.out); have HS3 : Hid (w1.heap.size < w3.heap.size) := Nat.lt_of_lt_of_le HS2.out hb3.size
  have HB3 := Lib.hid (bel2 HB2.out hb3); have HQ3 := Lib.hid ho3
  clear hb3 ho3
  have k0 : ∀ o : Obj, (w3.alloc o).cell? ⟨w1.heap.size, 0, none⟩ = some (.int .u32 (N : Int)) := fun o => World.rangeAt_alloc HRS3.out o 0 _ rfl
  have k1 : ∀ o : Obj, (w3.alloc o).cell? ⟨w1.heap.size, 1, none⟩ = some (.int .i64 (K : Int)) := fun o => World.rangeAt_alloc HRS3.out o 1 _ rfl
  have k2 : ∀ o : Obj, (w3.alloc o).cell? ⟨w1.heap.size, 2, none⟩ = some (.slice va xs.length vc) := fun o => World.rangeAt_alloc HRS3.out o 2 _ rfl
  have k3 : ∀ o : Obj, (w3.alloc o).cell? ⟨w1.heap.size, 3, none⟩ = some (.int .i64 g) := fun o => World.rangeAt_alloc HRS3.out o 3 _ rfl
  have k4 : ∀ o : Obj, (w3.alloc o).cell? ⟨w1.heap.size, 4, none⟩ = some (.bool r) := fun o => World.rangeAt_alloc HRS3.out o 4 _ rfl
  unfold sgR
  go_wp2_with fail
  obtain ⟨w4, hw4⟩ : ∃ w4, w4 = w3.alloc (.cells #[.int .u32 (N : Int), .int .i64 (K : Int), .slice ra L.length rc, .int .i64 g] 38) := ⟨_, rfl⟩
  have h34 : Below w3.heap.size w3 w4 := by rw [hw4]; exact box1 _ _
  rw [← hw4]
  clear hw4 k0 k1 k2 k3 k4
  have HO4 := Lib.hid (own_below HO3.out h34); have HBD4 : Hid (∀ x ∈ xs, BodAt w.heap.size x w4) := fun x hx => (HBD3.out x hx).below h34
  have HRS4 := Lib.hid (range_below HRS3.out h34 HS3.out); have HS4 : Hid (w1.heap.size < w4.heap.size) := Nat.lt_of_lt_of_le HS3.out h34.size
  have HB4 := Lib.hid (bel2 HB3.out h34); have HQ4 := Lib.hid (own_below HQ3.out h34)
  clear h34
  refine (same7_is N K va ra xs.length L.length vc rc w.heap.size xs g r w4 rfl HXL.out.symm (by rw [HRR.out, HXL.out]) (Rd.own HO4.out) (by rw [HX.out]; exact Rd.own HQ4.out) HBD4.out (by rw [HXL.out]; have := HLF.out; omega)).mono ?_
  rintro e w5 ⟨rfl, hb5⟩
  have HBD5 : Hid (∀ x ∈ xs, BodAt w.heap.size x w5) := fun x hx => (HBD4.out x hx).below hb5
  have HB5 := Lib.hid (bel2 HB4.out hb5)
  have k2 : w5.cell? ⟨w1.heap.size, 2, none⟩ = some (.slice va xs.length vc) := range_below HRS4.out hb5 HS4.out 2 _ rfl
  have HG5 : Hid (GetsI w (xs.map Bod.v) va (xs.map Bod.v) w5.heap.size w5) := by
    refine ⟨HB5.out, fun v hv => ?_, Rd.own (own_below HO4.out hb5)⟩
    obtain ⟨x, hx, rfl⟩ := List.mem_map.1 hv
    exact U8s.of (HBD5.out x hx)
  have HSL : Hid (∀ v ∈ xs.map Bod.v, ∃ a n c, v = .slice a n c) := by
    intro v hv
    obtain ⟨x, hx, rfl⟩ := List.mem_map.1 hv
    obtain ⟨a, c, h, _⟩ := own_slice (HBD5.out x hx)
    exact ⟨a, _, c, h⟩
  clear hb5
  have hXL : xs.length ≤ 65536 := by rw [HXL.out]; exact HLF.out
  go_wp2_with fail
  clear k2
  go_loopw [39] (fun i wr => ∃ j : Nat, j ≤ xs.length ∧ i = .int .i64 j ∧ GetsI w (xs.map Bod.v) va (xs.map Bod.v) w5.heap.size wr) (fun i _ => xs.length - (intOf i).toNat)
  case atStart => exact ⟨0, Nat.zero_le _, rfl, HG5.out⟩
  case round =>
    obtain ⟨j, hj, rfl, hgi2⟩ := hrel
    have HGI := Lib.hid hgi2
    clear hgi2
    by_cases hlt : j < xs.length
    · obtain ⟨lb, lo, rfl, hlb, hlc2⟩ := HGI.out.2.2 (by rw [List.length_map]; omega)
      obtain ⟨x, hx⟩ : ∃ x, xs[j] = x := ⟨_, rfl⟩
      have hxm : x ∈ xs := by rw [← hx]; exact List.getElem_mem _
      have qx : wr.cell? ⟨lb, lo + j, none⟩ = some x.v := hlc2 j _ (by rw [List.getElem?_map, List.getElem?_eq_getElem hlt, hx]; rfl)
      obtain ⟨xa, xc, hxv, _, _, _⟩ := own_slice (HBD5.out x hxm)
      rw [hxv] at qx
      obtain ⟨nb, hnb⟩ : ∃ nb, nb = x.b.length := ⟨_, rfl⟩
      have hnbl : nb ≤ 1000000000000 := by
        have hin : x.b ∈ L := by rw [← HX.out]; exact List.mem_map.2 ⟨x, hxm, rfl⟩
        have := HLS.out x.b hin
        omega
      have HXM : Hid (Value.slice xa nb xc ∈ xs.map Bod.v) := List.mem_map.2 ⟨x, hxm, by rw [hnb]; exact hxv⟩
      rw [← hnb] at qx
      have HLT := Lib.hid hlt
      clear hlc2 hx hxm hxv hnb
      go_wp2_with fail
      go_loopw [45] (fun i wr => ∃ t : Nat, t ≤ nb ∧ i = .int .i64 t ∧ GetsI w (xs.map Bod.v) (some ⟨lb, lo, none⟩) (xs.map Bod.v) w5.heap.size wr) (fun i _ => nb - (intOf i).toNat)
      case atStart => exact ⟨0, Nat.zero_le _, rfl, HGI.out⟩
      case round =>
        obtain ⟨t, ht, rfl, hgi3⟩ := hrel
        have HGJ := Lib.hid hgi3
        clear hgi3
        by_cases htl : t < nb
        · obtain ⟨_, _, _, he, hcc⟩ := HGJ.out.2.1 _ HXM.out
          injection he with e1 e2 e3
          subst e1 e2 e3
          obtain ⟨g, rfl, hg, ⟨y, hy⟩, hf⟩ := hcc t htl
          have HST := Lib.hid (fun z => HGJ.out.set HSL.out hg hy z)
          have HY : Hid ((((y + 1 : UInt8).toNat : Nat) : Int) = ((y.toNat : Int) + 1) % 256) := by show _ = _; simp
          have HTL := Lib.hid htl
          clear hcc
          go_wp2_with fail
          rw [← HY.out]
          go_roundw
          case rel => exact ⟨t + 1, HTL.out, by go_num, HST.out _⟩
          case measure => have := HTL.out; simp [intOf]; omega
        · have : t = nb := by omega
          subst this
          go_wp2_with fail
          go_roundw
          case rel => exact ⟨j + 1, HLT.out, by go_num, HGJ.out⟩
          case measure => have := HLT.out; simp [intOf]; omega
    · have : j = xs.length := by omega
      subst this
      clear hlt hj
      go_wp2_with fail
      refine (fixed7_any _).mono ?_; rintro e w6 ⟨rfl, hb6⟩
      have HB6 : Hid (Below w.heap.size w w6) := bel2 HGI.out.1 hb6
      have cv := run_string_of (w := w6) (l := b) m c ((HR.out.below HB6.out).more HB6.out.size) HM.out
      clear hb6
      go_wp2_with fail
      go_ret
      exact ⟨rfl, HB6.out⟩
end Go.Proofs.Ytkaafjcfcknbpaa
