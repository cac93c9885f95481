import Derived.Test.YteaafjkgopmmdaaEd
import Derived.Test.YteaafjkgopmmdaaGv
import Derived.Test.YteaafjkgopmmdaaGn
import Derived.Test.YteaafjkgopmmdaaGk
namespace Go.Proofs.Yteaafjkgopmmdaa
open Go Go.RowKit Go.Sort Go.Maps
set_option maxRecDepth 20000
set_option linter.unusedVariables false

/-! The landed code of stage 13: the hosts' numbers; Of; Great. -/
theorem lawS13 : Keyed Try.prog 9 := string_keyed Try.underlying9
theorem keyOf_S13 {s : ByteArray} (h : s.size ≤ maxLen) : keyOf Try.prog 9 (.string s) = some (keyS (txt s)) := Go.WideMaps.keyOf_string_mk (s := s) Try.underlying9 h
theorem zero_int13 (w : World) : (zeroValue 3).run Try.prog w = .ok (.int .i64 0) w := by kernel_rfl
theorem MapG.run_put13 {α : Type} {P : Program} {tk t e : TypeId} {κ : α → Lit} {w : World} {b n : Nat} {f : α → Option Value} [DecidableEq α] (h : MapG P tk κ w b n f) (K : Keyed P tk) (ht : P.underlying t = some (.map tk e)) (hi : ∀ x y, κ x = κ y → x = y) (hl : ∀ x, WideAt.IsKeyLit (κ x)) (hn : n < maxLen) {key : Value} {y : α} (hkey : keyOf P tk key = some (κ y)) (v : Value) :
    ∃ w', (Instr.mapUpdate t (.map (some b)) key v).run P w = .ok () w' ∧ MapG P tk κ w' b (n + 1) (fun x => if x = y then some v else f x) ∧ w.grownBy w' (some b) := by
  obtain ⟨D, h1, h2, h3⟩ := h
  obtain ⟨w', hrun, ho, hg⟩ := h1.update K ht hn hkey (show anyR v = some (.held v, []) from rfl)
  exact ⟨w', hrun, MapG.put h1.isMap h2 h3 hi hl ho, hg⟩
/-- The number of each host, as far as it is below n. -/
def numF (K : List Tx) (n : Nat) (x : Tx) : Option Value := if 0 ≤ placeL K x ∧ placeL K x < (n : Int) then some (.int .i64 (placeL K x)) else none
theorem place_iff {K : List Tx} (hK : K.Nodup) {k : Nat} (h : k < K.length) (x : Tx) : placeL K x = (k : Int) ↔ x = K[k] := by
  constructor
  · intro e
    have hx : x ∈ K := by
      refine Classical.byContradiction fun hx => ?_
      have := (placeL_neg K x).2 hx
      omega
    obtain ⟨j, hj, h1, h2⟩ := place_get K x 0 hx
    have h1 : placeL K x = ((0 + j : Nat) : Int) := h1
    obtain rfl : j = k := by omega
    exact h2.symm
  · rintro rfl
    obtain ⟨j, hj, h1, h2⟩ := place_get K K[k] 0 (List.getElem_mem h)
    have h1 : placeL K K[k] = ((0 + j : Nat) : Int) := h1
    have hp := List.pairwise_iff_getElem.1 hK
    rcases Nat.lt_trichotomy j k with c | c | c
    · exact absurd h2 (hp j k hj h c)
    · omega
    · exact absurd h2.symm (hp k j h hj c)
theorem numF_zero (K : List Tx) (x : Tx) : none = numF K 0 x := by
  unfold numF; rw [if_neg (by omega)]
theorem numF_next {K : List Tx} (hK : K.Nodup) {k : Nat} (h : k < K.length) (x : Tx) : (if x = K[k] then some (.int .i64 (k : Int)) else numF K k x) = numF K (k + 1) x := by
  have hi := place_iff hK h x
  unfold numF
  by_cases e : x = K[k]
  · have := hi.2 e
    rw [if_pos e, if_pos (by omega), this]
  · have hne : placeL K x ≠ (k : Int) := fun h => e (hi.1 h)
    rw [if_neg e]
    by_cases h2 : 0 ≤ placeL K x ∧ placeL K x < (k : Int)
    · rw [if_pos h2, if_pos (by omega)]
    · rw [if_neg h2, if_neg (by omega)]
theorem numF_all {K : List Tx} (x : Tx) : numF K K.length x = if x ∈ K then some (.int .i64 (placeL K x)) else none := by
  have h1 := placeL_neg K x
  have h2 := placeF_range K x 0
  have h2 : placeL K x < ((0 : Nat) : Int) + K.length := h2.2
  unfold numF
  by_cases e : x ∈ K
  · rw [if_pos e, if_pos (by
      constructor
      · exact Int.not_lt.1 fun h => (h1.1 h) e
      · omega)]
  · rw [if_neg e, if_neg (by have := h1.2 e; omega)]
theorem host_size {L : List Sp} (hok : ∀ s ∈ L, s.Ok) {X : ByteArray} {k : Nat} (h : k < (hostsL L).length) (e : (hostsL L)[k] = txt X) : X.size ≤ maxLen := by
  have := ((onceL_once (L.map hostT)).2 _).1 (List.getElem_mem (l := hostsL L) h)
  rw [e] at this
  obtain ⟨s, hs, h1⟩ := List.mem_map.1 this
  rw [← txt_inj h1]
  exact (hok s hs).host
theorem own_ne13 {w : World} {base : Nat} {e : TypeId} {size n b : Nat} {v : Value} {xs : List Value} (h : w.ownsRow base e size v n xs) (hb : b < base) : v.ownBlock = none ∨ v.ownBlock ≠ some b := by
  cases hk : v.ownBlock with
  | none => exact .inl rfl
  | some g =>
    refine .inr fun e => ?_
    have := (own_shape h hk).1
    injection e with e; omega
set_option maxHeartbeats 4000000 in
theorem numbers_any (a : Option Addr) (c : Nat) (L : List Sp) (w : World) (ha : Rd w w.heap.size a (flatL L)) (hl : L.length ≤ 100000) (hok : ∀ s ∈ L, s.Ok) :
    Calls Try.prog 33 #[.slice a L.length c] w fun e w' => e = .returned (.map (some w.heap.size)) ∧ MapG Try.prog 9 keyS w' w.heap.size (hostsL L).length (numF (hostsL L) (hostsL L).length) ∧ Below w.heap.size w w' := by
  have HA := Lib.hid ha; have HOK := Lib.hid hok; clear ha hok
  have hhl := hosts_length L
  have HND := Lib.hid (hosts_nodup L)
  have HSZ : Hid (∀ X k (h : k < (hostsL L).length), (hostsL L)[k] = txt X → X.size ≤ maxLen) := fun X k h e => host_size HOK.out h e
  have HHO : Hid (∀ w, Rd w w.heap.size a (flatL L) → Calls Try.prog 39 #[.slice a L.length c] w fun e w' => ∃ v, e = .returned v ∧ w'.ownsRow w.heap.size 9 1 v (hostsL L).length (strV (hostsL L)) ∧ Below w.heap.size w w') := fun w h => hosts_any a c L w h hl
  generalize hostsL L = K at *
  have hmm := @run_makeMap Try.prog
  go_enter Try.func33, Try.ntmps33
  go_wp2_with (go_at_call 39
               refine (HHO.out (w.alloc (.map #[] 0)) ((HA.out.below (box1 w _)).more (by simp))).mono ?_
               rintro e w1 ⟨vh, rfl, hh, hb1⟩
               obtain ⟨ah, ch, rfl, _, _, _⟩ := own_slice hh
               have HM1 := Lib.hid ((MapG.new (P := Try.prog) (tk := 9) (κ := keyS) w).below hb1)
               have HH1 := Lib.hid hh; have HB1 := Lib.hid (bel2 (box1 w (.map #[] 0)) hb1); clear hh hb1)
  clear hmm
  have HH2 : Hid (w1.ownsRow (w.heap.size + 1) 9 1 (.slice ah K.length ch) K.length (strV K)) := own_base HH1.out (by simp)
  clear HH1
  go_loopw [10] (fun i wr => ∃ n : Nat, n ≤ K.length ∧ i = .int .i64 n ∧ MapG Try.prog 9 keyS wr w.heap.size n (numF K n) ∧ wr.ownsRow (w.heap.size + 1) 9 1 (.slice ah K.length ch) K.length (strV K) ∧ Below w.heap.size w wr) (fun i _ => K.length - (intOf i).toNat)
  case atStart => exact ⟨0, Nat.zero_le _, rfl, HM1.out.same (fun x => numF_zero K x), HH2.out, HB1.out⟩
  clear HM1 HH2 HB1
  case round =>
    obtain ⟨n, hn, rfl, hm, ho, hb⟩ := hrel
    have HM := Lib.hid hm; have HO := Lib.hid ho; have HB := Lib.hid hb; clear hm ho hb
    generalize wr = W1 at *
    by_cases hlt : n < K.length
    · obtain ⟨b2, o2, X, ha2, _, d0, hX⟩ := (Rd.own HO.out).str hlt
      subst ha2
      have hxs := HSZ.out X n hlt hX
      have HNX := Lib.hid (fun x => numF_next HND.out hlt x)
      rw [hX] at HNX
      have i3 : (n : Int) < (K.length : Int) := by omega
      have i4 : (0 : Int) ≤ (n : Int) := by omega
      obtain ⟨w3, hrun, hm3, hg3⟩ := HM.out.run_put13 lawS13 Try.underlying61 keyS_inj keyS_is (by unfold maxLen; omega) (keyOf_S13 hxs) (.int .i64 (n : Int))
      have HM3 := Lib.hid (hm3.same (fun x => HNX.out x))
      have HO3 := Lib.hid (HO.out.kept hg3 (own_ne13 HO.out (by omega)))
      have HB3 := Lib.hid (HB.out.grown hg3 HB.out.size (by intro k hk; simp at hk; omega))
      clear hm3 hg3 hX hxs
      go_wp2_with fail
      go_roundw
      case rel => exact ⟨n + 1, by omega, by go_num, HM3.out, HO3.out, HB3.out⟩
      case measure => simp [intOf]; omega
    · obtain rfl : n = K.length := by omega
      go_wp2_with fail
      go_ret
      exact ⟨rfl, HM.out, HB.out⟩
end Go.Proofs.Yteaafjkgopmmdaa

