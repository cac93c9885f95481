import Derived.Test.YtkaafjcfcknbpaaRg
import Derived.Test.YtkaafjcfcknbpaaRh
import Derived.Lib.SlBytesConst
import Derived.Deep.DeepMust
namespace Go.Proofs.Ytkaafjcfcknbpaa
open Go Go.RowKit

set_option maxRecDepth 20000
theorem frA_length : (frL [97]).length = 7 := by rw [frL_length]; rfl
theorem frA0 : (frL [97])[0]'(by rw [frA_length]; omega) = 1 := by decide +kernel
theorem frA1 : (frL [97])[1]'(by rw [frA_length]; omega) = 0 := by decide +kernel
theorem frA6 : (frL [97])[6]'(by rw [frA_length]; omega) = 97 := by decide +kernel
theorem putR_is (a : Option Addr) (n c : Nat) (l L : List UInt8) (E : Nat) (w : World) (hn : n = l.length) (hL : (if mayF l.length = true then (frL l, 0) else ([], 1)) = (L, E)) (hr : Rd w w.heap.size a (bV l)) :
    Calls Try.prog 15 #[.slice a n c] w (FrOut w L E) := by
  subst hn
  cases hm : mayF l.length with
  | true =>
    rw [hm, if_pos rfl] at hL
    injection hL with h1 h2
    subst h1 h2
    exact putR_yes a _ c l w rfl hm hr
  | false =>
    rw [hm, if_neg (by simp)] at hL
    injection hL with h1 h2
    subst h1 h2
    exact putR_no a _ c w hm
theorem refFr_is (t : ByteArray) (l L : List UInt8) (E : Nat) (w : World) (ht : t = bs l) (hL : (if mayF l.length = true then (frL l, 0) else ([], 1)) = (L, E)) :
    Calls Try.prog 59 #[.string t] w (RefFr w L E) := by
  cases hm : mayF l.length with
  | true =>
    rw [hm, if_pos rfl] at hL
    injection hL with h1 h2
    subst h1 h2
    exact refFr_yes t l w ht hm
  | false =>
    rw [hm, if_neg (by simp)] at hL
    injection hL with h1 h2
    subst h1 h2
    exact refFr_no t l w ht hm
end Go.Proofs.Ytkaafjcfcknbpaa

namespace Go.Proofs.Ytkaafjcfcknbpaa
open Go Go.RowKit

set_option maxRecDepth 20000
set_option maxHeartbeats 1000000 in
theorem same6_any (a1 a2 : Option Addr) (n1 n2 c1 c2 B0 : Nat) (xs : List Bod) (w : World) (h1 : n1 = xs.length) (h2 : n2 = xs.length) (hr1 : Rd w w.heap.size a1 (xs.map Bod.v)) (hr2 : Rd w w.heap.size a2 (sV (xs.map Bod.b))) (hb : ∀ x ∈ xs, BodAt B0 x w) (hl : xs.length ≤ 1000000000000) :
    Calls Try.prog 28 #[.slice a1 n1 c1, .slice a2 n2 c2] w fun e w' => e = .returned (.bool true) ∧ Below w.heap.size w w' := by
  have H1 := Lib.hid h1; have H2 := Lib.hid h2; have R1 := Lib.hid hr1; have R2 := Lib.hid hr2; have HB := Lib.hid hb
  have hn : n1 = n2 := by omega
  have hn1 : n1 ≤ 1000000000000 := by omega
  clear hl
  clear h1 h2 hr1 hr2 hb
  subst hn
  go_enter Try.func28, Try.ntmps28
  go_wp2_with fail
  go_loopw [13] (fun i wr => ∃ k : Nat, k ≤ n1 ∧ i = .int .i64 k ∧ Below w.heap.size w wr) (fun i _ => n1 - (intOf i).toNat)
  case atStart => exact ⟨0, Nat.zero_le _, rfl, Below.refl _ _⟩
  case round =>
    obtain ⟨k, hk, rfl, hb⟩ := hrel
    by_cases hlt : k < n1
    · have hkx : k < xs.length := by rw [← H1.out]; exact hlt
      obtain ⟨b1, o1, rfl, hb1, hc1⟩ := R1.out (by rw [List.length_map]; omega)
      obtain ⟨b2, o2, rfl, hb2, hc2⟩ := R2.out (by rw [sV_length, List.length_map]; omega)
      obtain ⟨x, hx⟩ : ∃ x, xs[k] = x := ⟨_, rfl⟩
      have hxm : x ∈ xs := by rw [← hx]; exact List.getElem_mem _
      have hbx : w.ownsRow B0 5 1 x.v x.b.length (bV x.b) := HB.out x hxm
      obtain ⟨va, vc, hv, _, _, _⟩ := own_slice hbx
      have q1 : wr.cell? ⟨b1, o1 + k, none⟩ = some (.slice va x.b.length vc) := by
        rw [hb.cell (p := ⟨b1, o1 + k, none⟩) hb1, ← hv]; exact hc1 k _ (by rw [List.getElem?_map, List.getElem?_eq_getElem hkx, hx]; rfl)
      have q2 : wr.cell? ⟨b2, o2 + k, none⟩ = some (.string (bs x.b)) := by
        rw [hb.cell (p := ⟨b2, o2 + k, none⟩) hb2]; exact hc2 k _ (by rw [sV, List.getElem?_map, List.getElem?_map, List.getElem?_eq_getElem hkx, hx]; rfl)
      rw [hv] at hbx
      have hrd := (Rd.own hbx).below hb
      have cv := run_string_of (w := wr) (l := x.b) x.b.length vc (hrd.more hb.size) rfl
      have cv2 := run_string_of (w := wr.drew) (l := x.b) x.b.length vc ((hrd.more hb.size).below (Below_drew (Below.refl wr.heap.size wr))) rfl
      have HBW := Lib.hid hb
      have HLT := Lib.hid hlt
      have HBD := Lib.hid (Below_drew hb)
      clear hc1 hc2 hbx hv hrd hx hxm hb
      go_wp2_with fail
      go_region
      clear cv cv2 q1 q2
      go_wp2_with fail
      go_roundw
      case rel => exact ⟨k + 1, HLT.out, by go_num, HBD.out⟩
      case measure => have := HLT.out; simp [intOf]; omega
    · have : k = n1 := by omega
      subst this
      go_wp2_with fail
      go_ret
      exact ⟨rfl, hb⟩
/-- Slices of bytes of the call's own, whatever they hold. -/
def U8s (B : Nat) (w : World) (v : Value) : Prop :=
  ∃ a n c, v = .slice a n c ∧ ∀ j < n, ∃ g, a = some ⟨g, 0, none⟩ ∧ B ≤ g ∧ (∃ y : UInt8, w.cell? ⟨g, j, none⟩ = some (.int .u8 (y.toNat : Int))) ∧ w.frozen? ⟨g, j, none⟩ = false
theorem U8s.of {B : Nat} {w : World} {v : Value} {n : Nat} {l : List UInt8} {t : TypeId} (h : w.ownsRow B t 1 v n (bV l)) : U8s B w v := by
  obtain ⟨a, c, rfl, _, _, hx⟩ := own_slice h
  refine ⟨a, n, c, rfl, fun j hj => ?_⟩
  obtain ⟨g, rfl, hg, _⟩ := hx (by omega)
  have hl : n = l.length := by have := h.1; rw [bV_length] at this; omega
  have hc := h.cellAt j (by omega)
  rw [bV_get l j (by omega)] at hc
  exact ⟨g, rfl, hg, ⟨_, hc⟩, h.frozenAt j⟩
theorem U8s.below {B : Nat} {w w' : World} {v : Value} (h : U8s B w v) (hb : Below w.heap.size w w') : U8s B w' v := by
  obtain ⟨a, n, c, rfl, hx⟩ := h
  refine ⟨a, n, c, rfl, fun j hj => ?_⟩
  obtain ⟨g, rfl, hg, ⟨y, hy⟩, hf⟩ := hx j hj
  have hlt : g < w.heap.size := block_lt_of_cell hy
  exact ⟨g, rfl, hg, ⟨y, by rw [hb.cell (p := ⟨g, j, none⟩) hlt]; exact hy⟩, by rw [hb.frozen (p := ⟨g, j, none⟩) hlt]; exact hf⟩
theorem U8s.set {B : Nat} {w : World} {v : Value} (h : U8s B w v) {g i : Nat} {y z : UInt8} (hy : w.cell? ⟨g, i, none⟩ = some (.int .u8 (y.toNat : Int))) : U8s B (w.setCell ⟨g, i, none⟩ (.int .u8 (z.toNat : Int))) v := by
  obtain ⟨a, n, c, rfl, hx⟩ := h
  refine ⟨a, n, c, rfl, fun j hj => ?_⟩
  obtain ⟨g2, rfl, hg, ⟨y2, hy2⟩, hf⟩ := hx j hj
  refine ⟨g2, rfl, hg, ?_, by rw [World.frozen?_setCell]; exact hf⟩
  by_cases e : g2 = g ∧ j = i
  · obtain ⟨rfl, rfl⟩ := e
    exact ⟨z, World.cell?_setCell_same' _ _ _ (by rw [hy]; rfl)⟩
  · exact ⟨y2, by rw [World.cell?_setCell_other _ _ _ _ (fun e' => e (by injection e' with e1 e2; exact ⟨e1.symm, e2.symm⟩))]; exact hy2⟩
/-- A row of slices stays where a byte is stored. -/
theorem Rd.setU8 {B : Nat} {w : World} {a : Option Addr} {vs : List Value} (h : Rd w B a vs) (hs : ∀ v ∈ vs, ∃ a n c, v = .slice a n c) {g i : Nat} {y : UInt8} {z : Value} (hy : w.cell? ⟨g, i, none⟩ = some (.int .u8 (y.toNat : Int))) : Rd (w.setCell ⟨g, i, none⟩ z) B a vs := fun h0 => by
  obtain ⟨b, off, rfl, hb, hc⟩ := h h0
  refine ⟨b, off, rfl, hb, fun j u hu => ?_⟩
  have h1 := hc j u hu
  have hne : ¬ (b = g ∧ off + j = i) := by
    rintro ⟨rfl, rfl⟩
    obtain ⟨_, _, _, rfl⟩ := hs u (List.mem_of_getElem? hu)
    rw [hy] at h1; cases h1
  rw [World.cell?_setCell_other _ _ _ _ (fun e' => hne (by injection e' with e1 e2; exact ⟨e1.symm, e2.symm⟩))]; exact h1
/-- What the loops of FrameGets keep. -/
def GetsI (w : World) (vs : List Value) (a : Option Addr) (rows : List Value) (B : Nat) (W : World) : Prop := Below w.heap.size w W ∧ (∀ v ∈ vs, U8s w.heap.size W v) ∧ Rd W B a rows
theorem GetsI.set {w W : World} {vs rows : List Value} {a : Option Addr} {B : Nat} (h : GetsI w vs a rows B W) (hs : ∀ v ∈ rows, ∃ a n c, v = .slice a n c) {g i : Nat} {y : UInt8} (hg : w.heap.size ≤ g) (hy : W.cell? ⟨g, i, none⟩ = some (.int .u8 (y.toNat : Int))) (z : UInt8) : GetsI w vs a rows B (W.setCell ⟨g, i, none⟩ (.int .u8 (z.toNat : Int))) :=
  ⟨h.1.setCell (p := ⟨g, i, none⟩) hg _, fun v hv => (h.2.1 v hv).set hy, h.2.2.setU8 hs hy⟩
end Go.Proofs.Ytkaafjcfcknbpaa

