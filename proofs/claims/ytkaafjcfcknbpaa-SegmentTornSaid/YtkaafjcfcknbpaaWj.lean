import Derived.Test.YtkaafjcfcknbpaaWr
namespace Go.Proofs.Ytkaafjcfcknbpaa
open Go Go.RowKit

set_option maxRecDepth 20000
theorem run_string_b {w : World} {a : Option Addr} {l : List UInt8} (n c : Nat) (h : Rd w w.heap.size a (bV l)) (hn : n = l.length) :
    (convert 23 9 (.slice a n c)).run Try.prog w = .ok (.string (bs l)) w := run_string_of n c h hn
def one1 : Sp := ⟨1, 1, 0, 0, ⟨#[97]⟩, ⟨#[98]⟩, 0, 0⟩
theorem one1_ok : one1.Ok := by
  refine ⟨?_, ?_, ?_, ?_, by decide, by decide, ?_, ?_⟩ <;> (first | (unfold U64; simp [one1]) | (unfold U8; simp [one1]) | (unfold I64; simp [one1]))
theorem one1_put : (putB [one1]).length = 81 ∧ putErr [one1] = 0 ∧ (putB [one1]).take 6 = [83, 80, 65, 78, 1, 0] := by decide +kernel
def greatS (s : Sp) : Bool := decide (100 < s.host.size) || decide (100 < s.name.size)
def greatB (L : List Sp) : Bool := decide (60 < L.length) || L.any greatS
theorem great_many {L : List Sp} (h : 60 < L.length) : greatB L = true := by simp [greatB, h]
theorem great_few {L : List Sp} (h : ¬ 60 < L.length) : greatB L = L.any greatS := by simp [greatB, h]
theorem any_take {L : List Sp} {k : Nat} (h : k < L.length) : (L.take (k + 1)).any greatS = ((L.take k).any greatS || greatS L[k]) := by
  rw [List.take_succ_eq_append_getElem h, List.any_append]; simp
theorem any_yes {L : List Sp} {k : Nat} (h : k < L.length) (hk : greatS L[k] = true) : L.any greatS = true :=
  List.any_eq_true.2 ⟨L[k], List.getElem_mem _, hk⟩
set_option maxHeartbeats 2000000 in
theorem great_any (a : Option Addr) (c : Nat) (L : List Sp) (w : World) (hr : Rd w w.heap.size a (flatL L)) (hl : L.length ≤ maxLen) (ok : ∀ s ∈ L, s.Ok) :
    Calls Try.prog 13 #[.slice a L.length c] w fun e w' => e = .returned (.bool (greatB L)) ∧ Below w.heap.size w w' := by
  have HR := Lib.hid hr; have OK := Lib.hid ok; clear hr ok
  unfold maxLen at hl
  by_cases h60 : 60 < L.length
  · have HE := Lib.hid (great_many h60)
    go_enter Try.func13, Try.ntmps13
    go_wp2
    go_ret
    exact ⟨ret_bool HE.out.symm, Below.refl _ _⟩
  have HF := Lib.hid (great_few h60)
  go_enter Try.func13, Try.ntmps13
  go_wp2_with fail
  go_loopw [10] (fun i wr => ∃ k : Nat, k ≤ L.length ∧ i = .int .i64 k ∧ (L.take k).any greatS = false ∧ Below w.heap.size w wr) (fun i _ => L.length - (intOf i).toNat)
  case atStart => exact ⟨0, Nat.zero_le _, rfl, rfl, Below.refl _ _⟩
  case round =>
    obtain ⟨k, hk, rfl, he, hbw⟩ := hrel
    have HE := Lib.hid he; have HW := Lib.hid hbw; clear he hbw
    by_cases hlt : k < L.length
    · obtain ⟨b1, o1, ha1, _, e0, e1, e2, e3, e4, e5, e6, e7⟩ := (HR.out.below HW.out).elem hlt
      subst ha1
      have i1 : (0 : Int) ≤ (k : Int) := by omega
      have i2 : (k : Int) < (L.length : Int) := by omega
      have HT := Lib.hid (any_take hlt)
      have hmx := (OK.out L[k] (List.getElem_mem _)).host
      have hmy := (OK.out L[k] (List.getElem_mem _)).name
      have HA := Lib.hid (fun h => any_yes (L := L) hlt h)
      generalize L[k] = s at *
      unfold maxLen at hmx hmy
      have HBW := Lib.hid (HW.out.alloc HW.out.size (.cells s.c 54))
      by_cases hg1 : 100 < s.host.size
      · have HG : Hid (greatS s = true) := by show _ = _; simp [greatS, hg1]
        go_wp2_with fail
        go_ret
        exact ⟨ret_bool (by rw [HF.out]; exact (HA.out HG.out).symm), HBW.out⟩
      by_cases hg2 : 100 < s.name.size
      · have HG : Hid (greatS s = true) := by show _ = _; simp [greatS, hg2]
        go_wp2_with fail
        go_ret
        exact ⟨ret_bool (by rw [HF.out]; exact (HA.out HG.out).symm), HBW.out⟩
      have HG : Hid (greatS s = false) := by show _ = _; simp [greatS, hg1, hg2]
      go_wp2_with fail
      go_roundw
      case rel => exact ⟨k + 1, by omega, by go_num, by rw [HT.out, HE.out, HG.out]; rfl, HBW.out⟩
      case measure => simp [intOf]; omega
    · have : k = L.length := by omega
      subst this
      have HA : Hid (L.any greatS = false) := by
        show _ = _
        have h := HE.out
        rwa [List.take_length] at h
      go_wp2_with fail
      go_ret
      exact ⟨ret_bool (by rw [HF.out, HA.out]), HW.out⟩
end Go.Proofs.Ytkaafjcfcknbpaa

namespace Go.Proofs.Ytkaafjcfcknbpaa
open Go Go.RowKit

set_option maxRecDepth 20000
theorem great_is {L : List Sp} {b : Bool} (h : greatB L = b) (a : Option Addr) (c : Nat) (w : World) (hr : Rd w w.heap.size a (flatL L)) (hl : L.length ≤ maxLen) (ok : ∀ s ∈ L, s.Ok) :
    Calls Try.prog 13 #[.slice a L.length c] w fun e w' => e = .returned (.bool b) ∧ Below w.heap.size w w' := by
  subst h; exact great_any a c L w hr hl ok
theorem great_le {L : List Sp} (h : greatB L = false) : L.length ≤ 60 := by
  simp [greatB] at h; omega
theorem SpansOut.err {w w' : World} {r : Except Nat (List Sp)} {n : Nat} {e : Ending} (h : r = .error n) (hs : SpansOut w r e w') :
    ∃ a c, e = .returned (.tuple #[.slice a 0 c, .int .i64 (n : Int)]) ∧ Rd w' w'.heap.size a (flatL []) ∧ Below w.heap.size w w' := by
  subst h; obtain ⟨a, c, he, _, _, h3, h4⟩ := hs; exact ⟨a, c, he, h3, h4⟩
theorem SpansOut.fine {w w' : World} {r : Except Nat (List Sp)} {L : List Sp} {e : Ending} (h : r = .ok L) (hs : SpansOut w r e w') :
    ∃ a c, e = .returned (.tuple #[.slice a L.length c, .int .i64 0]) ∧ L.length ≤ c ∧ c ≤ maxLen ∧ Rd w' w'.heap.size a (flatL L) ∧ Below w.heap.size w w' := by
  subst h; exact hs
end Go.Proofs.Ytkaafjcfcknbpaa

namespace Go.Proofs.Ytkaafjcfcknbpaa
open Go Go.RowKit

set_option maxRecDepth 20000
theorem getW_is (a : Option Addr) (n c : Nat) (b : List UInt8) (hn : n = b.length) (w : World) (hr : Rd w w.heap.size a (bV b)) (hl : b.length ≤ 1000000000000) (hlc : n ≤ c) (hc : c ≤ maxLen) :
    Calls Try.prog 16 #[.slice a n c] w (SpansOut w (getW b)) := by
  subst hn; exact getW_any a c b w hr hl hlc hc
theorem info_b : (Try.prog.info? 5).map (fun i => (i.zero, i.size, i.bytes)) = some (some (.int .u8 0), 1, 1) := by kernel_rfl
end Go.Proofs.Ytkaafjcfcknbpaa

