import Derived.Test.YtlpalhlihckidaaPg
import Derived.Deep.RegionLaw
namespace Go.Proofs.Ytlpalhlihckidaa
open Go Go.RowKit Go.Sort

/-- A slice of bytes is answered that reads as L. -/
def BytesOut (w : World) (L : List UInt8) (e : Ending) (w' : World) : Prop :=
  ∃ a c, e = .returned (.slice a L.length c) ∧ L.length ≤ c ∧ c ≤ maxLen ∧ Rd w' w'.heap.size a (bV L) ∧ Below w.heap.size w w'
theorem own_out {w w' : World} {v : Value} {n : Nat} {L : List UInt8} {e : Ending} {base : Nat} {t : TypeId} (he : e = .returned v) (ho : w'.ownsRow base t 1 v n (bV L)) (hb : Below w.heap.size w w') : BytesOut w L e w' := by
  have hn : n = L.length := by have := ho.1; rw [bV_length] at this; omega
  subst hn
  obtain ⟨a, c, rfl, h1, h2, _⟩ := own_slice ho
  exact ⟨a, c, he, h1, h2, Rd.own ho, hb⟩
theorem put_out (a : Option Addr) (c : Nat) (l : List UInt8) (n : Nat) (s : Int) (w : World) (hr : Rd w w.heap.size a (bV l)) (hl : l.length ≤ 1000000000000) (hlc : l.length ≤ c) (hn : n < 18446744073709551616)
    (h1 : -9223372036854775808 ≤ s) (h2 : s ≤ 9223372036854775807) :
    Calls Try.prog 16 #[.slice a l.length c, .int .u64 n, .int .i64 s] w (BytesOut w (l ++ putL n (cnt s))) :=
  (put_any a c l n s w hr hl hlc hn h1 h2).mono fun _ _ ⟨_, he, ho, hb⟩ => own_out he ho hb
theorem putText_out (a : Option Addr) (c : Nat) (l : List UInt8) (s : ByteArray) (w : World) (hr : Rd w w.heap.size a (bV l)) (hl : l.length ≤ 1000000000000) (hlc : l.length ≤ c) (hs : s.size ≤ maxLen) :
    Calls Try.prog 31 #[.slice a l.length c, .string s] w (BytesOut w (l ++ fldL s.data.toList)) :=
  (putText_any a c l s w hr hl hlc hs).mono fun _ _ ⟨_, he, ho, hb⟩ => own_out he ho hb
theorem run_string_grown {W : World} {a : Option Addr} {l : List UInt8} (n c : Nat) (h : Rd W W.heap.size a (bV l)) (hn : n = l.length) :
    ∀ d os, (convert 25 9 (.slice a n c)).run Try.prog (grow (redrawn W d) os) = .ok (.string (bs l)) (grow (redrawn W d) os) :=
  fun d os => run_string_of n c (h.below (below_regrown W d os)) hn

theorem gN_append (l m : List UInt8) (i : Nat) : ∀ k, gN (l ++ m) (l.length + i) k = gN m i k
  | 0 => rfl
  | k + 1 => by
    have h := gN_append l m i k
    have e : (l ++ m).getD (l.length + i + k) 0 = m.getD (i + k) 0 := by
      simp only [List.getD]
      rw [List.getElem?_append_right (by omega), show l.length + i + k - l.length = i + k by omega]
    rw [gN, gN, h, e]
theorem getR_put (l : List UInt8) (n : Nat) (s : Int) : getR (l ++ putL n (cnt s)) l.length s = getR (putL n (cnt s)) 0 s ∧ (getR (putL n (cnt s)) 0 s).2 = true := by
  rw [getR_yes (l := l ++ putL n (cnt s)) (by rw [List.length_append, putL_length]; omega), getR_yes (by rw [putL_length]; omega)]
  exact ⟨by rw [Int.toNat_natCast]; exact Prod.ext (gN_append l _ 0 _) rfl, rfl⟩
end Go.Proofs.Ytlpalhlihckidaa
