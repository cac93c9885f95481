import Derived.Test.YthfhmohbfoolnaaRows
import Derived.Test.YthfhmohbfoolnaaGr
namespace Go.Proofs.Ythfhmohbfoolnaa
open Go Go.RowKit

/-! The document's file system. -/
structure Fl where
  n : Nat
  there : Bool
  kept : Bool
  now : ByteArray
  safe : ByteArray
def Fl.c (x : Fl) : Array Value := #[.int .u32 (x.n : Int), .bool x.there, .bool x.kept, .string x.now, .string x.safe]
def Fl.v (x : Fl) : Value := .agg #[.int .u32 (x.n : Int), .bool x.there, .bool x.kept, .string x.now, .string x.safe]
def Fl.l (x : Fl) : List Value := [.int .u32 (x.n : Int), .bool x.there, .bool x.kept, .string x.now, .string x.safe]
def flF (L : List Fl) : List Value := flatG Fl.l L
theorem flF_len (x : Fl) : x.l.length = 5 := rfl
theorem flF_length (L : List Fl) : (flF L).length = L.length * 5 := flatG_length flF_len L
theorem flF_append (L M : List Fl) : flF (L ++ M) = flF L ++ flF M := flatG_append L M
theorem flF_one (L : List Fl) : ∀ u ∈ flF L, u.oneCell' = true := flatG_all (fun x u hu => by
  simp [Fl.l] at hu
  rcases hu with rfl | rfl | rfl | rfl | rfl <;> rfl) L
/-- The five cells of a file. -/
def FlAt (w : World) (b o : Nat) (x : Fl) : Prop :=
  w.cell? ⟨b, o, none⟩ = some (.int .u32 (x.n : Int)) ∧ w.cell? ⟨b, o + 1, none⟩ = some (.bool x.there) ∧ w.cell? ⟨b, o + 2, none⟩ = some (.bool x.kept) ∧ w.cell? ⟨b, o + 3, none⟩ = some (.string x.now) ∧ w.cell? ⟨b, o + 4, none⟩ = some (.string x.safe)
theorem flF_elem {w : World} {B : Nat} {a : Option Addr} {L : List Fl} (h : Rd w B a (flF L)) {i : Nat} (hi : i < L.length) : ∃ b off, a = some ⟨b, off, none⟩ ∧ b < B ∧ FlAt w b (off + i * 5) L[i] := by
  obtain ⟨b, off, ha, hb, hc⟩ := Rd.elemG flF_len (by omega) h hi
  exact ⟨b, off, ha, hb, hc 0 _ rfl, hc 1 _ rfl, hc 2 _ rfl, hc 3 _ rfl, hc 4 _ rfl⟩
def noF (n : Nat) : Fl := ⟨n, false, false, ByteArray.empty, ByteArray.empty⟩
def getF (L : List Fl) (n : Nat) : Fl := (L.find? fun x => decide (x.n = n)).getD (noF n)
theorem getF_here {L : List Fl} {n i : Nat} (hi : i < L.length) (h : ∀ x ∈ L.take i, x.n ≠ n) (hn : L[i].n = n) : getF L n = L[i] := by
  have e : L.find? (fun x => decide (x.n = n)) = some L[i] := by
    conv => lhs; rw [← List.take_append_drop i L]
    rw [List.find?_append, List.find?_eq_none.2 (fun x hx => by simp [h x hx]), List.drop_eq_getElem_cons hi, List.find?_cons_of_pos (by simp [hn])]
    rfl
  unfold getF; rw [e]; rfl
theorem getF_none {L : List Fl} {n : Nat} (h : ∀ x ∈ L, x.n ≠ n) : getF L n = noF n := by
  unfold getF; rw [List.find?_eq_none.2 (fun x hx => by simp [h x hx])]; rfl
theorem size_fl : (Try.prog.info? 85).map (·.size) = some 5 := by kernel_rfl
theorem load_fl (W : World) (x : Fl) (n : Nat) (hn : n = W.heap.size) : (loadVar 85 ⟨n, 0, none⟩).run Try.prog (W.alloc (.cells x.c 85)) = .ok x.v (W.alloc (.cells x.c 85)) := by
  have h := run_loadVar_mid (P := Try.prog) _ n 0 85 _ _ (rangeAt_last W x.c 85 n hn) Try.underlying85 rfl size_fl
  exact h
/-- The value of a file system. -/
def fsv (a : Option Addr) (n c : Nat) (fu : Int) (dn : Bool) : Value := .agg #[.slice a n c, .int .i64 fu, .bool dn]
set_option maxHeartbeats 2000000 in
theorem refGetF_any (a : Option Addr) (c : Nat) (L : List Fl) (fu : Int) (dn : Bool) (n : Nat) (w : World) (hr : Rd w w.heap.size a (flF L)) (hl : L.length ≤ 1000000000000) :
    Calls Try.prog 48 #[fsv a L.length c fu dn, .int .u32 (n : Int)] w fun e w' => e = .returned (getF L n).v ∧ Below w.heap.size w w' := by
  have HR := Lib.hid hr; clear hr
  unfold fsv
  go_enter Try.func48, Try.ntmps48
  go_wp2_with fail
  obtain ⟨W1, hW1⟩ : ∃ W1, W1 = ((w.alloc (.cells #[.slice a L.length c, .int .i64 fu, .bool dn] 28)).alloc (.cells #[.int .u32 0, .bool false, .bool false, .string ⟨#[]⟩, .string ⟨#[]⟩] 85)) := ⟨_, rfl⟩
  have HB1 : Hid (Below w.heap.size w W1) := by show Below _ _ _; rw [hW1]; exact (box1 w _).alloc (by simp) _
  have HR1 := Lib.hid (HR.out.below HB1.out)
  rw [hW1] at HR1
  have HB2 := HB1
  rw [hW1] at HB2
  clear HB1 hW1 W1
  go_loop [5] (fun i => ∃ k : Nat, k ≤ L.length ∧ i = .int .i64 k ∧ ∀ x ∈ L.take k, x.n ≠ n) (fun i => L.length - (intOf i).toNat)
  case atStart => exact ⟨0, Nat.zero_le _, rfl, by simp⟩
  case round =>
    obtain ⟨k, hk, rfl, hne⟩ := hrel
    have HN := Lib.hid hne; clear hne
    by_cases hlt : k < L.length
    · obtain ⟨b, off, ha, hbl, e0, e1, e2, e3, e4⟩ := flF_elem HR1.out hlt
      subst ha
      have hbn : ¬ b = w.heap.size := by omega
      have i1 : (0 : Int) ≤ (k : Int) := by omega
      have i2 : (k : Int) < (L.length : Int) := by omega
      by_cases hx : L[k].n = n
      · have HG := Lib.hid (getF_here hlt HN.out hx)
        have hq : ((L[k].n : Int) == (n : Int)) = true := by simp [hx]
        clear hx
        generalize L[k] = x at *
        go_wp2_with fail
        refine bodyPost_ret (v := x.v) (results_cell rfl rfl (load_fl _ x _ (by simp))) rfl ⟨by rw [HG.out], (box1 w _).alloc (by simp) _⟩
      · have HT : Hid (∀ y ∈ L.take (k + 1), y.n ≠ n) := by
          intro y hy
          rw [List.take_succ_eq_append_getElem hlt] at hy
          rcases List.mem_append.1 hy with h | h
          · exact HN.out y h
          · rw [List.mem_singleton.1 h]; exact hx
        have hq : ((L[k].n : Int) == (n : Int)) = false := beq_eq_false_iff_ne.2 (by omega)
        clear hx
        generalize L[k] = x at *
        go_wp2_with fail
        go_round
        case rel => exact ⟨k + 1, by omega, by go_num, HT.out⟩
        case measure => simp [intOf]; omega
    · have : k = L.length := by omega
      subst this
      have HG : Hid (getF L n = noF n) := getF_none (by have := HN.out; rwa [List.take_length] at this)
      go_wp2_with fail
      refine bodyPost_ret (v := (noF n).v) (results_cell rfl rfl (load_fl _ (noF n) _ (by simp))) rfl ⟨by rw [HG.out], (box1 w _).alloc (by simp) _⟩
end Go.Proofs.Ythfhmohbfoolnaa
