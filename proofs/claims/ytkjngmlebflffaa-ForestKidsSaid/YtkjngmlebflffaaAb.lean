import Derived.Test.YtkjngmlebflffaaAa
import Derived.Test.YtkjngmlebflffaaUh
import Derived.Test.YtkjngmlebflffaaGr
namespace Go.Proofs.Ytkjngmlebflffaa
open Go Go.RowKit Go.Sort
set_option linter.unusedVariables false

/-! Rows of items; the document's Kids, Same (stage 11). -/
def It.c (x : It) : Array Value := #[.int .i64 (x.place : Int), .int .i64 (x.depth : Int), .int .i64 x.parent]
def itV (x : It) : List Value := [.int .i64 (x.place : Int), .int .i64 (x.depth : Int), .int .i64 x.parent]
def itsV (L : List It) : List Value := flatG itV L
theorem itV_len (x : It) : (itV x).length = 3 := rfl
theorem itsV_length (L : List It) : (itsV L).length = L.length * 3 := flatG_length itV_len L
theorem itsV_append (L M : List It) : itsV (L ++ M) = itsV L ++ itsV M := flatG_append _ _
theorem itsV_one (L : List It) : ∀ u ∈ itsV L, u.oneCell' = true := flatG_all (fun x u hu => by
  simp only [itV, List.mem_cons, List.not_mem_nil, or_false] at hu
  rcases hu with rfl | rfl | rfl <;> rfl) L
theorem itsV_single (x : It) : itsV [x] = x.c.toList := by simp [itsV, flatG, itV, It.c]
theorem Rd.item {w : World} {B : Nat} {a : Option Addr} {L : List It} (h : Rd w B a (itsV L)) {i : Nat} (hi : i < L.length) :
    ∃ b off, a = some ⟨b, off, none⟩ ∧ b < B ∧ w.cell? ⟨b, off + i * 3, none⟩ = some (.int .i64 (L[i].place : Int)) ∧ w.cell? ⟨b, off + i * 3 + 1, none⟩ = some (.int .i64 (L[i].depth : Int)) ∧ w.cell? ⟨b, off + i * 3 + 2, none⟩ = some (.int .i64 L[i].parent) := by
  obtain ⟨b, off, ha, hb, hc⟩ := Rd.elemG itV_len (by omega) h hi
  exact ⟨b, off, ha, hb, hc 0 _ rfl, hc 1 _ rfl, hc 2 _ rfl⟩
def natI (l : List Nat) : List Int := l.map fun (n : Nat) => (n : Int)
theorem natI_length (l : List Nat) : (natI l).length = l.length := by simp [natI]
theorem natI_get {l : List Nat} {i : Nat} (h : i < l.length) (h' : i < (natI l).length) : (natI l)[i] = (l[i] : Int) := by simp [natI]
/-- Those among the first ones. -/
def kidsN (P : List Int) (x : Int) (n : Nat) : List Nat := (List.range n).filter fun i => P.getD i (-1) == x
theorem kidsN_all (P : List Int) (x : Int) : kidsN P x P.length = kidsL P x := rfl
theorem kidsN_yes {P : List Int} {x : Int} {n : Nat} (h : n < P.length) (e : P[n] = x) : kidsN P x (n + 1) = kidsN P x n ++ [n] := by
  unfold kidsN
  rw [List.range_succ, List.filter_append]
  simp [List.getD, h, e]
theorem kidsN_no {P : List Int} {x : Int} {n : Nat} (h : n < P.length) (e : P[n] ≠ x) : kidsN P x (n + 1) = kidsN P x n := by
  unfold kidsN
  rw [List.range_succ, List.filter_append]
  simp [List.getD, h, e]
theorem kidsN_le (P : List Int) (x : Int) (n : Nat) : (kidsN P x n).length ≤ n := by
  have := List.length_filter_le (fun i => P.getD i (-1) == x) (List.range n)
  rwa [List.length_range] at this
theorem natI_snoc (l : List Nat) (n : Nat) : intV (natI (l ++ [n])) = intV (natI l) ++ [.int .i64 (n : Int)] := by simp [natI, intV]
/-- What a row of kids pays. -/
def KidsPay (F : Nat) : Prop := ∀ (a : Option Addr) (c : Nat) (P : List Int) (x : Int) (w : World), Rd w w.heap.size a (intV P) → P.length ≤ 100000 →
  Calls Try.prog F #[.slice a P.length c, .int .i64 x] w fun e w' => ∃ v, e = .returned v ∧ w'.ownsRow w.heap.size 3 1 v (kidsL P x).length (intV (natI (kidsL P x))) ∧ Below w.heap.size w w'
set_option maxHeartbeats 2000000 in
theorem refKids_any : KidsPay 15 := by
  intro a c P x w ha hl
  obtain ⟨i0, hi0, hz0, hz1, hz2⟩ := info_parts info_int
  have HZ2 := Lib.hid hz2; clear hz2
  have HA := Lib.hid ha; clear ha
  go_enter Try.func15, Try.ntmps15
  go_wp2_with fail
  go_loopw [5, 6] (fun v i wr => ∃ (n : Nat) (v' : Value), n ≤ P.length ∧ i = .int .i64 n ∧ v' = v ∧ wr.ownsRow w.heap.size 3 1 v' (kidsN P x n).length (intV (natI (kidsN P x n))) ∧ Below w.heap.size w wr) (fun _ i _ => P.length - (intOf i).toNat)
  case atStart =>
    exact ⟨0, _, Nat.zero_le _, rfl, rfl, World.ownsRow_made w #[] 0 (Nat.le_refl _) (by decide) rfl, box1 _ _⟩
  case round =>
    obtain ⟨n, v, hn, rfl, hv, hown, hb⟩ := hrel
    subst hv
    obtain ⟨va, vc, rfl, _, _, _⟩ := own_slice hown
    have HO := Lib.hid hown; have HB := Lib.hid hb; clear hown hb
    have hkl := kidsN_le P x n
    generalize wr = W1 at *
    by_cases hlt : n < P.length
    · obtain ⟨b1, o1, ha1, _, c0⟩ := (HA.out.below HB.out).num hlt
      subst ha1
      have i3 : (n : Int) < (P.length : Int) := by omega
      have i4 : (0 : Int) ≤ (n : Int) := by omega
      have HY := Lib.hid (fun e => kidsN_yes (x := x) hlt e)
      have HN := Lib.hid (fun e => kidsN_no (x := x) hlt e)
      generalize P[n] = y at *
      by_cases hy : y = x
      · have q1 : (y == x) = true := by simpa using hy
        have HK := Lib.hid (HY.out hy)
        clear hy HY HN
        go_wp2_with (at_builtin
                     refine wpList_append_rd _ rfl (.tmp 20) (.tmp 22) 22 rfl w.heap.size 3 i0 _ 1 8 Try.underlying22 hi0 hz0 hz1 HZ2.out rfl (by omega) (.slice va (kidsN P x n).length vc) (kidsN P x n).length _ rfl (own_below HO.out (box1 _ _)) _ _ 1 1 [.int .i64 (n : Int)] rfl rfl (lit_rd W1 #[.int .i64 (n : Int)] _) (by intro u hu; obtain rfl := List.mem_singleton.1 hu; rfl) (by unfold maxLen; omega) (by omega) (by have := HB.out.size; simp; omega) ?_
                     intro v4 w4 hown4 hg4 _
                     have HO4 := Lib.hid hown4; have HG4 := Lib.hid hg4; clear hown4 hg4)
        go_roundw
        case rel => exact ⟨n + 1, _, by omega, by go_num, rfl, by rw [HK.out, List.length_append, natI_snoc]; exact HO4.out, (HB.out.alloc HB.out.size _).grown HG4.out (by have := HB.out.size; simp; omega) (fun g hg => (own_shape HO.out hg).1)⟩
        case measure => simp [intOf]; omega
      · have q1 : (y == x) = false := by simpa using hy
        have HK := Lib.hid (HN.out hy)
        clear hy HY HN
        go_wp2_with fail
        go_roundw
        case rel => exact ⟨n + 1, _, by omega, by go_num, rfl, by rw [HK.out]; exact HO.out, HB.out⟩
        case measure => simp [intOf]; omega
    · obtain rfl : n = P.length := by omega
      have HOO := HO.out
      rw [kidsN_all] at HOO
      have HOF := Lib.hid HOO; clear HOO
      go_wp2_with fail
      go_ret
      exact ⟨_, rfl, HOF.out, HB.out⟩
theorem It.eq {x y : It} (h1 : x.place = y.place) (h2 : x.depth = y.depth) (h3 : x.parent = y.parent) : x = y := by
  cases x; cases y; simp_all
set_option maxHeartbeats 1000000 in
theorem same11_is (a b : Option Addr) (c d n : Nat) (K : List It) (w : World) (hn : K.length = n) (ha : Rd w w.heap.size a (itsV K)) (hb : Rd w w.heap.size b (itsV K)) (hl : n ≤ maxLen) :
    Calls Try.prog 8 #[.slice a n c, .slice b n d] w fun e w' => e = .returned (.bool true) ∧ Below w.heap.size w w' := by
  unfold maxLen at hl
  subst hn
  have HA := Lib.hid ha; have HB := Lib.hid hb; clear ha hb
  go_enter Try.func8, Try.ntmps8
  go_wp2
  go_loopw [5] (fun i wr => ∃ k : Nat, k ≤ K.length ∧ i = .int .i64 k ∧ Below w.heap.size w wr) (fun i _ => K.length - (intOf i).toNat)
  case atStart => exact ⟨0, Nat.zero_le _, rfl, Below.refl _ _⟩
  case round =>
    obtain ⟨k, hk, rfl, hbw⟩ := hrel
    have HW := Lib.hid hbw; clear hbw
    by_cases hlt : k < K.length
    · obtain ⟨b1, o1, ha1, _, c0, c1, c2⟩ := (HA.out.below HW.out).item hlt
      obtain ⟨b2, o2, hb1, _, d0, d1, d2⟩ := (HB.out.below HW.out).item hlt
      subst ha1 hb1
      have i1 : (0 : Int) ≤ (k : Int) := by omega
      have i2 : (k : Int) < (K.length : Int) := by omega
      generalize K[k] = x at *
      go_wp2
      go_quiet (fail)
      go_wp2
      go_roundw
      case rel => exact ⟨k + 1, by omega, by go_num, Below_drewN HW.out _⟩
      case measure => simp [intOf]; omega
    · go_wp2
      go_ret
      exact ⟨rfl, HW.out⟩
end Go.Proofs.Ytkjngmlebflffaa
