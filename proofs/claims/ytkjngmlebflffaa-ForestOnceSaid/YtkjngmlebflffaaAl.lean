import Derived.Test.YtkjngmlebflffaaAk
import Derived.Test.YtkjngmlebflffaaAc
namespace Go.Proofs.Ytkjngmlebflffaa
open Go Go.RowKit Go.Sort
set_option linter.unusedVariables false

/-! The landed code: all places, level by level (stage 11). -/
theorem KD.get {w : World} {B : Nat} {a : Option Addr} {P : List Int} (h : KD w B a P) {j : Nat} (hj : j < P.length + 1) {K : List Nat} (hK : kd P j = K) : ∃ b off, a = some ⟨b, off, none⟩ ∧ b < B ∧ ∃ u c, w.cell? ⟨b, off + j, none⟩ = some (.slice u K.length c) ∧ Rd w B u (intV (natI K)) := by
  subst hK; exact h j hj
theorem natI_append (l m : List Nat) : natI (l ++ m) = natI l ++ natI m := by simp [natI]
theorem intV_natI_length (l : List Nat) : (intV (natI l)).length = l.length := by simp [intV, natI]
set_option maxHeartbeats 2000000 in
theorem clone_any (u : Option Addr) (c : Nat) (K : List Nat) (w : World) (hu : Rd w w.heap.size u (intV (natI K))) (hl : K.length ≤ 100000) :
    Calls Try.prog 35 #[.slice u K.length c] w fun e w' => ∃ v, e = .returned v ∧ w'.ownsRow w.heap.size 3 1 v K.length (intV (natI K)) ∧ Below w.heap.size w w' := by
  obtain ⟨i0, hi0, hz0, hz1, hz2⟩ := info_parts info_int
  have HZ2 := Lib.hid hz2; clear hz2
  have HU := Lib.hid (hu.below (box1 w (.cells #[] 3))); have HE := Lib.hid hu; clear hu
  have q22 : ∀ (w : World) (a : Option Addr) (n c n' c' : Nat), (binOp .eql 22 (.slice a n c) (.slice none n' c')).run Try.prog w = .ok (.bool a.isNone) w := fun w a n c n' c' => Lib.run_eql_slice_nil w _ _ a n c n' c' Try.underlying22
  go_enter Try.func35, Try.ntmps35
  cases u with
  | none =>
    have hk : K = [] := by
      cases K with
      | nil => rfl
      | cons x r => obtain ⟨b, off, h, _⟩ := HE.out (by simp [intV, natI]); cases h
    subst hk
    go_wp2_with fail
    go_ret
    exact ⟨_, rfl, World.ownsRow_nil _ _ _ _, Below.refl _ _⟩
  | some p =>
    go_wp2_with (refine wpList_append_rd _ rfl _ _ 22 rfl w.heap.size 3 i0 _ 1 8 Try.underlying22 hi0 hz0 hz1 HZ2.out rfl (by omega) (.slice (some ⟨w.heap.size, 0, none⟩) 0 0) 0 [] rfl (World.ownsRow_made w #[] 0 (Nat.le_refl _) (by decide) rfl) _ _ K.length _ (intV (natI K)) rfl (by rw [intV_natI_length, Nat.mul_one]) HU.out (intV_one _) (by unfold maxLen; omega) (by omega) (by simp) ?_
                 intro v7 w1 hown1 hg1 _
                 have HO1 := Lib.hid hown1; have HG1 := Lib.hid hg1; clear hown1 hg1)
    go_ret
    refine ⟨v7, rfl, ?_, Below.of_grown (box1 w _) HG1.out (by simp) (by intro g h; simp [Value.ownBlock] at h; omega)⟩
    have h := HO1.out
    rwa [Nat.zero_add, List.nil_append] at h
set_option maxHeartbeats 4000000 in
theorem levels_any (a : Option Addr) (c : Nat) (P : List Int) (w : World) (ha : KD w w.heap.size a P) (hl : P.length ≤ 100000) :
    Calls Try.prog 27 #[.slice a (P.length + 1) c] w fun e w' => ∃ v O, e = .returned v ∧ w'.ownsRow w.heap.size 3 1 v O.length (intV (natI O)) ∧ LevI P O.length O ∧ Below w.heap.size w w' := by
  obtain ⟨i0, hi0, hz0, hz1, hz2⟩ := info_parts info_int
  have HZ2 := Lib.hid hz2; clear hz2
  have HA := Lib.hid ha; clear ha
  have hk0 := kids_le P (-1)
  obtain ⟨b0, o0, ha0, _, u0, c0, hc0, hu0⟩ := HA.out.get (j := 0) (K := kidsL P (-1)) (by omega) rfl
  subst ha0
  rw [Nat.add_zero] at hc0
  have HU0 := Lib.hid hu0; clear hu0
  obtain ⟨m, hm⟩ : ∃ m, P.length + 1 = m := ⟨_, rfl⟩
  rw [hm]
  have i0m : (0 : Int) < (m : Int) := by omega
  go_enter Try.func27, Try.ntmps27
  go_wp2_with (go_at_call 35
               refine (clone_any u0 c0 _ w HU0.out (by omega)).mono ?_
               rintro e w1 ⟨v1, rfl, hown1, hb1⟩
               have HO1 := Lib.hid hown1; have HB1 := Lib.hid hb1; clear hown1 hb1)
  go_loopw [3, 4] (fun v i wr => ∃ (k : Nat) (O : List Nat) (v' : Value), i = .int .i64 k ∧ v' = v ∧ LevI P k O ∧ wr.ownsRow w.heap.size 3 1 v' O.length (intV (natI O)) ∧ Below w.heap.size w wr) (fun _ i _ => P.length - (intOf i).toNat)
  case atStart => exact ⟨0, _, _, rfl, rfl, LevI.start P, HO1.out, HB1.out⟩
  clear HO1 HB1
  case round =>
    obtain ⟨k, O, v, rfl, hv, hL, hown, hb⟩ := hrel
    subst hv
    obtain ⟨va, vc, rfl, _, _, _⟩ := own_slice hown
    have HL := Lib.hid hL; have HO := Lib.hid hown; have HB := Lib.hid hb; clear hL hown hb
    have hOl := HL.out.len
    generalize wr = W1 at *
    by_cases hlt : k < O.length
    · have hxP := HL.out.lt O[k] (List.getElem_mem hlt)
      have HN := Lib.hid (HL.out.next hlt)
      obtain ⟨b1, o1, ha1, _, c1⟩ := (Rd.own HO.out).num (i := k) (by rw [natI_length]; exact hlt)
      rw [natI_get hlt] at c1
      subst ha1
      generalize O[k] = x at *
      have hkx := kids_le P (x : Int)
      obtain ⟨b2, o2, ha2, _, u2, c2, d2, hu2⟩ := (HA.out.below HB.out).get (j := x + 1) (K := kidsL P (x : Int)) (by omega) (by show kidsL P (((x + 1 : Nat) : Int) - 1) = _; congr 1; omega)
      obtain ⟨rfl, rfl⟩ : b0 = b2 ∧ o0 = o2 := by injection ha2 with h; injection h; simp_all
      clear ha2
      have HU2 := Lib.hid (hu2.more HB.out.size); clear hu2
      have i3 : (k : Int) < (O.length : Int) := by omega
      have i4 : (0 : Int) ≤ (k : Int) := by omega
      have i5 : IntKind.i64.wrap ((x : Int) + 1) = ((x + 1 : Nat) : Int) := by rw [IntWalk.i64_in _ (by omega)]; omega
      obtain ⟨y, hy⟩ : ∃ y, x + 1 = y := ⟨_, rfl⟩
      rw [hy] at d2 i5
      have i6 : (y : Int) < (m : Int) := by omega
      have i7 : (0 : Int) ≤ (y : Int) := by omega
      have hBs := HB.out.size
      go_wp2_with (at_builtin
                   refine wpList_append_rd _ rfl (.tmp 15) (.tmp 23) 22 rfl w.heap.size 3 i0 _ 1 8 Try.underlying22 hi0 hz0 hz1 HZ2.out rfl (by omega) _ O.length _ rfl HO.out _ _ (kidsL P (x : Int)).length c2 (intV (natI (kidsL P (x : Int)))) rfl (by rw [intV_natI_length, Nat.mul_one]) HU2.out (intV_one _) (by unfold maxLen; omega) (by omega) (by omega) ?_
                   intro v4 w4 hown4 hg4 _
                   have HO4 := Lib.hid hown4
                   have HB4 := Lib.hid (HB.out.grown hg4 hBs (fun g hg' => (own_shape HO.out hg').1))
                   clear hown4 hg4)
      go_roundw
      case rel =>
        refine ⟨k + 1, _, _, by go_num, rfl, HN.out, ?_, HB4.out⟩
        rw [List.length_append, natI_append, intV_append]; exact HO4.out
      case measure => simp [intOf]; omega
    · obtain rfl : k = O.length := by have := HL.out.le; omega
      go_wp2_with fail
      go_ret
      exact ⟨_, O, rfl, HO.out, HL.out, HB.out⟩
end Go.Proofs.Ytkjngmlebflffaa
