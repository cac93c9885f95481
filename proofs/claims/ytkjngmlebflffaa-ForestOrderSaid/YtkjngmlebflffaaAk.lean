import Derived.Test.YtkjngmlebflffaaAj
namespace Go.Proofs.Ytkjngmlebflffaa
open Go Go.RowKit Go.Sort
set_option linter.unusedVariables false

/-! The landed code: the rows of all kids (stage 11). -/
theorem GI.start {w w1 : World} {P : List Int} (hown : w1.ownsRow w.heap.size 22 1 (.slice (some ⟨w.heap.size, 0, none⟩) (P.length + 1) (P.length + 1)) (P.length + 1) (List.replicate (P.length + 1) (Value.slice none 0 0))) (hb : Below w.heap.size w w1) : GI w w1 P 0 (P.length + 1) (List.replicate (P.length + 1) (Value.slice none 0 0)) :=
  ⟨hown, fun j hj => ⟨_, by rw [List.getElem?_replicate, if_pos hj], World.ownsRow_nil _ _ _ _⟩, fun i j u v _ hu _ => .inl (by
    rw [List.getElem?_replicate] at hu
    split at hu
    · obtain rfl := Option.some.inj hu; rfl
    · cases hu), hb⟩
set_option maxHeartbeats 4000000 in
theorem grouped_any (a : Option Addr) (c : Nat) (P : List Int) (w : World) (hP : ValidP P) (ha : Rd w w.heap.size a (intV P)) (hl : P.length ≤ 100000) :
    Calls Try.prog 18 #[.slice a P.length c] w fun e w' => ∃ b cb, b < w'.heap.size ∧ e = .returned (.slice (some ⟨b, 0, none⟩) (P.length + 1) cb) ∧ KD w' w'.heap.size (some ⟨b, 0, none⟩) P ∧ Below w.heap.size w w' := by
  obtain ⟨i0, hi0, hz0, hz1, hz2⟩ := info_parts info_int
  obtain ⟨j0, hj0, hy0, hy1, hy2⟩ := info_parts info_rows
  have HZ2 := Lib.hid hz2; have HY2 := Lib.hid hy2; clear hz2 hy2
  have HA := Lib.hid ha; have HP := Lib.hid hP; clear ha hP
  have i8 : IntKind.i64.wrap ((P.length : Int) + 1) = ((P.length + 1 : Nat) : Int) := by rw [IntWalk.i64_in _ (by omega)]; omega
  go_enter Try.func18, Try.ntmps18
  go_wp2_with (at_make
               refine wpList_make_full _ rfl (.tmp 8) (.tmp 8) 37 rfl w.heap.size 22 j0 _ 1 Try.underlying37 hj0 hy0 hy1 .i64 .i64 _ _ (P.length + 1) rfl rfl rfl rfl (by rw [HY2.out]; omega) (by unfold maxLen; omega) (Nat.le_refl _) ?_
               intro w1 hown1 hg1
               have HB1 := Lib.hid ((RowKit.Below.refl w.heap.size w).grown hg1 (Nat.le_refl _) (by simp))
               have HO1 := Lib.hid hown1; clear hown1 hg1)
  have HI1 : Hid (GI w w1 P 0 (P.length + 1) (List.replicate (P.length + 1) (Value.slice none 0 0))) := by
    refine GI.start ?_ HB1.out
    have e : (madeCells (Value.slice none 0 0).cells ((P.length + 1) * 1)).toList = List.replicate (P.length + 1) (Value.slice none 0 0) := by
      simp [toList_madeCells_one, Value.cells]
    rw [← e]; exact HO1.out
  clear HO1 HB1
  go_loopw [12] (fun i wr => ∃ (n : Nat) (vs : List Value), n ≤ P.length ∧ i = .int .i64 n ∧ GI w wr P n (P.length + 1) vs) (fun i _ => P.length - (intOf i).toNat)
  case atStart => exact ⟨0, _, Nat.zero_le _, rfl, HI1.out⟩
  clear HI1
  case round =>
    obtain ⟨n, vs, hn, rfl, hI⟩ := hrel
    have HI := Lib.hid hI; clear hI
    generalize wr = W1 at *
    by_cases hlt : n < P.length
    · obtain ⟨b1, o1, ha1, _, c0⟩ := (HA.out.below HI.out.bw).num hlt
      subst ha1
      have i3 : (n : Int) < (P.length : Int) := by omega
      have i4 : (0 : Int) ≤ (n : Int) := by omega
      have hr := HP.out P[n] (List.getElem_mem hlt)
      obtain ⟨j, hj⟩ : ∃ j : Nat, P[n] = (j : Int) - 1 := ⟨(P[n] + 1).toNat, by omega⟩
      have HPJ := Lib.hid hj
      rw [hj] at c0 hr
      clear hj
      have hjl : j < P.length + 1 := by omega
      have i5 : IntKind.i64.wrap ((j : Int) - 1 + 1) = (j : Int) := by rw [IntWalk.i64_in _ (by omega)]; omega
      have i6 : (j : Int) < ((P.length + 1 : Nat) : Int) := by omega
      have i7 : (0 : Int) ≤ (j : Int) := by omega
      obtain ⟨u, hu, hown⟩ := HI.out.at_ j hjl
      obtain ⟨ua, uc, rfl, _, _, _⟩ := own_slice hown
      have c1 := HI.out.ow.cellAt j (by omega)
      rw [hu] at c1
      have HU := Lib.hid hu; have HO := Lib.hid hown; clear hu hown
      have hkl := kdN_le P n j
      have hWl := HI.out.lt
      have hne : (Value.slice (some ⟨w.heap.size, 0, none⟩) (P.length + 1) (P.length + 1)).ownBlock ≠ (Value.slice ua (kdN P n j).length uc).ownBlock := fun e => by
        have e : (Value.slice ua (kdN P n j).length uc).ownBlock = some w.heap.size := e.symm
        have := (own_shape HO.out e).1; omega
      go_wp2_with (at_builtin
                   refine wpList_append_rd _ rfl (.tmp 24) (.tmp 26) 22 rfl (w.heap.size + 1) 3 i0 _ 1 8 Try.underlying22 hi0 hz0 hz1 HZ2.out rfl (by omega) (.slice ua (kdN P n j).length uc) (kdN P n j).length _ rfl (own_below HO.out (box1 _ _)) _ _ 1 1 [.int .i64 (n : Int)] rfl rfl (lit_rd W1 #[.int .i64 (n : Int)] _) (by intro u hu; obtain rfl := List.mem_singleton.1 hu; rfl) (by unfold maxLen; omega) (by omega) (by simp; omega) ?_
                   intro v4 w4 hown4 hg4 hat4
                   obtain ⟨va4, vc4, rfl, _, _, _⟩ := own_slice hown4
                   have HG := Lib.hid (HI.out.push _ hjl HU.out hlt HPJ.out hown4 hg4 hat4)
                   have how4 := (own_below HI.out.ow (box1 W1 _)).kept hg4 (.inr hne)
                   have c5 := how4.cellAt j (by omega)
                   rw [HU.out] at c5
                   have f5 := how4.frozenAt j
                   clear hown4 hg4 how4)
      go_roundw
      case rel => exact ⟨n + 1, _, by omega, by go_num, HG.out⟩
      case measure => simp [intOf]; omega
    · obtain rfl : n = P.length := by omega
      go_wp2_with fail
      go_ret
      exact ⟨_, _, HI.out.lt, rfl, HI.out.kd, HI.out.bw⟩
end Go.Proofs.Ytkjngmlebflffaa
