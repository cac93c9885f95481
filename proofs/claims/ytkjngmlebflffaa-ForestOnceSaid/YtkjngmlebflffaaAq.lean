import Derived.Test.YtkjngmlebflffaaAp
import Derived.Test.YtkjngmlebflffaaAd
import Derived.Test.YtkjngmlebflffaaUo
import Derived.Laws.EntriesVeiled
namespace Go.Proofs.Ytkjngmlebflffaa
open Go Go.RowKit Go.Sort
set_option linter.unusedVariables false

/-! The landed code: Row, Depth (stage 11). -/
theorem its_zero : ∀ n, itsV (List.replicate n (⟨0, 0, 0⟩ : It)) = List.replicate (n * 3) (Value.int .i64 0)
  | 0 => rfl
  | n + 1 => by
    have e : List.replicate (n + 1) (⟨0, 0, 0⟩ : It) = [⟨0, 0, 0⟩] ++ List.replicate n (⟨0, 0, 0⟩ : It) := by simp [List.replicate_succ]
    rw [e, itsV_append, its_zero n, show (n + 1) * 3 = 3 + n * 3 by omega, ← List.replicate_append_replicate]
    rfl
theorem zero_items (n : Nat) : (madeCells (Value.agg #[.int .i64 0, .int .i64 0, .int .i64 0]).cells (n * 3)).toList = itsV (List.replicate n (⟨0, 0, 0⟩ : It)) := by
  rw [its_zero]
  apply List.ext_getElem?
  intro j
  by_cases hj : j < n * 3
  · have h3 : j % 3 = 0 ∨ j % 3 = 1 ∨ j % 3 = 2 := by omega
    rcases h3 with h | h | h <;> simp [madeCells, Value.cells, hj, h]
  · simp [madeCells, hj]
set_option maxHeartbeats 4000000 in
theorem row_pays : RowPay 9 := by
  intro a c P w ha hl hok
  obtain ⟨i0, hi0, hz0, hz1, hz2⟩ := info_parts info_item
  have HZ2 := Lib.hid hz2; clear hz2
  have HA := Lib.hid ha; have HOK := Lib.hid hok; clear ha hok
  have hmf : ∀ (fn : Fn) (first cap : Array Value) (w : World), (Instr.makeFunc fn first cap).run Try.prog w = .ok (.func fn first cap) w := fun _ _ _ _ => rfl
  go_enter Try.func9, Try.ntmps9
  cases hr : rightL P with
  | false =>
    go_wp2_with (go_at_call 17
                 refine (right_pays a c P w HA.out hl HOK.out).mono ?_
                 rintro e w1 ⟨he, hb1⟩
                 rw [hr] at he
                 subst he
                 have HB1 := Lib.hid hb1; clear hb1)
    go_ret
    exact ⟨_, rfl, by rw [row_no hr]; exact World.ownsRow_nil _ _ _ _, HB1.out⟩
  | true =>
    go_wp2_with (first
      | (go_at_call 17
         refine (right_pays a c P w HA.out hl HOK.out).mono ?_
         rintro e w1 ⟨he, hb1⟩
         rw [hr] at he
         subst he
         have HB1 := Lib.hid hb1; clear hb1)
      | (go_at_call 18
         refine (grouped_any a c P w1 (right_valid hr) ((HA.out.below HB1.out).more HB1.out.size) hl).mono ?_
         rintro e w2 ⟨kb0, kc, hkb, rfl, hkd, hb2⟩
         have HKD := Lib.hid hkd; have HB2 := Lib.hid (bel2 HB1.out hb2); clear hkd hb2)
      | (go_at_call 19
         refine (sizes_any (some ⟨kb0, 0, none⟩) kc P _ hr ((HKD.out.below (box1 _ _)).more (by simp)) hl).mono ?_
         rintro e w4 ⟨sb0, S, rfl, hsb, hSl, hsz, hSZ, hb4⟩
         have HKB : Hid (w4.cell? ⟨w2.heap.size, 0, none⟩ = some (.slice (some ⟨kb0, 0, none⟩) (P.length + 1) kc)) := by
           show _ = _
           rw [hb4.cell (p := ⟨w2.heap.size, 0, none⟩) (by simp)]; simp
         have HKD4 := Lib.hid ((HKD.out.below (box1 w2 (.cells #[.slice (some ⟨kb0, 0, none⟩) (P.length + 1) kc] 37))).below (hb4.mono (by simp)))
         have HB4 := Lib.hid (bel2 HB2.out ((box1 w2 (.cells #[.slice (some ⟨kb0, 0, none⟩) (P.length + 1) kc] 37)).trans (hb4.mono (by simp))))
         have h24 := hb4.size
         rw [World.size_alloc] at h24
         have HSS := Lib.hid hsz; have HSZ := Lib.hid hSZ
         clear hb4 hsz hSZ)
      | (at_make
         refine wpList_make_full _ rfl (.tmp 15) (.tmp 15) 25 rfl w.heap.size 35 i0 _ 3 Try.underlying25 hi0 hz0 hz1 .i64 .i64 _ _ P.length rfl rfl rfl rfl (by rw [HZ2.out]; omega) (by unfold maxLen; omega) (by have := HB4.out.size; simp; omega) ?_
         intro w6 hown6 hg6
         have HO6 := Lib.hid hown6; have HG6 := Lib.hid hg6
         clear hown6 hg6))
    have h6 : w4.heap.size + 1 < w6.heap.size := by
      have h := (own_shape HO6.out rfl).2.1
      simpa using h
    obtain ⟨W8, hW8⟩ : ∃ W8, ((w6.alloc (.cells #[.slice (some ⟨w4.heap.size + 1, 0, none⟩) P.length P.length] 25)).alloc (.cells #[.func (.func 20) #[] #[.pointer (some ⟨w2.heap.size, 0, none⟩), .pointer (some ⟨w4.heap.size, 0, none⟩), .pointer (some ⟨w6.heap.size, 0, none⟩), .pointer (some ⟨w6.heap.size + 1, 0, none⟩)]] 40)) = W8 := ⟨_, rfl⟩
    have h48 : Below w4.heap.size w4 W8 := by
      rw [← hW8]
      exact ((((box1 w4 _).grown HG6.out (by simp) (fun g e => by cases e)).alloc (by omega) _).alloc (by simp; omega) _)
    have h68 : Below w6.heap.size w6 W8 := by
      rw [← hW8]
      exact (box1 w6 _).alloc (by simp) _
    have c2 : W8.cell? ⟨w4.heap.size, 0, none⟩ = some (.slice (some ⟨sb0, 0, none⟩) P.length P.length) := by
      have h5 : (w4.alloc (.cells #[.slice (some ⟨sb0, 0, none⟩) P.length P.length] 22)).cell? ⟨w4.heap.size, 0, none⟩ = some (.slice (some ⟨sb0, 0, none⟩) P.length P.length) := by simp
      rw [h68.cell (p := ⟨w4.heap.size, 0, none⟩) (by simp; omega)]
      exact (World.cell?_of_block (a := ⟨w4.heap.size, 0, none⟩) (HG6.out.block w4.heap.size (by simp) (by simp))).trans h5
    have c3 : W8.cell? ⟨w6.heap.size, 0, none⟩ = some (.slice (some ⟨w4.heap.size + 1, 0, none⟩) P.length P.length) := by
      rw [← hW8]; simp
    have c4 : W8.cell? ⟨w6.heap.size + 1, 0, none⟩ = some (.func (.func 20) #[] #[.pointer (some ⟨w2.heap.size, 0, none⟩), .pointer (some ⟨w4.heap.size, 0, none⟩), .pointer (some ⟨w6.heap.size, 0, none⟩), .pointer (some ⟨w6.heap.size + 1, 0, none⟩)]) := by
      rw [← hW8, World.cell?_alloc_at _ _ _ _ (by simp)]; simp
    have HLS : Hid (LS W8 w.heap.size P ⟨w2.heap.size, w4.heap.size, w6.heap.size, w6.heap.size + 1, w4.heap.size + 1, some ⟨kb0, 0, none⟩, kc, some ⟨sb0, 0, none⟩, P.length, S⟩ ([] ++ (List.replicate P.length (⟨0, 0, 0⟩ : It) ++ []))) := by
      have ho := HO6.out
      rw [zero_items, World.size_alloc] at ho
      refine ⟨(h48.cell (p := ⟨w2.heap.size, 0, none⟩) (by simp; omega)).trans HKB.out, c2, c3, c4, ((HKD4.out.below (h48.mono (by omega))).more (by simp; omega)), (HSS.out.below h48).more (by simp), ?_, by simp; omega, by simp, by simp; omega, by simp; omega⟩
      rw [List.nil_append, List.append_nil]
      exact own_below ho h68
    have HB8 := Lib.hid (bel2 HB4.out h48)
    rw [hW8]
    clear hW8 h48 h68 c2 c3 c4 HKB HKD4 HSS HO6 HG6
    refine (lay_any hr hl (-1) 0 (at_root P) W8 w.heap.size _ [] _ [] HLS.out (by rw [List.length_replicate, row_length hr]) hSl HSZ.out).mono ?_
    rintro e w9 ⟨⟨v9, rfl⟩, hLS, hg9⟩
    have c5 := hLS.bb
    have HL9 := Lib.hid hLS; have HG9 := Lib.hid hg9
    have h4w := HB4.out.size
    clear hLS hg9
    go_wp2_with fail
    go_ret
    have hown := HL9.out.own
    rw [List.nil_append, List.append_nil] at hown
    refine ⟨_, rfl, ?_, HB8.out.grown HG9.out HB8.out.size (fun g e => by injection e with e; omega)⟩
    rw [row_yes hr, row_length hr]
    exact hown
set_option maxHeartbeats 2000000 in
theorem depth_pays : DepthPay 11 := by
  intro a c P w ha hl hok
  have HA := Lib.hid ha; have HOK := Lib.hid hok; clear ha hok
  have hrl := row_le P
  have HD := Lib.hid (fun i h => depthT_step (R := rowL P) (n := i) h)
  go_enter Try.func11, Try.ntmps11
  go_wp2_with (go_at_call 9
               refine (row_pays a c P w HA.out hl HOK.out).mono ?_
               rintro e w1 ⟨v, rfl, hown, hb⟩
               obtain ⟨va, vc, rfl, _, _, _⟩ := own_slice hown
               have HO := Lib.hid hown; have HB := Lib.hid hb; clear hown hb)
  have HF : Hid (depthT (rowL P) (rowL P).length = depthL P) := rfl
  generalize rowL P = R at *
  go_loopw [3, 9] (fun m i wr => ∃ (n : Nat) (x : Int), n ≤ R.length ∧ i = .int .i64 n ∧ m = .int .i64 x ∧ Hid (x = depthT R n) ∧ Below w.heap.size w wr ∧ Below w1.heap.size w1 wr) (fun _ i _ => R.length - (intOf i).toNat)
  case atStart => exact ⟨0, -1, Nat.zero_le _, rfl, rfl, Lib.hid rfl, HB.out, Below.refl _ _⟩
  case round =>
    obtain ⟨n, x, hn, rfl, rfl, HX, hw, hw1⟩ := hrel
    have HBW := Lib.hid hw; have HBW1 := Lib.hid hw1; clear hw hw1
    have hs1 := HB.out.size
    have hs2 := HBW1.out.size
    by_cases hlt : n < R.length
    · obtain ⟨b1, o1, ha1, _, c0, c1, c2⟩ := ((Rd.own HO.out).below HBW1.out).item hlt
      subst ha1
      have i3 : (n : Int) < (R.length : Int) := by omega
      have i4 : (0 : Int) ≤ (n : Int) := by omega
      have HS := Lib.hid (HD.out n hlt)
      rw [← HX.out] at HS
      generalize R[n] = y at *
      by_cases hd : x < (y.depth : Int)
      · have HE : Hid ((y.depth : Int) = depthT R (n + 1)) := by show _ = _; rw [HS.out, if_pos hd]
        go_wp2_with fail
        go_roundw
        case rel => exact ⟨n + 1, _, by omega, by go_num, rfl, HE.out, HBW.out.alloc (by omega) _, HBW1.out.alloc hs2 _⟩
        case measure => simp [intOf]; omega
      · have HE : Hid (x = depthT R (n + 1)) := by show _ = _; rw [HS.out, if_neg hd]
        go_wp2_with fail
        go_roundw
        case rel => exact ⟨n + 1, x, by omega, by go_num, rfl, HE.out, HBW.out.alloc (by omega) _, HBW1.out.alloc hs2 _⟩
        case measure => simp [intOf]; omega
    · obtain rfl : n = R.length := by omega
      rw [HF.out] at HX
      go_wp2_with fail
      go_ret
      exact ⟨ret_i64 HX.out, HBW.out⟩
end Go.Proofs.Ytkjngmlebflffaa
