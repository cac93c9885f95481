import Derived.Test.YtkjngmlebflffaaUk
namespace Go.Proofs.Ytkjngmlebflffaa
open Go Go.RowKit Go.Sort
set_option linter.unusedVariables false

/-! The landed code: the least places of all cycles. -/
structure LI (w wr : World) (n : Nat) (W K : List Int) (v : Value) : Prop where
  ow : wr.ownsRow w.heap.size 3 1 (.slice (some ⟨w.heap.size, 0, none⟩) n n) n (intV W)
  ov : wr.ownsRow (w.heap.size + 1) 3 1 v K.length (intV K)
  bw : Below w.heap.size w wr
theorem LI.lt {w wr : World} {n : Nat} {W K : List Int} {v : Value} (h : LI w wr n W K v) : w.heap.size < wr.heap.size := (own_shape h.ow rfl).2.1
theorem LI.ne {w wr : World} {n : Nat} {W K : List Int} {v : Value} (h : LI w wr n W K v) : v.ownBlock = none ∨ v.ownBlock ≠ some w.heap.size := by
  cases hk : v.ownBlock with
  | none => exact .inl rfl
  | some k =>
    refine .inr fun e => ?_
    have := (own_shape h.ov hk).1
    injection e with e; omega
theorem LI.below {w wr w' : World} {n : Nat} {W K : List Int} {v : Value} (h : LI w wr n W K v) (hb : Below wr.heap.size wr w') : LI w w' n W K v :=
  ⟨own_below h.ow hb, own_below h.ov hb, bel2 h.bw hb⟩
theorem intV_set (l : List Int) (j : Nat) (x : Int) : (intV l).set j (.int .i64 x) = intV (l.set j x) := by simp [intV, List.map_set]
theorem LI.set {w wr : World} {n : Nat} {W K : List Int} {v : Value} (h : LI w wr n W K v) (j : Nat) (x : Int) : LI w (wr.setCell ⟨w.heap.size, j, none⟩ (.int .i64 x)) n (W.set j x) K v := by
  obtain ⟨h1, h2⟩ := h.ow.stored j (.int .i64 x)
  rw [intV_set] at h1
  exact ⟨h1, h.ov.kept h2 h.ne, h.bw.setCell (p := ⟨w.heap.size, j, none⟩) (Nat.le_refl _) _⟩
theorem LI.push {w wr w4 : World} {n : Nat} {W K : List Int} {v v4 : Value} {x : Int} (h : LI w wr n W K v) (o : Obj) (ho : w4.ownsRow (w.heap.size + 1) 3 1 v4 (K.length + 1) (intV K ++ [.int .i64 x])) (hg : (wr.alloc o).grownBy w4 v.ownBlock) : LI w w4 n W (K ++ [x]) v4 := by
  have hl := h.lt
  have hne : (some w.heap.size : Option Nat) ≠ v.ownBlock := by
    rcases h.ne with e | e
    · rw [e]; simp
    · exact fun e2 => e e2.symm
  refine ⟨(own_below h.ow (box1 _ _)).kept hg (.inr hne), ?_, ?_⟩
  · rw [List.length_append, intV_append]; exact ho
  · exact (h.bw.alloc (by omega) _).grown hg (by simp; omega) (fun g hg' => by have := (own_shape h.ov hg').1; omega)
set_option maxHeartbeats 4000000 in
theorem leasts_any (a : Option Addr) (c : Nat) (P : List Int) (w : World) (hP : ValidP P) (ha : Rd w w.heap.size a (intV P)) (hl : P.length ≤ 100000) :
    Calls Try.prog 24 #[.slice a P.length c] w fun e w' => ∃ v K, e = .returned v ∧ w'.ownsRow w.heap.size 3 1 v K.length (intV K) ∧ K.length ≤ P.length ∧ Leasts P K ∧ Below w.heap.size w w' := by
  obtain ⟨i0, hi0, hz0, hz1, hz2⟩ := info_parts info_int
  have HZ2 := Lib.hid hz2; clear hz2
  have HA := Lib.hid ha; have HP := Lib.hid hP; clear ha hP
  go_enter Try.func24, Try.ntmps24
  go_wp2_with (at_make
               refine wpList_make_full _ rfl (.tmp 9) (.tmp 9) 22 rfl w.heap.size 3 i0 _ 1 Try.underlying22 hi0 hz0 hz1 .i64 .i64 _ _ P.length rfl rfl rfl rfl (by rw [HZ2.out]; omega) (by unfold maxLen; omega) (Nat.le_refl _) ?_
               intro w1 hown1 hg1
               have HB1 := Lib.hid ((RowKit.Below.refl w.heap.size w).grown hg1 (Nat.le_refl _) (by simp))
               have HO1 := Lib.hid hown1; clear hown1 hg1)
  have HI1 : Hid (LI w w1 P.length (List.replicate P.length 0) [] (.slice none 0 0)) := by
    have e : intV (List.replicate P.length 0) = (madeCells (Value.int .i64 0).cells (P.length * 1)).toList := by
      simp [intV, toList_madeCells_one, Value.cells]
    exact ⟨by rw [e]; exact HO1.out, ⟨rfl, .inl ⟨rfl, rfl⟩⟩, HB1.out⟩
  clear HO1 HB1
  go_loopw [3, 13] (fun v i wr => ∃ (s : Nat) (v' : Value) (W K : List Int), s ≤ P.length ∧ i = .int .i64 s ∧ v' = v ∧ Wk P W K s ∧ K.length ≤ s ∧ LI w wr P.length W K v') (fun _ i _ => P.length - (intOf i).toNat)
  case atStart => exact ⟨0, _, _, [], Nat.zero_le _, rfl, rfl, Wk.new P, Nat.le_refl _, HI1.out⟩
  case round =>
    obtain ⟨s, v, W, K, hs, rfl, hv, hk, hkl, hI⟩ := hrel
    subst hv
    obtain ⟨va, vc, rfl, _, _, _⟩ := own_slice hI.ov
    have HK := Lib.hid hk; have HI := Lib.hid hI; clear hk hI
    generalize wr = W1 at *
    by_cases hlt : s < P.length
    · have i3 : (s : Int) < (P.length : Int) := by omega
      have i4 : (0 : Int) ≤ (s : Int) := by omega
      have i5 : IntKind.i64.wrap ((s : Int) + 1) = (s : Int) + 1 := IntWalk.i64_in _ (by omega)
      go_wp2_with fail
      go_step3
      go_wp2_with fail
      go_step3
      go_wp2_with fail
      go_loopg [3, 7] P.length (fun kx s3 s7 wr => ∃ (m : Nat) (y : Int) (W2 : List Int), s3 = .slice va K.length vc ∧ s7 = .int .i64 y ∧ y = upL P m s ∧ Wi P W K W2 s m ∧ P.length - m ≤ kx ∧ LI w wr P.length W2 K (.slice va K.length vc))
      case atStart => exact ⟨0, s, W, rfl, rfl, rfl, HK.out.start hlt, Nat.le_refl _, HI.out⟩
      case round =>
        obtain ⟨m, y, W2, rfl, rfl, hy, hwi, hmk, hI2⟩ := hrel
        have HY := Lib.hid hy; have HW := Lib.hid hwi; have HI2 := Lib.hid hI2; clear hy hwi hI2
        generalize wr = W3 at *
        have hms := HW.out.size HP.out
        by_cases hy0 : y = -1
        · have HF : Hid (Wk P W2 K (s + 1)) := HW.out.out HP.out (by rw [← HY.out]; omega)
          subst hy0
          go_wp2_with fail
          rw [Exit.noGoto_normal]
          go_wp2_with fail
          go_roundw
          case rel => exact ⟨s + 1, _, W2, K, by omega, by go_num, rfl, HF.out, by omega, HI2.out⟩
          case measure => simp [intOf]; omega
        · have hyr := upL_range HP.out m s (by omega) (by omega)
          rw [← HY.out] at hyr
          have hy1 : 0 ≤ y := by omega
          have hy2 : y < (P.length : Int) := by omega
          have hyn : y.toNat < P.length := by omega
          have hynW : y.toNat < W2.length := by rw [HW.out.len]; exact hyn
          have q0 : (y != -1) = true := by simpa using hy0
          have c0 := HI2.out.ow.cellAt y.toNat (by omega)
          rw [intV_get hynW] at c0
          have HZ : Hid (W2.getD y.toNat 0 = W2[y.toNat]) := by show _ = _; simp [List.getD, hynW]
          have HS := Lib.hid (fun h1 h2 => HW.out.step HP.out (by rw [← HY.out]; exact h1) (by rw [← HY.out]; exact h2))
          rw [← HY.out] at HS
          have HE := Lib.hid (fun h1 h2 => HW.out.seen HP.out (by rw [← HY.out]; exact hy1) (by rw [← HY.out]; exact h1) (by rw [← HY.out]; exact h2))
          have HSET := Lib.hid (HI2.out.set y.toNat ((s : Int) + 1))
          have hfr := HI2.out.ow.frozenAt y.toNat
          have hlt3 := HI2.out.lt
          rw [HZ.out] at HS HE
          generalize W2[y.toNat] = z at *
          by_cases hzz : z = 0
          · have q1 : (z == 0) = true := by simpa using hzz
            obtain ⟨b1, o1, ha1, hB1, c1⟩ := (HA.out.below HSET.out.bw).num hyn
            have HN : Hid (P[y.toNat] = upL P (m + 1) s) := by
              show _ = _
              rw [upL_next, ← HY.out, upL_one hy1]; simp [List.getD, hyn]
            have HS2 := Lib.hid (HS.out hy1 hzz)
            have hms2 := HS2.out.size HP.out
            generalize P[y.toNat] = z2 at *
            subst ha1 hzz
            go_wp2_with fail
            go_roundg (P.length - (m + 1))
            case measure => omega
            case rel => exact ⟨m + 1, z2, _, rfl, rfl, HN.out, HS2.out, Nat.le_refl _, HSET.out⟩
          · have q1 : (z == 0) = false := by simpa using hzz
            by_cases hzs : z = (s : Int) + 1
            · have q2 : (z == (s : Int) + 1) = true := by simpa using hzs
              have HON : Hid (onL P y = true) := by
                show _ = _
                rw [HY.out]
                exact HW.out.back HP.out (by rw [← HY.out]; exact hy1) (by rw [← HY.out, HZ.out]; exact hzs)
              have HLO := Lib.hid (fun c hc hl t ht => HW.out.loop HP.out (by rw [← HY.out]; exact hy1) (by rw [← HY.out, HZ.out]; exact hzs) (c := c) hc hl (t := t) ht)
              rw [← HY.out] at HLO
              have hov := HI2.out.ov
              go_wp2_with (first
                | (go_at_call 33
                   refine (least_any a c P y W3 HP.out ((HA.out.below HI2.out.bw).more HI2.out.bw.size) (by omega) hy1 hy2 HON.out).mono ?_
                   rintro e W4 ⟨⟨k, rfl, hk1, hk2, t, hk3⟩, hb4⟩
                   have HF := Lib.hid (HLO.out k hk1 hk2 t hk3)
                   have HI4 := Lib.hid (HI2.out.below hb4)
                   clear hk1 hk2 hk3 hb4)
                | (at_builtin
                   refine wpList_append_rd _ rfl (.tmp 38) (.tmp 42) 22 rfl (w.heap.size + 1) 3 i0 _ 1 8 Try.underlying22 hi0 hz0 hz1 HZ2.out rfl (by omega) (.slice va K.length vc) K.length _ rfl (own_below HI4.out.ov (box1 _ _)) _ _ 1 1 [.int .i64 (k : Int)] rfl rfl (lit_rd W4 #[.int .i64 (k : Int)] _) (by intro u hu; obtain rfl := List.mem_singleton.1 hu; rfl) (by unfold maxLen; omega) (by omega) (by have := HI4.out.lt; simp; omega) ?_
                   intro v6 w6 hown6 hg6 _
                   have HI6 := Lib.hid (HI4.out.push _ hown6 hg6)
                   clear hown6 hg6))
              rw [Exit.noGoto_normal]
              go_wp2_with fail
              go_roundw
              case rel => exact ⟨s + 1, _, W2, _, by omega, by go_num, rfl, HF.out, by rw [List.length_append]; simp; omega, HI6.out⟩
              case measure => simp [intOf]; omega
            · have q2 : (z == (s : Int) + 1) = false := by simpa using hzs
              have HF := Lib.hid (HE.out hzz hzs)
              go_wp2_with fail
              rw [Exit.noGoto_normal]
              go_wp2_with fail
              go_roundw
              case rel => exact ⟨s + 1, _, W2, K, by omega, by go_num, rfl, HF.out, by omega, HI2.out⟩
              case measure => simp [intOf]; omega
    · obtain rfl : s = P.length := by omega
      have HF := Lib.hid HK.out.all
      have HO := Lib.hid (own_base HI.out.ov (Nat.le_succ _)); have HB := Lib.hid HI.out.bw
      go_wp2_with fail
      go_ret
      exact ⟨_, K, rfl, HO.out, hkl, HF.out, HB.out⟩
end Go.Proofs.Ytkjngmlebflffaa

