import Derived.Test.YthpdaimeaomnkaaOa
import Derived.Test.YthpdaimeaomnkaaGb
import Derived.Deep.RegionWith
namespace Go.Proofs.Ythpdaimeaomnkaa
open Go.RowKit Go.Sort
def numI (x y : Bool) : Int := if x then -1 else if y then 1 else 0
set_option maxHeartbeats 400000 in
theorem number_any (x y : Bool) (w : World) : Calls Try.prog 24 #[.bool x, .bool y] w fun e w' => e = .returned (.int .i64 (numI x y)) ∧ w = w' := by
  cases x <;> cases y
  all_goals
    go_enter Try.func24, Try.ntmps24
    go_wp2
    go_ret
    exact ⟨rfl, rfl⟩
theorem numI_c3 (x y : Int) : numI (decide (x < y)) (decide (y < x)) = c3 x y := by
  simp [numI, c3]

theorem lexI_step (x y : ByteArray) (k : Nat) (h1 : k < x.size) (h2 : k < y.size) :
    lexI (x.data.toList.drop k) (y.data.toList.drop k) = if x[k] < y[k] then -1 else if y[k] < x[k] then 1 else lexI (x.data.toList.drop (k + 1)) (y.data.toList.drop (k + 1)) := by
  rw [List.drop_eq_getElem_cons (l := x.data.toList) (by simpa using h1), List.drop_eq_getElem_cons (l := y.data.toList) (by simpa using h2)]
  rfl
theorem lexI_end (x y : ByteArray) (k : Nat) (hx : k ≤ x.size) (_hy : k ≤ y.size) (h : ¬ (k < x.size ∧ k < y.size)) :
    lexI (x.data.toList.drop k) (y.data.toList.drop k) = if x.size < y.size then -1 else if y.size < x.size then 1 else 0 := by
  by_cases h1 : k < x.size
  · have : y.data.toList.drop k = [] := List.drop_eq_nil_of_le (by simp; omega)
    rw [this, List.drop_eq_getElem_cons (by simpa using h1), if_neg (by omega), if_pos (by omega)]; rfl
  · have : x.data.toList.drop k = [] := List.drop_eq_nil_of_le (by simp; omega)
    rw [this]
    by_cases h2 : k < y.size
    · rw [List.drop_eq_getElem_cons (by simpa using h2), if_pos (by omega)]; rfl
    · have : y.data.toList.drop k = [] := List.drop_eq_nil_of_le (by simp; omega)
      rw [this, if_neg (by omega), if_neg (by omega)]; rfl

set_option maxHeartbeats 1000000 in
theorem refText_any (x y : ByteArray) (w : World) (hx : x.size ≤ maxLen) (_hy : y.size ≤ maxLen) :
    Calls Try.prog 25 #[.string x, .string y] w fun e w' => e = .returned (.int .i64 (lexS x y)) ∧ Below w.heap.size w w' := by
  unfold maxLen at hx
  go_enter Try.func25, Try.ntmps25
  go_wp2
  go_loopw [5] (fun i wr => ∃ k : Nat, k ≤ x.size ∧ k ≤ y.size ∧ i = .int .i64 k ∧ lexS x y = lexI (x.data.toList.drop k) (y.data.toList.drop k) ∧ Below w.heap.size w wr) (fun i _ => x.size - (intOf i).toNat)
  case atStart => exact ⟨0, Nat.zero_le _, Nat.zero_le _, rfl, rfl, Below.refl _ _⟩
  case round =>
    obtain ⟨k, hk, hk', rfl, hl, hb⟩ := hrel
    have HL := Lib.hid hl; clear hl
    by_cases hlt : k < x.size ∧ k < y.size
    · obtain ⟨hlx, hly⟩ := hlt
      have HS := Lib.hid (lexI_step x y k hlx hly)
      have i1 : (0 : Int) ≤ (k : Int) := by omega
      have i2 : (k : Int) < (x.size : Int) := by omega
      have i4 : (k : Int) < (y.size : Int) := by omega
      by_cases c1 : (x[k].toNat : Int) < (y[k].toNat : Int)
      · have HE : Hid (lexS x y = -1) := by
          show _ = _; rw [HL.out, HS.out, if_pos (UInt8.lt_iff_toNat_lt.2 (by omega))]
        clear HS HL
        go_wp2
        go_quiet (fail)
        go_wp2
        go_ret
        exact ⟨ret_i64 HE.out.symm, Below_drewN hb _⟩
      · have hn : ¬ x[k] < y[k] := fun h => c1 (by have := UInt8.lt_iff_toNat_lt.1 h; omega)
        by_cases c2 : (y[k].toNat : Int) < (x[k].toNat : Int)
        · have HE : Hid (lexS x y = 1) := by
            show _ = _; rw [HL.out, HS.out, if_neg hn, if_pos (UInt8.lt_iff_toNat_lt.2 (by omega))]
          clear HS HL hn
          go_wp2
          go_quiet (fail)
          go_wp2
          go_quiet (fail)
          go_wp2
          go_ret
          exact ⟨ret_i64 HE.out.symm, Below_drewN (Below_drewN hb _) _⟩
        · have hn2 : ¬ y[k] < x[k] := fun h => c2 (by have := UInt8.lt_iff_toNat_lt.1 h; omega)
          have HE : Hid (lexS x y = lexI (x.data.toList.drop (k + 1)) (y.data.toList.drop (k + 1))) := by
            show _ = _; rw [HL.out, HS.out, if_neg hn, if_neg hn2]
          clear HS HL hn hn2
          go_wp2
          go_quiet (fail)
          go_wp2
          go_quiet (fail)
          go_wp2
          go_roundw
          case rel => exact ⟨k + 1, by omega, by omega, by go_num, HE.out, Below_drewN hb _⟩
          case measure => simp [intOf]; omega
    · have HS := Lib.hid (lexI_end x y k hk hk' hlt)
      by_cases hkx : k < x.size
      · have h1 : ¬ k < y.size := by omega
        clear hlt
        go_wp2
        go_ret
        exact ⟨ret_i64 (by rw [HL.out, HS.out, if_neg (by omega), if_pos (by omega)]), hb⟩
      · clear hlt
        by_cases hky : x.size < y.size
        · go_wp2
          go_ret
          exact ⟨ret_i64 (by rw [HL.out, HS.out, if_pos (by omega)]), hb⟩
        · by_cases hkz : y.size < x.size
          · go_wp2
            go_ret
            exact ⟨ret_i64 (by rw [HL.out, HS.out, if_neg (by omega), if_pos (by omega)]), hb⟩
          · go_wp2
            go_ret
            exact ⟨ret_i64 (by rw [HL.out, HS.out, if_neg (by omega), if_neg (by omega)]), hb⟩

set_option maxRecDepth 100000 in
set_option maxHeartbeats 4000000 in
theorem refCmp_any (a b : Sp) (w : World) (h1 : a.host.size ≤ maxLen) (h2 : b.host.size ≤ maxLen) (h3 : a.name.size ≤ maxLen) (h4 : b.name.size ≤ maxLen) :
    Calls Try.prog 13 #[a.v, b.v] w fun e w' => e = .returned (.int .i64 (cmpI a b)) ∧ Below w.heap.size w w' := by
  unfold Sp.v
  have H1 := Lib.hid h1; have H2 := Lib.hid h2; have H3 := Lib.hid h3; have H4 := Lib.hid h4
  clear h1 h2 h3 h4
  go_enter Try.func13, Try.ntmps13
  go_wp2_with fail
  obtain ⟨W, hW⟩ : ∃ W, W = (w.alloc (.cells a.c 29)).alloc (.cells b.c 29) := ⟨_, rfl⟩
  have hb : Below w.heap.size w W := by rw [hW]; exact ((Below.refl _ _).alloc (Nat.le_refl _) _).alloc (by simp) _
  have hA : Box W w.heap.size a := by rw [hW]; exact (Box.new w a 29).below ((Below.refl (w.heap.size + 1) _).alloc (by simp) _) (by omega)
  have hB : Box W (w.heap.size + 1) b := by have := Box.new (w.alloc (.cells a.c 29)) b 29; rw [hW]; simpa using this
  show Code.wp _ _ _ _ ((w.alloc (.cells a.c 29)).alloc (.cells b.c 29))
  rw [← hW]
  clear hW
  have hcg : ∀ d os n o, n < W.heap.size → (grow (redrawn W d) os).cell? ⟨n, o, none⟩ = W.cell? ⟨n, o, none⟩ := fun d os n o h => (below_regrown W d os).cell h
  have q1 := hA.1; have q2 := hB.1
  obtain ⟨a0, a1, a2, a3, a4, a5, a6, a7⟩ := hA.all
  obtain ⟨b0, b1, b2, b3, b4, b5, b6, b7⟩ := hB.all
  clear hA hB
  have HB := Lib.hid hb; clear hb
  refine wp_region_below_tail 76 (by kernel_rfl) (by kernel_rfl) ?_
  simp only [List.append, List.take_succ_cons, List.take_zero, List.drop_succ_cons, List.drop_zero]
  iterate 76 (first | go_big_quiet_step (first | (go_at_call 24; exact Calls.regrown_of ((number_any _ _ _).mono fun e w' h => ⟨h.1, h.2 ▸ Below.refl _ _⟩)) | (go_at_call 25; exact Calls.regrown_of (refText_any _ _ _ H1.out H2.out)) | (go_at_call 25; exact Calls.regrown_of (refText_any _ _ _ H3.out H4.out))) | fail)
  refine wpQuiet_nil ?_
  intro w' hw'
  obtain ⟨⟨d, os⟩, hw''⟩ := hw'
  have hb2 := below_regrown W d os
  rw [← hw''] at hb2
  clear hw''
  have HB2 := Lib.hid hb2; clear hb2
  clear hcg a0 a1 a2 a3 a4 a5 a6 a7 b0 b1 b2 b3 b4 b5 b6 b7 q1 q2
  simp only [numI_c3]
  go_wp2
  obtain ⟨X, hX⟩ : ∃ X, X = w'.alloc (.cells #[.int .i64 (c3 a.start b.start), .int .i64 (c3 a.id b.id), .int .i64 (c3 a.parent b.parent), .int .i64 (c3 a.kind b.kind), .int .i64 (c3 a.dur b.dur), .int .i64 (lexS a.host b.host), .int .i64 (lexS a.name b.name), .int .i64 (c3 a.trace b.trace)] 3) := ⟨_, rfl⟩
  have hcell : ∀ n, n < 8 → X.cell? ⟨w'.heap.size, n, none⟩ = some (.int .i64 (cmpAt a b n)) := by
    intro n hn
    rw [hX, World.cell?_alloc_at _ _ _ _ rfl]
    rcases (show n = 0 ∨ n = 1 ∨ n = 2 ∨ n = 3 ∨ n = 4 ∨ n = 5 ∨ n = 6 ∨ n = 7 by omega) with rfl | rfl | rfl | rfl | rfl | rfl | rfl | rfl <;> rfl
  have HX : Hid (Below w.heap.size w X) := by
    show Below _ _ _
    rw [hX]
    exact (HB.out.trans (HB2.out.mono HB.out.size)).alloc (Nat.le_trans HB.out.size HB2.out.size) _
  rw [← hX]
  clear hX HB HB2 H1 H2 H3 H4
  have HC := Lib.hid hcell; clear hcell
  go_loop [6] (fun i => ∃ n : Nat, n ≤ 8 ∧ i = .int .i64 n ∧ (∀ j < n, cmpAt a b j = 0)) (fun i => 8 - (intOf i).toNat)
  case atStart => exact ⟨0, by omega, rfl, fun _ h => by omega⟩
  case round =>
    obtain ⟨n, hn, rfl, hz⟩ := hrel
    have HZ := Lib.hid hz; clear hz
    by_cases hlt : n < 8
    · have i1 : (0 : Int) ≤ (n : Int) := by omega
      have i2 : (n : Int) < 8 := by omega
      by_cases hx : cmpAt a b n = 0
      · have HE := Lib.hid hx
        have hc := HC.out n hlt
        rw [hx] at hc
        clear hx
        go_wp2
        go_round
        case rel => exact ⟨n + 1, by omega, by go_num, fun j hj => by
            by_cases e : j = n
            · subst e; exact HE.out
            · exact HZ.out j (by omega)⟩
        case measure => simp [intOf]; omega
      · have hc := HC.out n hlt
        have hx1 : (cmpAt a b n == 0) = false := by simpa using hx
        have hx2 : (cmpAt a b n != 0) = true := by simpa using hx
        have HE := Lib.hid hx; clear hx
        go_wp2
        go_ret
        exact ⟨ret_i64 (firstNZ_at (cmpL a b) n HZ.out HE.out).symm, HX.out⟩
    · have : n = 8 := by omega
      subst this
      go_wp2
      go_ret
      exact ⟨ret_i64 (firstNZ_none (cmpL a b) HZ.out).symm, HX.out⟩
end Go.Proofs.Ythpdaimeaomnkaa
