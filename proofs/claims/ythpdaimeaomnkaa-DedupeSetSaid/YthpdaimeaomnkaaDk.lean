import Derived.Test.YthpdaimeaomnkaaDi
import Derived.Test.YthpdaimeaomnkaaGw
import Derived.Deep.CutBlock
import Derived.Shelf.SlicesQ.Load
import Derived.IntWalk
namespace Go.Proofs.Ythpdaimeaomnkaa
open Go Go.RowKit Go.Sort Go.Shelf
set_option linter.unusedVariables false

/-- Two places of a row, one for the other. -/
def swapL (M : List Sp) (i j : Nat) (x y : Sp) : List Sp := (M.set i y).set j x
theorem swapL_mem {M : List Sp} {i j : Nat} (hi : i < M.length) (hj : j < M.length) (z : Sp) : z ∈ swapL M i j M[i] M[j] ↔ z ∈ M := by
  unfold swapL
  constructor
  · intro h
    rcases List.mem_or_eq_of_mem_set h with h | rfl
    · rcases List.mem_or_eq_of_mem_set h with h | rfl
      · exact h
      · exact List.getElem_mem hj
    · exact List.getElem_mem hi
  · intro h
    obtain ⟨k, hk, rfl⟩ := List.mem_iff_getElem.1 h
    have get : ∀ n (hn : n < ((M.set i M[j]).set j M[i]).length), ((M.set i M[j]).set j M[i])[n] ∈ (M.set i M[j]).set j M[i] := fun n hn => List.getElem_mem hn
    by_cases hkj : k = j
    · subst hkj
      by_cases hik : i = k
      · subst hik
        have h1 := get i (by simpa using hi)
        rwa [List.getElem_set_self] at h1
      · have h1 := get i (by simpa using hi)
        rwa [List.getElem_set_ne (fun e => hik e.symm), List.getElem_set_self] at h1
    · by_cases hki : k = i
      · subst hki
        have h1 := get j (by simpa using hj)
        rwa [List.getElem_set_self] at h1
      · have h1 := get k (by simpa using hk)
        rwa [List.getElem_set_ne (fun e => hkj e.symm), List.getElem_set_ne (fun e => hki e.symm)] at h1
theorem swapL_length (M : List Sp) (i j : Nat) (x y : Sp) : (swapL M i j x y).length = M.length := by simp [swapL]
theorem Rd.byte9 {w : World} {B : Nat} {a : Option Addr} {l : List UInt8} (h : Rd w B a (bV l)) {i : Nat} (hi : i < l.length) : ∃ b off, a = some ⟨b, off, none⟩ ∧ w.cell? ⟨b, off + i, none⟩ = some (.int .u8 (l[i].toNat : Int)) := by
  obtain ⟨b, off, ha, hb, hc⟩ := h (by rw [bV_length]; omega)
  exact ⟨b, off, ha, hc i _ (by simp [bV, hi])⟩
/-- Where the law's loop stands, and what is behind it. -/
structure Turned (w wr : World) (L : List Sp) (n : Nat) (v : Value) (M : List Sp) : Prop where
  own : wr.ownsRow w.heap.size 29 8 v M.length (flatL M)
  mem : ∀ x, x ∈ M ↔ x ∈ L
  len : M.length = L.length + n
  bw : Below w.heap.size w wr

theorem Turned.below {w wr w' : World} {L : List Sp} {n : Nat} {v : Value} {M : List Sp} (h : Turned w wr L n v M) (hb : Below wr.heap.size wr w') : Turned w w' L n v M :=
  { h with own := own_below h.own hb
           bw := bel2 h.bw hb }
theorem own_loads {w : World} {base g n c : Nat} {M : List Sp} (h : w.ownsRow base 29 8 (.slice (some ⟨g, 0, none⟩) n c) n (flatL M)) {i : Nat} (hi : i < M.length) :
    Sem.run Try.prog (loadCellsFrom ⟨g, i * 8, none⟩ 0 8 #[]) w.drew = .ok (M[i]).c.toList.toArray w.drew :=
  run_loadCellsFrom_list _ _ _ _ 8 rfl fun j v hv => by
    have hl : M.length = n := by have := h.1; rw [flatL_length] at this; omega
    have hj : j < 8 := by
      rcases Nat.lt_or_ge j 8 with h | h
      · exact h
      · rw [List.getElem?_eq_none (by rw [c_len]; exact h)] at hv; cases hv
    rw [add_at, h.drew.cellAt (i * 8 + j) (by omega), flatL_get M i hi j hj]
    simpa using hv
theorem own_stores {w : World} {base g n c : Nat} {xs : List Value} (h : w.ownsRow base 29 8 (.slice (some ⟨g, 0, none⟩) n c) n xs) {i : Nat} (hi : i < n) (s : Sp) :
    Sem.run Try.prog (storeCells ⟨g, i * 8, none⟩ s.c.toList 0) w = .ok () (w.setCells g (i * 8) s.c.toList) := by
  have ht := own_thereN h hi
  have := run_storeCells_cells (P := Try.prog) g (i * 8) s.c.toList 0 w (fun j hj => by rw [Nat.add_zero]; exact (ht j (by rw [c_len] at hj; exact hj)).1) (fun j hj => by rw [Nat.add_zero]; exact (ht j (by rw [c_len] at hj; exact hj)).2)
    (fun v hv => flatL_one [s] v (by simpa [flatL] using hv))
  rwa [Nat.add_zero] at this
set_option maxHeartbeats 4000000 in
theorem law_set (a : Option Addr) (c : Nat) (L : List Sp) (t : Int) (b : Option Addr) (d : Nat) (T : List UInt8) (w : World) (ha : Rd w w.heap.size a (flatL L)) (hc1 : L.length ≤ maxLen) (hok : ∀ s ∈ L, s.Ok)
    (hb : Rd w w.heap.size b (bV T)) (hk : T.length ≤ maxLen) :
    Calls Try.prog 4 #[.slice a L.length c, .int .u64 t, .slice b T.length d] w fun e w' => e = .returned (.bool true) ∧ Below w.heap.size w w' := by
  obtain ⟨i0, hi0, hz0, hz1, hz2⟩ := info_parts info_sp
  have HZ2 := Lib.hid hz2; clear hz2
  have HA := Lib.hid ha; have HT := Lib.hid hb; have HOK := Lib.hid hok; have HC := Lib.hid hc1; clear ha hb hok
  unfold maxLen at hc1 hk
  by_cases hg : greatB L = true
  · have HG := Lib.hid hg; clear hg
    go_enter Try.func4, Try.ntmps4
    go_wp2_with (first
      | (go_at_call 7; refine (great_any a c L w HA.out HC.out HOK.out).mono ?_; rw [HG.out]; rintro e w1 ⟨rfl, hb1⟩)
      | (go_at_call 8; refine (fixed9_any _).mono ?_; rintro e w2 ⟨rfl, hb2⟩))
    go_ret
    exact ⟨rfl, bel2 hb1 hb2⟩
  have hg' : greatB L = false := by simpa using hg
  have hl60 : L.length ≤ 60 := by simp [greatB] at hg; omega
  have HG := Lib.hid hg'; clear hg hg'
  by_cases hn : 100 < T.length
  · go_enter Try.func4, Try.ntmps4
    go_wp2_with (first
      | (go_at_call 7; refine (great_any a c L w HA.out HC.out HOK.out).mono ?_; rw [HG.out]; rintro e w1 ⟨rfl, hb1⟩)
      | (go_at_call 8; refine (fixed9_any _).mono ?_; rintro e w2 ⟨rfl, hb2⟩))
    go_ret
    exact ⟨rfl, bel2 hb1 hb2⟩
  go_enter Try.func4, Try.ntmps4
  go_upto_block 0 with (first
    | (go_at_call 7
       refine (great_any a c L w HA.out HC.out HOK.out).mono ?_; rw [HG.out]; rintro e w1 ⟨rfl, hb1⟩
       have HB1 := Lib.hid hb1; clear hb1)
    | (at_builtin
       refine wpList_append_rd _ rfl (.tmp 21) (.tmp 22) 22 rfl w.heap.size 29 i0 _ 8 80 Try.underlying22 hi0 hz0 hz1 HZ2.out rfl (by omega) (.slice (some ⟨w1.heap.size, 0, none⟩) 0 0) 0 [] rfl (World.ownsRow_made w1 #[] 0 HB1.out.size (by decide) rfl) w.heap.size a L.length c (flatL L) rfl (flatL_length L) (HA.out.below (HB1.out.alloc HB1.out.size _)) (flatL_one L) (by unfold maxLen; omega) (by omega) (by have := HB1.out.size; simp; omega) ?_
       intro v2 w2 hown2 hg2 _
       rw [Nat.zero_add, List.nil_append] at hown2
       have HO2 := Lib.hid hown2
       have HB2 := Lib.hid ((HB1.out.alloc HB1.out.size _).grown hg2 (by have := HB1.out.size; simp; omega) (by intro k hk; have := HB1.out.size; simp [Value.ownBlock] at hk; omega))
       clear hown2 hg2))
  go_cut [7] from 24 to 64 (fun s7 wc => ∃ (k : Nat) (M : List Sp), k ≤ 100 ∧ Turned w wc L k s7 M)
  case first =>
    go_wp2_with fail
    go_loopw [7, 26] (fun v i wr => ∃ (n : Nat) (v' : Value) (M : List Sp), n ≤ T.length ∧ i = .int .i64 n ∧ v' = v ∧ Turned w wr L n v' M) (fun _ i _ => T.length - (intOf i).toNat)
    case atStart => exact ⟨0, _, L, Nat.zero_le _, rfl, rfl, ⟨HO2.out, fun _ => Iff.rfl, rfl, HB2.out⟩⟩
    case round =>
      obtain ⟨n, v, M, hn', rfl, hv, hI⟩ := hrel
      subst hv
      obtain ⟨va, vc, rfl, hvc1, hvc2, hvs⟩ := own_slice hI.own
      have HVS := Lib.hid hvs; have HI := Lib.hid hI; clear hvs hI
      generalize wr = W1 at *
      by_cases hlt : n < T.length
      · obtain ⟨b2, o2, hb1, hx⟩ := (HT.out.below HI.out.bw).byte9 hlt
        subst hb1
        have i1 : (0 : Int) ≤ (n : Int) := by omega
        have i2 : (n : Int) < (T.length : Int) := by omega
        have hxb : T[n].toNat < 256 := T[n].toNat_lt
        generalize T[n].toNat = x at *
        by_cases hL0 : L.length = 0
        · have hl0 : ((L.length : Int) == 0) = true := by simp [hL0]
          have HL0 := Lib.hid hL0; clear hL0
          go_wp2_with fail
          go_meet
          case rel => exact ⟨n, M, by omega, HI.out⟩
        · have hl1 : ((L.length : Int) == 0) = false := by simpa using hL0
          have hl2 : ¬ ((L.length : Int) = 0) := by omega
          obtain ⟨ka, hka⟩ : ∃ ka, ka = n % L.length := ⟨_, rfl⟩
          obtain ⟨kb, hkb⟩ : ∃ kb, kb = x % L.length := ⟨_, rfl⟩
          have hka1 : ka < L.length := by rw [hka]; exact Nat.mod_lt _ (by omega)
          have hkb1 : kb < L.length := by rw [hkb]; exact Nat.mod_lt _ (by omega)
          have hkai : (n : Int) % (L.length : Int) = (ka : Int) := by rw [hka]; simp
          have hkbi : (x : Int) % (L.length : Int) = (kb : Int) := by rw [hkb]; simp
          have hw : IntKind.i64.wrap (x : Int) = (x : Int) := IntWalk.i64_in _ ⟨by omega, by omega⟩
          clear hka hkb hL0
          go_wp2_with fail
          refine wp_region_quiet_below (by kernel_rfl) (by kernel_rfl) ?_
          iterate 11 (first | go_big_quiet_step (fail) | fail)
          refine wpQuiet_nil ?_
          intro W5 hw5
          obtain ⟨⟨d5, os5⟩, hw5'⟩ := hw5
          have hb5 := below_regrown W1 d5 os5
          rw [← hw5'] at hb5
          clear hw5' hx hw hxb
          have HI5 := Lib.hid (HI.out.below hb5); clear hb5
          have HM := Lib.hid (show ka < M.length ∧ kb < M.length from by have := HI.out.len; omega)
          obtain ⟨g, rfl, hg1, hg2⟩ := HVS.out (by have := HM.out; omega)
          have hkam : (ka : Int) < (M.length : Int) := by have := HM.out; omega
          have hkbm : (kb : Int) < (M.length : Int) := by have := HM.out; omega
          have hka0 : (0 : Int) ≤ (ka : Int) := by omega
          have hkb0 : (0 : Int) ≤ (kb : Int) := by omega
          have hla := own_loads HI5.out.own HM.out.1
          have hlb := own_loads HI5.out.own HM.out.2
          have hsa := own_stores HI5.out.own.drew HM.out.1 M[kb]
          have h1 := own_setCells (M[kb]).c.toList (ka * 8) _ _ HI5.out.own.drew
          have hsb := own_stores h1.1 HM.out.2 M[ka]
          have h2 := own_setCells (M[ka]).c.toList (kb * 8) _ _ h1.1
          rw [flatL_put M ka HM.out.1, flatL_put (M.set ka M[kb]) kb (by rw [List.length_set]; exact HM.out.2)] at h2
          have HSW := Lib.hid (fun z => swapL_mem (M := M) HM.out.1 HM.out.2 z)
          obtain ⟨W6, hW6⟩ : ∃ W6, W6 = (W5.drew.setCells g (ka * 8) (M[kb]).c.toList).setCells g (kb * 8) (M[ka]).c.toList := ⟨_, rfl⟩
          have HI6 : Hid (Turned w W6 L n (.slice (some ⟨g, 0, none⟩) M.length vc) (swapL M ka kb M[ka] M[kb])) := by
            show Turned _ _ _ _ _ _
            rw [hW6]
            refine ⟨by rw [swapL_length]; exact h2.1, fun z => (HSW.out z).trans (HI.out.mem z), by rw [swapL_length]; exact HI.out.len, ?_⟩
            exact ((Below_drewN HI5.out.bw 1).grown h1.2 (by have := HI5.out.bw.size; simpa using this) (by intro k hk; cases hk; exact hg1)).grown h2.2 (by have := HI5.out.bw.size; have := h1.2.size; simp at *; omega) (by intro k hk; cases hk; exact hg1)
          clear h1 h2 HSW
          go_wp2_with fail
          rw [hkai, hkbi]
          refine wp_mono (swap_region (by kernel_rfl) 22 29 3 8 Try.underlying22 Try.isAgg29 Try.sizeOf29 g M.length vc ka kb (M[ka]).c.toList (M[kb]).c.toList rfl rfl hla hlb hsa hsb hkam hkbm hka0 hkb0) ?_
          intro e a' w' h
          cases e with
          | normal =>
            obtain ⟨rfl, hw'⟩ := h
            obtain rfl : w' = W6 := hw'.trans hW6.symm
            clear hw' hW6 hla hlb hsa hsb HI5 HI
            obtain ⟨b7, o7, ha7, _, f0, f1, f2, f3, f4, f5, f6, f7⟩ := (HA.out.below HI6.out.bw).elem hkb1
            subst ha7
            have HLM := Lib.hid (List.getElem_mem hkb1)
            have hkl : (kb : Int) < (L.length : Int) := by omega
            obtain ⟨M2, hM2⟩ : ∃ M2, M2 = swapL M ka kb M[ka] M[kb] := ⟨_, rfl⟩
            have hl2 : M2.length = M.length := by rw [hM2, swapL_length]
            rw [← hM2] at HI6
            clear hM2
            have HO6 : Hid (w'.ownsRow w.heap.size 29 8 (.slice (some ⟨g, 0, none⟩) M.length vc) M.length (flatL M2)) := by
              have h := HI6.out.own; rw [hl2] at h; exact h
            have HL2 := Lib.hid hl2; clear hl2
            have hm160 : M.length ≤ 160 := by have := HI6.out.len; have := HL2.out; omega
            generalize L[kb] = x2 at *
            go_wp2_with (at_builtin
                         refine wpList_append_rd _ rfl (.tmp 57) (.tmp 62) 22 rfl w.heap.size 29 i0 _ 8 80 Try.underlying22 hi0 hz0 hz1 HZ2.out rfl (by omega) (.slice (some ⟨g, 0, none⟩) M.length vc) M.length _ rfl (own_below HO6.out (box1 _ _)) _ _ 1 1 (flatL [x2]) rfl rfl (lit_rd w' x2.c _) (flatL_one _) (by unfold maxLen; omega) (by omega) (by have := HI6.out.bw.size; simp; omega) ?_
                         intro v8 w8 hown8 hg8 _
                         have HI8 : Hid (Turned w w8 L (n + 1) v8 (M2 ++ [x2])) := by
                           refine ⟨by rw [List.length_append, flatL_append, HL2.out]; exact hown8, fun z => ?_, by rw [List.length_append, HI6.out.len]; rfl, (HI6.out.bw.alloc HI6.out.bw.size _).grown hg8 (by have := HI6.out.bw.size; simp; omega) (fun k hk => (own_shape HO6.out hk).1)⟩
                           rw [List.mem_append, List.mem_singleton, HI6.out.mem]
                           exact ⟨fun h => h.elim id fun e => by rw [e]; exact HLM.out, .inl⟩
                         clear hown8 hg8)
            go_roundw
            case rel => exact ⟨n + 1, _, _, by omega, by go_num, rfl, HI8.out⟩
            case measure => simp [intOf]; omega
          | _ => exact h.elim
      · go_wp2_with fail
        go_meet
        case rel => exact ⟨n, M, by omega, HI.out⟩
  case rest =>
    obtain ⟨k, M, hk', hT⟩ := hcut
    have HTn := Lib.hid hT; clear hT HO2 HB2 HB1
    obtain ⟨a7, c7, rfl, _, _, _⟩ := own_slice HTn.out.own
    have hml : M.length ≤ 160 := by have := HTn.out.len; omega
    obtain ⟨O, hO⟩ : ∃ O, O = ofL L t := ⟨_, rfl⟩
    have HOL : Hid (ofL L t = O) := hO.symm
    have HOM : Hid (ofL M t = O) := by show _ = _; rw [hO]; exact ofL_set t HTn.out.mem
    have HOO : Hid (ofL O t = O) := by show _ = _; rw [hO]; exact ofL_again L t
    have hol : O.length ≤ 60 := by have := ofL_length L t; rw [← hO] at this; omega
    have HKO : Hid (∀ s ∈ O, s.Ok) := fun s hs => HOK.out s (by rw [hO] at hs; exact (ofL_mem hs).1)
    have HKM : Hid (∀ s ∈ M, s.Ok) := fun s hs => HOK.out s ((HTn.out.mem s).1 hs)
    clear hO
    obtain ⟨m, hm⟩ : ∃ m, m = O.length := ⟨_, rfl⟩
    rw [← hm] at hol
    have HM := Lib.hid hm; clear hm
    go_wp2_with fail
    refine (of_any a c L t wc ((HA.out.below HTn.out.bw).more HTn.out.bw.size) (by omega) HOK.out).mono ?_; rintro e w3 ⟨v3, rfl, hown3, hb3⟩
    rw [HOL.out, ← HM.out] at hown3
    obtain ⟨a3, c3, rfl, _, _, _⟩ := own_slice hown3
    have HO3 := Lib.hid hown3; have HT3 := Lib.hid (HTn.out.below hb3); clear hown3 hb3 HTn
    go_wp2_with fail
    refine (fixed9_any _).mono ?_; rintro e w4 ⟨rfl, hb4⟩
    have HO4 := Lib.hid (own_below HO3.out hb4); have HT4 := Lib.hid (HT3.out.below hb4); clear hb4 HO3 HT3
    go_wp2_with fail
    refine (of_any a7 c7 M t w4 (Rd.own HT4.out.own) (by omega) HKM.out).mono ?_; rintro e w5 ⟨v5, rfl, hown5, hb5⟩
    rw [HOM.out, ← HM.out] at hown5
    obtain ⟨a5, c5, rfl, _, _, _⟩ := own_slice hown5
    have HO5 := Lib.hid (own_below HO4.out hb5); have HP5 := Lib.hid hown5; have HT5 := Lib.hid (HT4.out.below hb5); clear hown5 hb5 HO4 HT4
    go_wp2_with fail
    refine (same_is a3 a5 c3 c5 m m O O true (by simp) HM.out HM.out w5 (Rd.own HO5.out) (Rd.own HP5.out) (by rw [← HM.out]; unfold maxLen; omega) (by rw [← HM.out]; unfold maxLen; omega)).mono ?_; rintro e w6 ⟨rfl, hb6⟩
    have HO6 := Lib.hid (own_below HO5.out hb6); have HT6 := Lib.hid (HT5.out.below hb6); clear hb6 HO5 HT5 HP5
    go_wp2_with fail
    have hof := of_any a3 c3 O t w6 (by have h := Rd.own HO6.out; exact h) (by rw [← HM.out]; omega) HKO.out
    rw [← HM.out] at hof
    refine hof.mono ?_; rintro e w7 ⟨v7, rfl, hown7, hb7⟩
    rw [HOO.out, ← HM.out] at hown7
    obtain ⟨a9, c9, rfl, _, _, _⟩ := own_slice hown7
    have HO7 := Lib.hid (own_below HO6.out hb7); have HP7 := Lib.hid hown7; have HT7 := Lib.hid (HT6.out.below hb7); clear hown7 hb7 HO6 HT6 hof
    go_wp2_with fail
    refine (same_is a3 a9 c3 c9 m m O O true (by simp) HM.out HM.out w7 (Rd.own HO7.out) (Rd.own HP7.out) (by rw [← HM.out]; unfold maxLen; omega) (by rw [← HM.out]; unfold maxLen; omega)).mono ?_; rintro e w8 ⟨rfl, hb8⟩
    go_wp2_with fail
    go_ret
    exact ⟨rfl, bel2 HT7.out.bw hb8⟩
end Go.Proofs.Ythpdaimeaomnkaa
