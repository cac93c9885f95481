import Derived.Test.YthpdaimeaomnkaaDb
import Derived.Test.YthpdaimeaomnkaaGn
namespace Go.Proofs.Ythpdaimeaomnkaa
open Go.Shelf Go.RowKit Go.Sort Go.Maps
set_option linter.unusedVariables false

theorem flatL_put : ∀ (M : List Sp) (i : Nat) (h : i < M.length) (s : Sp), setsL (flatL M) (i * 8) s.c.toList = flatL (M.set i s) := by
  intro M i h s
  apply List.ext_getElem?
  intro j
  have hlen : (flatL M).length = M.length * 8 := flatL_length M
  rw [setsL_get _ _ _ _ (by rw [hlen, c_len]; omega), c_len]
  by_cases hj : j < M.length * 8
  · have e : j = j / 8 * 8 + j % 8 := by omega
    have hj8 : j / 8 < M.length := by omega
    have g1 := flatL_get M (j / 8) hj8 (j % 8) (by omega)
    have g2 := flatL_get (M.set i s) (j / 8) (by simpa using hj8) (j % 8) (by omega)
    rw [← e] at g1 g2
    by_cases hi : i * 8 ≤ j ∧ j < i * 8 + 8
    · rw [if_pos hi, g2]
      obtain rfl : i = j / 8 := by omega
      rw [List.getElem_set_self, Array.getElem?_toList]
      congr 1; omega
    · rw [if_neg hi, g1, g2, List.getElem_set_ne (by omega)]
  · rw [if_neg (by omega), List.getElem?_eq_none (by omega), List.getElem?_eq_none (by rw [flatL_length, List.length_set]; omega)]
theorem size_sp8 : (Try.prog.info? 29).map (·.size) = some 8 := by kernel_rfl
theorem sp_one (s : Sp) : s.c.all (·.oneCell') = true := by simp [Sp.c, Value.oneCell']
theorem grown_below {B : Nat} {w wr w' : World} {v : Value} (hb : Below B w wr) (hg : wr.grownBy w' v.ownBlock) (hB : B ≤ wr.heap.size) (h : ∀ k, v.ownBlock = some k → B ≤ k) : Below B w w' := hb.grown hg hB h

theorem OfI.keep {w wr : World} {L : List Sp} {t : Int} {n : Nat} {v : Value} {M : List Sp} {f : Int → Option Value} (h : OfI w wr L t n v M f) (hc : Counts ((L.take (n + 1)).filter (recB t)) M) : OfI w wr L t (n + 1) v M f :=
  { h with cnt := hc
           mp := by obtain ⟨k, hk, hm⟩ := h.mp; exact ⟨k, by omega, hm⟩
           len := by have := h.len; omega }
set_option maxHeartbeats 4000000 in
theorem of_any (a : Option Addr) (c : Nat) (L : List Sp) (t : Int) (w : World) (ha : Rd w w.heap.size a (flatL L)) (hl : L.length ≤ 100000) (hok : ∀ s ∈ L, s.Ok) :
    Calls Try.prog 9 #[.slice a L.length c, .int .u64 t] w fun e w' => ∃ v, e = .returned v ∧ w'.ownsRow w.heap.size 29 8 v (ofL L t).length (flatL (ofL L t)) ∧ Below w.heap.size w w' := by
  obtain ⟨i0, hi0, hz0, hz1, hz2⟩ := info_parts info_sp
  have HZ2 := Lib.hid hz2; clear hz2
  have HA := Lib.hid ha; have HOK := Lib.hid hok; clear ha hok
  have hmm := @run_makeMap Try.prog
  go_enter Try.func9, Try.ntmps9
  go_wp2_with fail
  go_loopw [5, 14] (fun v i wr => ∃ (n : Nat) (M : List Sp) (f : Int → Option Value) (v' : Value), n ≤ L.length ∧ i = .int .i64 n ∧ v' = v ∧ OfI w wr L t n v' M f) (fun _ i _ => L.length - (intOf i).toNat)
  case atStart =>
    exact ⟨0, [], fun _ => none, _, Nat.zero_le _, rfl, rfl, { cnt := Counts.nil, own := ⟨rfl, .inl ⟨rfl, rfl⟩⟩, mp := ⟨0, Nat.le_refl _, MapG.new w⟩, pl := PlacesOf.nil, bw := box1 _ _, len := Nat.le_refl _ }⟩
  clear hmm
  case round =>
    obtain ⟨n, M, f, v, hn, rfl, hv, hI⟩ := hrel
    subst hv
    obtain ⟨va, vc, rfl, hvc1, hvc2, hvs⟩ := own_slice hI.own
    have HVS := Lib.hid hvs; clear hvs
    have HI := Lib.hid hI; clear hI
    generalize wr = W1 at *
    by_cases hlt : n < L.length
    · obtain ⟨b2, o2, hb1, hB2', f0, f1, f2, f3, f4, f5, f6, f7⟩ := (HA.out.below HI.out.bw).elem hlt
      subst hb1
      have OKs := Lib.hid (HOK.out L[n] (List.getElem_mem _))
      have HRB := Lib.hid (take_rec (t := t) hlt)
      have HSK := Lib.hid (fun (w' : World) (h : OfI w w' L t n (.slice va M.length vc) M f) hr => OfI.skip h hlt hr)
      generalize L[n] = s at *
      have i3 : (n : Int) < (L.length : Int) := by omega
      have i4 : (0 : Int) ≤ (n : Int) := by omega
      go_wp2_with fail
      refine (isRecord_any s t _ OKs.out).mono ?_; rintro e w2 ⟨rfl, hb2⟩
      have HX2 := Lib.hid ((Box.new W1 s 29).below hb2 (by simp))
      have HI2 := Lib.hid (HI.out.below (bel2 (box1 W1 (.cells s.c 29)) hb2))
      clear f0 f1 f2 f3 f4 f5 f6 f7 hb2
      cases hr : recB t s
      · have HR := Lib.hid hr; clear hr
        go_wp2_with fail
        go_roundw
        case rel => exact ⟨n + 1, M, f, _, by omega, by go_num, rfl, HSK.out _ HI2.out HR.out⟩
        case measure => simp [intOf]; omega
      · have HR := Lib.hid hr
        have HRF : Hid ((L.take (n + 1)).filter (recB t) = (L.take n).filter (recB t) ++ [s]) := by show _ = _; rw [HRB.out, hr]; rfl
        clear hr HRB HSK
        obtain ⟨k, hk, hm⟩ := HI2.out.mp
        have hlook := hm.look_ok lawU Try.underlying42 (zero_int w2) (keyU_of OKs.out.id)
        obtain ⟨c0, c1, c2, c3, c4, c5, c6, c7⟩ := HX2.out.all
        have q1 := HX2.out.1
        have HM := Lib.hid hm; clear hm
        have HK := Lib.hid hk; clear hk
        have hml := HI2.out.len
        cases hf : f s.id with
        | none =>
          rw [hf] at hlook
          simp only [Option.getD_none, Option.isSome_none] at hlook
          have HF := Lib.hid hf; clear hf
          have HMB : Hid (w.heap.size < W1.heap.size) := by
            obtain ⟨k1, _, h1⟩ := HI.out.mp; exact h1.lt
          go_wp2_with (first
            | (at_mapUpdate
               refine wpList_map_put rfl (.tmp 32) (.tmp 34) (.tmp 36) 42 rfl 3 lawU Try.underlying42 keyU_inj keyU_is rfl HM.out (by have := HK.out; unfold maxLen; omega) _ _ s.id rfl rfl (keyU_of OKs.out.id) ?_
               intro w3 hm3 hg3
               have HX3 := Lib.hid (show Box w3 W1.heap.size s from ⟨Nat.lt_of_lt_of_le HX2.out.1 hg3.size, fun j hj => by rw [World.cell?_of_block (a := ⟨W1.heap.size, j, none⟩) (hg3.block W1.heap.size HX2.out.1 (by have := HMB.out; simp; omega))]; exact HX2.out.2 j hj⟩)
               have HO3 := Lib.hid (HI2.out.own.kept hg3 (by have := own_ne_map HI2.out.own HM.out; exact .inr fun e => this e.symm))
               have HB3 := Lib.hid (HI2.out.bw.grown hg3 HI2.out.bw.size (by intro k hk; simp at hk; omega))
               have HM3 := Lib.hid hm3
               clear hm3 hg3 hlook c0 c1 c2 c3 c4 c5 c6 c7 q1
               obtain ⟨c0, c1, c2, c3, c4, c5, c6, c7⟩ := HX3.out.all)
            | (at_builtin
               refine wpList_append_rd _ rfl (.tmp 37) (.tmp 39) 22 rfl w.heap.size 29 i0 _ 8 80 Try.underlying22 hi0 hz0 hz1 HZ2.out rfl (by omega) (.slice va M.length vc) M.length _ rfl (own_below HO3.out (box1 _ _)) _ _ 1 1 (flatL [s]) rfl rfl (lit_rd w3 s.c _) (flatL_one _) (by unfold maxLen; omega) (by omega) (by have := HB3.out.size; simp; omega) ?_
               intro v4 w4 hown4 hg4 _
               have HO4 := Lib.hid hown4; have HG4 := Lib.hid hg4; clear hown4 hg4))
          have HM4 : Hid (MapG Try.prog 23 keyU w4 w.heap.size (k + 1) (fun z => if z = s.id then some (.int .i64 (M.length : Nat)) else f z)) :=
            (HM3.out.alloc _).grown HG4.out (own_ne_map HO3.out HM3.out)
          have HIF : Hid (OfI w w4 L t (n + 1) v4 (M ++ [s]) (fun z => if z = s.id then some (.int .i64 (M.length : Nat)) else f z)) :=
            { cnt := by rw [HRF.out]; exact HI2.out.cnt.add (HI2.out.pl.none HF.out)
              own := by rw [List.length_append, flatL_append]; exact HO4.out
              mp := ⟨k + 1, by have := HK.out; omega, HM4.out⟩
              pl := HI2.out.pl.add s HF.out
              bw := (HB3.out.alloc HB3.out.size _).grown HG4.out (by have := HB3.out.size; simp; omega) (fun g hg => (own_shape HO3.out hg).1)
              len := by rw [List.length_append]; simp; omega }
          clear HO4 HG4 HM4 HM3 HO3 HB3
          go_wp2
          go_roundw
          case rel => exact ⟨n + 1, _, _, _, by omega, by go_num, rfl, HIF.out⟩
          case measure => simp [intOf]; omega
        | some u =>
          obtain ⟨i, hi, hid, rfl⟩ := HI2.out.pl.2 _ _ hf
          rw [hf] at hlook
          simp only [Option.getD_some, Option.isSome_some] at hlook
          clear hf
          have hpos : 0 < M.length := by omega
          obtain ⟨g, rfl, hg1, hg2⟩ := HVS.out hpos
          obtain ⟨b1, o1, ha1, hB1, e0, e1, e2, e3, e4, e5, e6, e7⟩ := (Rd.own HI2.out.own).elem hi
          obtain ⟨rfl, rfl⟩ : g = b1 ∧ o1 = 0 := by injection ha1 with h; injection h; simp_all
          clear ha1
          simp only [Nat.zero_add] at e0 e1 e2 e3 e4 e5 e6 e7
          have HID := Lib.hid hid; clear hid
          have HPUT := Lib.hid (fun hc => HI2.out.cnt.put (s := s) hi HID.out hc)
          have HSTAY := Lib.hid (fun hc => HI2.out.cnt.stay (s := s) (List.getElem_mem hi) HID.out hc)
          have HFP := Lib.hid (flatL_put M i hi s)
          have HPL := Lib.hid (HI2.out.pl.set hi s HID.out)
          generalize M[i] = r at *
          have j1 : (0 : Int) ≤ (i : Int) := by omega
          have j2 : (i : Int) < (M.length : Int) := by omega
          have hcg : ∀ d os m o, m < w2.heap.size → (grow (redrawn w2 d) os).cell? ⟨m, o, none⟩ = w2.cell? ⟨m, o, none⟩ := fun d os m o h => (below_regrown w2 d os).cell h
          go_wp2_with fail
          refine wp_region_quiet_below (by kernel_rfl) (by kernel_rfl) ?_
          iterate 8 (first | go_big_quiet_step ((go_at_call 20; exact Calls.regrown_of (cmp_any s r _))) | fail)
          refine wpQuiet_nil ?_
          intro w3 hw3
          obtain ⟨⟨d, os⟩, hw3'⟩ := hw3
          have hb3 := below_regrown w2 d os
          rw [← hw3'] at hb3
          clear hw3' hcg hlook e0 e1 e2 e3 e4 e5 e6 e7 c0 c1 c2 c3 c4 c5 c6 c7
          have HX3 := Lib.hid (HX2.out.below hb3 HX2.out.1)
          have HI3 := Lib.hid (HI2.out.below hb3); clear hb3
          by_cases hx : cmpI s r < 0
          · have HX := Lib.hid hx
            obtain ⟨c0, c1, c2, c3, c4, c5, c6, c7⟩ := HX3.out.all
            have HTH := Lib.hid (own_thereN HI3.out.own hi)
            have HSC := Lib.hid (own_setCells s.c.toList (i * 8) _ _ HI3.out.own)
            have HIF : Hid (OfI w (w3.setCells g (i * 8) s.c.toList) L t (n + 1) (.slice (some ⟨g, 0, none⟩) M.length vc) (M.set i s) f) :=
              { cnt := by rw [HRF.out]; exact HPUT.out HX.out
                own := by rw [List.length_set, ← HFP.out]; exact HSC.out.1
                mp := by
                  obtain ⟨k3, hk3, hm3⟩ := HI3.out.mp
                  exact ⟨k3, by omega, hm3.grown HSC.out.2 (own_ne_map HI3.out.own hm3)⟩
                pl := HPL.out
                bw := HI3.out.bw.grown HSC.out.2 HI3.out.bw.size (fun k hk => by cases hk; exact hg1)
                len := by rw [List.length_set]; omega }
            clear HSC HPUT HSTAY HFP HPL
            go_wp2_with (refine wpList_store_mid rfl 29 (.tmp 52) (.tmp 51) rfl g (i * 8) s.c ?hx ?hy ?ht ?hi ?h1 ?h
                         case hx => rfl
                         case hy => rfl
                         case ht => exact HTH.out
                         case hi => exact size_sp8
                         case h1 => exact sp_one s)
            go_roundw
            case rel => exact ⟨n + 1, M.set i s, f, _, by omega, by go_num, rfl, HIF.out⟩
            case measure => simp [intOf]; omega
          · have HX := Lib.hid hx
            go_wp2_with fail
            go_roundw
            case rel => exact ⟨n + 1, M, f, _, by omega, by go_num, rfl, HI3.out.keep (by rw [HRF.out]; exact HSTAY.out (by have := HX.out; omega))⟩
            case measure => simp [intOf]; omega
    · obtain rfl : n = L.length := by omega
      have HC := HI.out.cnt
      rw [List.take_length] at HC
      have HOF : Hid (sortL M = ofL L t) := ofL_is HC
      clear HC
      have hml := HI.out.len
      go_wp2_with (go_at_call 21; refine (sort_any va vc M W1 (Rd.own HI.out.own) (by omega)).mono ?_; rintro e w2 ⟨v2, rfl, hown2, hb2⟩)
      go_ret
      have hle : (ofL L t).length = M.length := by rw [← HOF.out, sortL_length]
      exact ⟨_, rfl, by rw [hle, ← HOF.out]; exact own_base hown2 HI.out.bw.size, bel2 HI.out.bw hb2⟩
end Go.Proofs.Ythpdaimeaomnkaa
