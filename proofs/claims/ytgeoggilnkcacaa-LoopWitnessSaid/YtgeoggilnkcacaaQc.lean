import Derived.Test.YtgeoggilnkcacaaQb
namespace Go.Proofs.Ytgeoggilnkcacaa
open Go Go.RowKit Go.Sort
set_option linter.unusedVariables false

/-! What a host has behind a layer, and by which edge: the document's least (stage 15). -/
def leastN (had : List Int) (E : List Ed) (h : Nat) : Nat → Int × Int
  | 0 => (had.getD h 0, -1)
  | j + 1 => match E[j]? with
    | some e => if e.to_ = (h : Int) ∧ had.getD e.fr.toNat 0 + e.wt < (leastN had E h j).1 then (had.getD e.fr.toNat 0 + e.wt, (j : Int)) else leastN had E h j
    | none => leastN had E h j
theorem leastN_step {had : List Int} {E : List Ed} {h j : Nat} (hj : j < E.length) : leastN had E h (j + 1) = if E[j].to_ = (h : Int) ∧ had.getD E[j].fr.toNat 0 + E[j].wt < (leastN had E h j).1 then (had.getD E[j].fr.toNat 0 + E[j].wt, (j : Int)) else leastN had E h j := by
  rw [leastN, List.getElem?_eq_getElem hj]
/-- Numbers that are no sums beyond 64 bits. -/
def Low (had : List Int) : Prop := ∀ x ∈ had, -288230376151711744 ≤ x ∧ x ≤ 0
set_option maxHeartbeats 8000000 in
theorem leastQ_any (a : Option Addr) (c : Nat) (had : List Int) (b : Option Addr) (d : Nat) (E : List Ed) (h : Nat) (w : World) (ha : Rd w w.heap.size a (intV had)) (hb : Rd w w.heap.size b (edsV E)) (hlow : Low had) (hh : h < had.length) (hE : ∀ e ∈ E, edOk (had.length : Int) e = true) (hlh : had.length ≤ 100000) (hlE : E.length ≤ 100000) :
    Calls Try.prog 27 #[.slice a had.length c, .slice b E.length d, .int .i64 (h : Int)] w fun e w' => e = .returned (.tuple #[.int .i64 (leastN had E h E.length).1, .int .i64 (leastN had E h E.length).2]) ∧ Below w.heap.size w w' := by
  have HA := Lib.hid ha; have HB := Lib.hid hb; have HL := Lib.hid hlow; have HE := Lib.hid hE; clear ha hb hlow hE
  have H0 : Hid (leastN had E h 0 = (had.getD h 0, -1)) := rfl
  have HS := Lib.hid (fun j hj => leastN_step (had := had) (E := E) (h := h) (j := j) hj)
  obtain ⟨b1, o1, ha1, hb1, c1⟩ := HA.out.num hh
  subst ha1
  have g0 : had.getD h 0 = had[h] := by simp [List.getD, hh]
  rw [g0] at H0
  generalize had[h] = x0 at *
  have i1 : (h : Int) < (had.length : Int) := by omega
  have i2 : (0 : Int) ≤ (h : Int) := by omega
  go_enter Try.func27, Try.ntmps27
  go_wp2_with fail
  go_loopw [8, 9, 10] (fun vb vy vi wr => ∃ (j : Nat) (best by_ : Int), j ≤ E.length ∧ vi = .int .i64 (j : Int) ∧ vb = .int .i64 best ∧ vy = .int .i64 by_ ∧ leastN had E h j = (best, by_) ∧ Below w.heap.size w wr) (fun _ _ vi _ => E.length - (intOf vi).toNat)
  case atStart => exact ⟨0, _, _, Nat.zero_le _, rfl, rfl, rfl, H0.out, Below.refl _ _⟩
  clear c1 g0 H0
  case round =>
    obtain ⟨j, best, by_, hj, rfl, rfl, rfl, hn, hbw⟩ := hrel
    have HN := Lib.hid hn; have HW := Lib.hid hbw; clear hn hbw
    generalize wr = W1 at *
    by_cases hlt : j < E.length
    · obtain ⟨b2, o2, hb2, _, hEd⟩ := (HB.out.below HW.out).edge hlt
      subst hb2
      have HST := Lib.hid (HS.out j hlt)
      rw [HN.out] at HST
      have hok := edOk_iff.1 (HE.out E[j] (List.getElem_mem hlt))
      generalize E[j] = e at *
      obtain ⟨c0, c1, c2, c3, c4, c5⟩ := hEd
      obtain ⟨x, y, z, p, q, t⟩ := e
      simp only at c0 c1 c2 c3 c4 c5 HST hok
      obtain ⟨f, rfl⟩ : ∃ f : Nat, x = (f : Int) := ⟨x.toNat, by omega⟩
      have hf : f < had.length := by omega
      obtain ⟨b3, o3, hb3, _, c6⟩ := (HA.out.below HW.out).num hf
      obtain ⟨rfl, rfl⟩ := And.intro (Addr.mk.inj (Option.some.inj hb3)).1 (Addr.mk.inj (Option.some.inj hb3)).2.1
      have gf : had.getD (f : Int).toNat 0 = had[f] := by simp [List.getD, hf]
      rw [gf] at HST
      have hlow := HL.out had[f] (List.getElem_mem hf)
      generalize had[f] = u at *
      have i3 : (j : Int) < (E.length : Int) := by omega
      have i4 : (0 : Int) ≤ (j : Int) := by omega
      have i5 : (f : Int) < (had.length : Int) := by omega
      have i6 : (0 : Int) ≤ (f : Int) := by omega
      have i7 : IntKind.i64.wrap (u + z) = u + z := IntWalk.i64_in _ (by omega)
      clear hb3 gf
      by_cases hy : y = (h : Int)
      · have q1 : (y == (h : Int)) = true := by simpa using hy
        by_cases hs : u + z < best
        · have HF : Hid (leastN had E h (j + 1) = (u + z, (j : Int))) := by show _ = _; rw [HST.out, if_pos ⟨hy, hs⟩]
          clear hy
          go_wp2_with fail
          go_quiet (fail)
          go_wp2_with fail
          go_quiet (fail)
          go_wp2_with fail
          go_roundw
          case rel => exact ⟨j + 1, _, _, by omega, by go_num, rfl, rfl, HF.out, Below_drewN HW.out _⟩
          case measure => simp [intOf]; omega
        · have HF : Hid (leastN had E h (j + 1) = (best, by_)) := by show _ = _; rw [HST.out, if_neg (fun h => hs h.2)]
          clear hy
          go_wp2_with fail
          go_quiet (fail)
          go_wp2_with fail
          go_roundw
          case rel => exact ⟨j + 1, _, _, by omega, by go_num, rfl, rfl, HF.out, Below_drewN HW.out _⟩
          case measure => simp [intOf]; omega
      · have q1 : (y == (h : Int)) = false := by simpa using hy
        have HF : Hid (leastN had E h (j + 1) = (best, by_)) := by show _ = _; rw [HST.out, if_neg (fun h => hy h.1)]
        clear hy
        go_wp2_with fail
        go_quiet (fail)
        go_wp2_with fail
        go_roundw
        case rel => exact ⟨j + 1, _, _, by omega, by go_num, rfl, rfl, HF.out, Below_drewN HW.out _⟩
        case measure => simp [intOf]; omega
    · obtain rfl : j = E.length := by omega
      go_wp2_with fail
      go_ret2
      exact ⟨by rw [HN.out]; rfl, HW.out⟩
end Go.Proofs.Ytgeoggilnkcacaa

