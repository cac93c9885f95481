import Derived.Test.YteaafjkgopmmdaaDh
import Derived.Test.YteaafjkgopmmdaaUf
import Derived.Test.YteaafjkgopmmdaaSg
namespace Go.Proofs.Yteaafjkgopmmdaa
open Go Go.RowKit Go.Sort Go.Shelf
set_option maxRecDepth 20000
set_option linter.unusedVariables false

/-! Hosts' numbers and groups; the document's Of (stage 13). -/
def numL (L : List Sp) : List Int := L.map fun s => placeL (hostsL L) (hostT s)
theorem numL_length (L : List Sp) : (numL L).length = L.length := by simp [numL]
theorem num_take {L : List Sp} {n : Nat} (h : n < L.length) : (numL L).take (n + 1) = (numL L).take n ++ [placeL (hostsL L) (hostT L[n])] := by
  have h' : n < (numL L).length := by rw [numL_length]; exact h
  rw [List.take_succ_eq_append_getElem h']; simp [numL]
theorem info_int13 : (Try.prog.info? 3).map (fun i => (i.zero, i.size, i.bytes)) = some (some (.int .i64 0), 1, 8) := by kernel_rfl
/-- What numbers pay. -/
def NumsPay (F : Nat) : Prop := ∀ (a : Option Addr) (c : Nat) (L : List Sp) (w : World), Rd w w.heap.size a (flatL L) → L.length ≤ 100000 → (∀ s ∈ L, s.Ok) →
  Calls Try.prog F #[.slice a L.length c] w fun e w' => ∃ v, e = .returned v ∧ w'.ownsRow w.heap.size 3 1 v L.length (intV (numL L)) ∧ Below w.heap.size w w'
set_option maxHeartbeats 4000000 in
theorem refNums_any : NumsPay 18 := by
  intro a c L w ha hl hok
  obtain ⟨i0, hi0, hz0, hz1, hz2⟩ := info_parts info_int13
  have HZ2 := Lib.hid hz2; clear hz2
  have HA := Lib.hid ha; have HOK := Lib.hid hok; clear ha hok
  have hhl := hosts_length L
  go_enter Try.func18, Try.ntmps18
  go_wp2_with (go_at_call 29
               refine (refHosts_any a c L w HA.out hl HOK.out).mono ?_
               rintro e w1 ⟨vh, rfl, hh, hb1⟩
               obtain ⟨ha1, hc1, rfl, _, _, _⟩ := own_slice hh
               have HH := Lib.hid hh; have HB1 := Lib.hid hb1; clear hh hb1)
  go_loopw [4, 5] (fun v i wr => ∃ (n : Nat) (v' : Value), n ≤ L.length ∧ i = .int .i64 n ∧ v' = v ∧ wr.ownsRow w1.heap.size 3 1 v' n (intV ((numL L).take n)) ∧ Below w1.heap.size w1 wr) (fun _ i _ => L.length - (intOf i).toNat)
  case atStart => exact ⟨0, _, Nat.zero_le _, rfl, rfl, World.ownsRow_made w1 #[] 0 (Nat.le_refl _) (by decide) rfl, box1 _ _⟩
  case round =>
    obtain ⟨n, v, hn, rfl, hv, hown, hb⟩ := hrel
    subst hv
    obtain ⟨va, vc, rfl, _, _, _⟩ := own_slice hown
    have HO := Lib.hid hown; have HB := Lib.hid hb; clear hown hb
    generalize wr = W1 at *
    by_cases hlt : n < L.length
    · obtain ⟨b1, o1, ha2, _, e0, e1, e2, e3, e4, e5, e6, e7⟩ := (HA.out.below (bel2 HB1.out HB.out)).elem hlt
      subst ha2
      have HTK := Lib.hid (num_take hlt)
      have HPL := Lib.hid (refPlace_is ha1 hc1 _ (hostsL L) L[n].host W1 rfl (Rd.own (own_below HH.out HB.out)) (by unfold maxLen; omega))
      simp only [hostT] at HTK
      generalize L[n] = s at *
      have i3 : (n : Int) < (L.length : Int) := by omega
      have i4 : (0 : Int) ≤ (n : Int) := by omega
      clear e0 e1 e2 e3 e5 e6 e7
      obtain ⟨z, hz⟩ : ∃ z, z = placeL (hostsL L) (txt s.host) := ⟨_, rfl⟩
      rw [← hz] at HPL HTK
      clear hz
      go_wp2_with (first
        | (go_at_call 30
           refine HPL.out.mono ?_
           rintro e w2 ⟨rfl, hb2⟩
           have HO2 := Lib.hid (own_below HO.out hb2); have HB2 := Lib.hid (bel2 HB.out hb2); clear hb2)
        | (at_builtin
           refine wpList_append_rd _ rfl (.tmp 15) (.tmp 23) 27 rfl w1.heap.size 3 i0 _ 1 8 Try.underlying27 hi0 hz0 hz1 HZ2.out rfl (by omega) (.slice va n vc) n _ rfl (own_below HO2.out (box1 _ _)) _ _ 1 1 [.int .i64 z] rfl rfl (lit_rd w2 #[.int .i64 z] _) (by intro u hu; obtain rfl := List.mem_singleton.1 hu; rfl) (by unfold maxLen; omega) (by omega) (by have := HB2.out.size; simp; omega) ?_
           intro v4 w4 hown4 hg4 _
           have HO4 := Lib.hid hown4; have HG4 := Lib.hid hg4; clear hown4 hg4))
      go_roundw
      case rel => exact ⟨n + 1, _, by omega, by go_num, rfl, by rw [HTK.out, intV_append]; exact HO4.out, (HB2.out.alloc HB2.out.size _).grown HG4.out (by have := HB2.out.size; simp; omega) (fun g hg => (own_shape HO2.out hg).1)⟩
      case measure => simp [intOf]; omega
    · obtain rfl : n = L.length := by omega
      have hof := HO.out
      rw [List.take_of_length_le (by rw [numL_length]; exact Nat.le_refl _)] at hof
      have HF := Lib.hid hof; clear hof
      go_wp2_with fail
      go_ret
      exact ⟨_, rfl, own_base HF.out HB1.out.size, bel2 HB1.out HB.out⟩
end Go.Proofs.Yteaafjkgopmmdaa

