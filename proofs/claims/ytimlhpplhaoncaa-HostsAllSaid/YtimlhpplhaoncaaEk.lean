import Derived.Test.YtimlhpplhaoncaaEj
import Derived.Maps.RangeWalk
namespace Go.Proofs.Ytimlhpplhaoncaa
open Go Go.RowKit Go.Sort Go.Maps
set_option linter.unusedVariables false

/-! The landed code of stage 13: Groups, walked. -/
theorem invK13 : ∀ v kl, keyOf Try.prog 9 v = some kl → ∃ x : ByteArray, v = .string x ∧ kl = keyS (txt x) := fun v kl h => by
  obtain ⟨s, h1, h2, _⟩ := Go.WideMaps.string_of_keyOf Try.underlying9 h
  exact ⟨s, h1, h2⟩
theorem numF_val {K : List Tx} (x : ByteArray) (v : Value) (h : numF K K.length (txt x) = some v) : v = .int .i64 (placeL K (txt x)) := by
  rw [numF_all] at h
  split at h
  · injection h with h; exact h.symm
  · cases h
set_option maxHeartbeats 8000000 in
theorem groups_pays13 : GroupsPay 8 := by
  intro a c L w ha hl hok
  obtain ⟨j0, hj0, hy0, hy1, hy2⟩ := info_parts info_slice13
  have HY2 := Lib.hid hy2; clear hy2
  have HA := Lib.hid ha; have HOK := Lib.hid hok; clear ha hok
  have hhl := hosts_length L
  have HND := Lib.hid (hosts_nodup L)
  obtain ⟨K, hK⟩ : ∃ K, K = hostsL L := ⟨_, rfl⟩
  have HK := Lib.hid hK
  rw [← hK] at hhl HND
  have HNU : Hid (∀ w, Rd w w.heap.size a (flatL L) → Calls Try.prog 14 #[.slice a L.length c] w fun e w' => e = .returned (.map (some w.heap.size)) ∧ MapG Try.prog 9 keyS w' w.heap.size K.length (numF K K.length) ∧ Below w.heap.size w w') := fun w h => by
    rw [hK]; exact numbers_any a c L w h hl HOK.out
  clear hK
  go_enter Try.func8, Try.ntmps8
  go_wp2_with (first
    | (go_at_call 14
       refine (HNU.out w HA.out).mono ?_
       rintro e w1 ⟨rfl, hm, hb⟩
       have HM1 := Lib.hid hm; have HB1 := Lib.hid hb; clear hm hb)
    | (go_at_call 15
       refine (places_any a c L w1 ((HA.out.below HB1.out).more HB1.out.size) hl HOK.out).mono ?_
       rintro e w2 ⟨rfl, g, hp⟩
       have HM2 := Lib.hid (HM1.out.below hp.bw)
       have HB2 := Lib.hid (bel2 HB1.out hp.bw)
       have HP2 := Lib.hid hp
       have hln : ∀ ty, (Builtin.len_ #[36] ty #[.map (some w.heap.size)]).run Try.prog w2 = .ok (.int .i64 (K.length : Int)) w2 := (fun ty => by
         obtain ⟨D, ⟨es, rfl⟩, hh, hsz, hlen⟩ := HM2.out.len Try.underlying36
         have h1 := keys_many K es HND.out (fun x hx => by
           have h2 := hh x
           rw [has_eq, numF_all, if_pos hx] at h2
           exact h2)
         have h3 : (DataW.map es : DataW Value) = .map es := rfl
         rw [size_eq] at hsz
         have h4 := hlen ty
         rw [size_eq, show es.length = K.length by omega] at h4
         exact h4)
       clear hp)
    | (at_make
       refine wpList_make_full _ rfl (.tmp 13) (.tmp 13) 25 rfl w.heap.size 28 j0 _ 1 Try.underlying25 hj0 hy0 hy1 .i64 .i64 _ _ K.length rfl rfl rfl rfl (by rw [HY2.out]; omega) (by unfold maxLen; omega) HB2.out.size ?_
       intro w3 hown3 hg3
       have HB3 := Lib.hid (HB2.out.grown hg3 HB2.out.size (by simp))
       have HO3 := Lib.hid hown3
       have HM3 := Lib.hid (HM2.out.grown hg3 (by simp))
       have HP3 := Lib.hid (HP2.out.mp.grown hg3 (by simp))
       have HR3 : Hid (∀ x, w3.ownsRow w.heap.size 3 1 (orN (g x)) (grpL L x).length (intV (grpL L x))) := (fun x => own_base ((HP2.out.row x).kept hg3 (Classical.em _)) (by have := HB1.out.size; omega))
       have HS3 := hg3.size
       clear hown3 hg3)
    | (at_range
       refine wpList_range_G rfl _ 36 rfl 3 lawS13 Try.underlying36 rfl HM3.out ?_
       intro w4 cnt hrg hg4 hs4))
  go_frame
  have HI4 : Hid (GrI w w4 w.heap.size w3.heap.size w1.heap.size w2.heap.size K L g (fun x => (numF K K.length x).isSome) cnt (List.replicate K.length (.slice none 0 0))) := by
    refine ⟨hrg, HP3.out.grown hg4 (by simp), fun x => (HR3.out x).kept hg4 (Classical.em _), ?_, Nat.le_trans HB2.out.size HS3, HB3.out.grown hg4 HB3.out.size (by simp)⟩
    have e : List.replicate K.length (Value.slice none 0 0) = (madeCells (Value.slice none 0 0).cells (K.length * 1)).toList := by
      simp [toList_madeCells_one, Value.cells]
    rw [e]
    exact HO3.out.kept hg4 (Classical.em _)
  have HQ4 : Hid (List.replicate K.length (Value.slice none 0 0) = rowOf K g (fun x => (numF K K.length x).isSome)) := rowOf_start fun x hx => by rw [numF_all, if_pos hx]; rfl
  clear hrg hg4 HP3 HR3 HO3 HM3 HB3 HM2 HP2 HM1 hln
  generalize w3.heap.size = rb at *
  generalize w2.heap.size = gb at *
  generalize w1.heap.size = pb at *
  go_loopw [6] (fun _ wr => ∃ (left : Tx → Bool) (cnt : Nat), GrI w wr w.heap.size rb pb gb K L g left cnt (rowOf K g left)) (fun _ wr => wr.rangeLeft w.heap.size rb)
  case atStart => exact ⟨_, cnt, by rw [← HQ4.out]; exact HI4.out⟩
  clear HI4 HQ4
  case round =>
    obtain ⟨left, cnt2, hI⟩ := hrel
    have HI := Lib.hid hI; clear hI
    generalize wr = W1 at *
    go_wp2_with (at_next
                 refine wpList_next_G rfl _ rfl lawS13 .string txt (fun X => .int .i64 (placeL K (txt X))) invK13 keyS_inj keyS_is (fun x v h => numF_val x v h) rfl HI.out.rg ?_ ?_)
    · intro hl0
      go_wp2_with fail
      go_ret
      exact ⟨_, _, rfl, HI.out.done HK.out rfl hl0, HI.out.bw⟩
    · intro X w5 cnt5 hlx hfx hrg5 hlt5 hg5 hs5 hen
      have HI5 := Lib.hid (HI.out.grown hrg5 hg5)
      have hxk : txt X ∈ K := by
        rw [numF_all] at hfx
        split at hfx
        · assumption
        · cases hfx
      obtain ⟨k, hk, hpl, hkx⟩ := place_get K (txt X) 0 hxk
      have hpl : placeL K (txt X) = ((0 + k : Nat) : Int) := hpl
      rw [Nat.zero_add] at hpl
      have hxs : X.size ≤ maxLen := by
        have h := HK.out
        subst h
        exact host_size HOK.out hk hkx
      have HST := Lib.hid (HI5.out.store k (orN (g (txt X))))
      have HRS := Lib.hid (rowOf_step HND.out g left hk hkx)
      have hlook := HI5.out.mp.look lawS13 Try.underlying38 (zero_slice13 _) (keyOf_S13 hxs)
      change _ = Result.ok (orN (g (txt X))) _ at hlook
      obtain ⟨va, vc, hv, _, _, _⟩ := own_slice (HI5.out.row (txt X))
      have hcl := HI5.out.own.cellAt k (by omega)
      have hqk : k < (rowOf K g left).length := by rw [rowOf_length]; exact hk
      rw [List.getElem?_eq_getElem hqk] at hcl
      have hfr := HI5.out.own.frozenAt k
      generalize (rowOf K g left)[k] = q at *
      have i3 : (k : Int) < (K.length : Int) := by omega
      have i4 : (0 : Int) ≤ (k : Int) := by omega
      rw [hpl] at hen ⊢
      rw [hv] at hlook HST HRS
      generalize (grpL L (txt X)).length = r at *
      have HLT := Lib.hid hlt5
      clear hv hfx hrg5 hg5 hs5 hkx hpl hxk hxs hqk hlt5 hlx
      go_wp2_with fail
      go_roundw
      case rel => exact ⟨_, cnt5, by rw [← HRS.out]; exact HST.out⟩
      case measure => rw [HST.out.rg.left_eq, HI.out.rg.left_eq]; exact HLT.out
end Go.Proofs.Ytimlhpplhaoncaa
