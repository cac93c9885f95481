import Derived.Test.YtkjngmlebflffaaUl
import Derived.Test.YtkjngmlebflffaaGm
import Derived.Test.YtkjngmlebflffaaGn
import Derived.Deep.RegionWith
namespace Go.Proofs.Ytkjngmlebflffaa
open Go Go.RowKit Go.Sort Go.Maps
set_option linter.unusedVariables false

/-! The landed code: the places of the first spans with each ID; whose parent each is. -/
theorem zero_int10 (w : World) : (zeroValue 3).run Try.prog w = .ok (.int .i64 0) w := by kernel_rfl
theorem lawU10 : Keyed Try.prog 51 := int_keyed Try.underlying51
theorem keyU_of10 {x : Int} (h : U64 x) : keyOf Try.prog 51 (.int .u64 x) = some (keyU x) :=
  keyOf_int_mk Try.underlying51 (by simp only [Lit.wf, show IntKind.u64.min = 0 from rfl, show IntKind.u64.max = 18446744073709551615 from rfl, Bool.and_eq_true, decide_eq_true_eq]; unfold U64 at h; omega)
/-- 'm[k] = v' as a run. -/
theorem MapG.run_put {α : Type} {P : Program} {tk t e : TypeId} {κ : α → Lit} {w : World} {b n : Nat} {f : α → Option Value} [DecidableEq α] (h : MapG P tk κ w b n f) (K : Keyed P tk) (ht : P.underlying t = some (.map tk e)) (hi : ∀ x y, κ x = κ y → x = y) (hl : ∀ x, WideAt.IsKeyLit (κ x)) (hn : n < maxLen) {key : Value} {y : α} (hkey : keyOf P tk key = some (κ y)) (v : Value) :
    ∃ w', (Instr.mapUpdate t (.map (some b)) key v).run P w = .ok () w' ∧ MapG P tk κ w' b (n + 1) (fun x => if x = y then some v else f x) ∧ w.grownBy w' (some b) := by
  obtain ⟨D, h1, h2, h3⟩ := h
  obtain ⟨w', hrun, ho, hg⟩ := h1.update K ht hn hkey (show anyR v = some (.held v, []) from rfl)
  exact ⟨w', hrun, MapG.put h1.isMap h2 h3 hi hl ho, hg⟩
theorem firstAt_in (y x : Int) : ∀ (l : List Int) (k : Nat), firstAt l x k ≠ -1 → firstAt (l ++ [y]) x k = firstAt l x k
  | [], k, h => absurd rfl h
  | z :: r, k, h => by
    by_cases e : z = x
    · simp [firstAt, e]
    · simp only [firstAt, if_neg e] at h
      simp only [List.cons_append, firstAt, if_neg e]
      exact firstAt_in y x r (k + 1) h
theorem firstAt_out (y x : Int) : ∀ (l : List Int) (k : Nat), firstAt l x k = -1 → firstAt (l ++ [y]) x k = if y = x then ((k + l.length : Nat) : Int) else -1
  | [], k, _ => by simp [firstAt]
  | z :: r, k, h => by
    by_cases e : z = x
    · simp only [firstAt, if_pos e] at h; omega
    · simp only [firstAt, if_neg e] at h
      simp only [List.cons_append, firstAt, if_neg e]
      rw [firstAt_out y x r (k + 1) h]
      simp only [List.length_cons]
      rw [show k + 1 + r.length = k + (r.length + 1) by omega]
/-- What the map holds. -/
def firF (ids : List Int) (x : Int) : Option Value := if firstAt ids x 0 = -1 then none else some (.int .i64 (firstAt ids x 0))
theorem firF_met {ids : List Int} {y : Int} {u : Value} (h : firF ids y = some u) (x : Int) : firF ids x = firF (ids ++ [y]) x := by
  unfold firF at h ⊢
  by_cases h1 : firstAt ids x 0 = -1
  · have hne : y ≠ x := by
      intro e; subst e
      rw [if_pos h1] at h; cases h
    rw [firstAt_out y x ids 0 h1, if_neg hne, if_pos h1, if_pos rfl]
  · rw [firstAt_in y x ids 0 h1]
theorem firF_new {ids : List Int} {y : Int} (h : firF ids y = none) (x : Int) : (if x = y then some (.int .i64 (ids.length : Int)) else firF ids x) = firF (ids ++ [y]) x := by
  have h1 : firstAt ids y 0 = -1 := by
    unfold firF at h
    by_cases h2 : firstAt ids y 0 = -1
    · exact h2
    · rw [if_neg h2] at h; cases h
  unfold firF
  by_cases e : x = y
  · rw [if_pos e, e, firstAt_out y y ids 0 h1, if_pos rfl, Nat.zero_add, if_neg (by omega)]
  · rw [if_neg e]
    by_cases h3 : firstAt ids x 0 = -1
    · have e' : ¬ y = x := fun h => e h.symm
      rw [firstAt_out y x ids 0 h3, if_pos h3, if_neg e', if_pos rfl]
    · rw [firstAt_in y x ids 0 h3]
theorem ids_take {L : List Sp} {n : Nat} (h : n < L.length) : idsL (L.take (n + 1)) = idsL (L.take n) ++ [(L[n]).id] := by
  unfold idsL
  rw [List.take_succ_eq_append_getElem h, List.map_append]; rfl
theorem ids_take_len {L : List Sp} {n : Nat} (h : n ≤ L.length) : (idsL (L.take n)).length = n := by simp [idsL]; omega
set_option maxHeartbeats 4000000 in
theorem firsts_any (a : Option Addr) (c : Nat) (L : List Sp) (w : World) (ha : Rd w w.heap.size a (flatL L)) (hl : L.length ≤ 100000) (hok : ∀ s ∈ L, s.Ok) :
    Calls Try.prog 32 #[.slice a L.length c] w fun e w' => e = .returned (.map (some w.heap.size)) ∧ (∃ n, n ≤ L.length ∧ MapG Try.prog 51 keyU w' w.heap.size n (firF (idsL L))) ∧ Below w.heap.size w w' := by
  have HA := Lib.hid ha; have HOK := Lib.hid hok; clear ha hok
  have hmm := @run_makeMap Try.prog
  go_enter Try.func32, Try.ntmps32
  go_wp2_with fail
  go_loopw [11] (fun i wr => ∃ n : Nat, n ≤ L.length ∧ i = .int .i64 n ∧ (∃ k, k ≤ n ∧ MapG Try.prog 51 keyU wr w.heap.size k (firF (idsL (L.take n)))) ∧ Below w.heap.size w wr) (fun i _ => L.length - (intOf i).toNat)
  case atStart => exact ⟨0, Nat.zero_le _, rfl, ⟨0, Nat.le_refl _, (MapG.new w).same (fun x => by simp [firF, idsL, firstAt])⟩, box1 _ _⟩
  clear hmm
  case round =>
    obtain ⟨n, hn, rfl, ⟨k, hk, hm⟩, hb⟩ := hrel
    have HM := Lib.hid hm; have HB := Lib.hid hb; clear hm hb
    generalize wr = W1 at *
    by_cases hlt : n < L.length
    · obtain ⟨b2, o2, hb1, hB2', f0, f1, f2, f3, f4, f5, f6, f7⟩ := (HA.out.below HB.out).elem hlt
      subst hb1
      have OKs := Lib.hid (HOK.out L[n] (List.getElem_mem _))
      have HID := Lib.hid (ids_take hlt)
      have HIL := Lib.hid (ids_take_len (L := L) hn)
      generalize L[n] = s at *
      have i3 : (n : Int) < (L.length : Int) := by omega
      have i4 : (0 : Int) ≤ (n : Int) := by omega
      have HM2 := Lib.hid (HM.out.alloc (.cells s.c 53))
      have hlook := HM2.out.look_ok lawU10 Try.underlying49 (zero_int10 _) (keyU_of10 OKs.out.id)
      simp only [Sp.c] at hlook
      have HMB := HM.out.lt
      cases hf : firF (idsL (L.take n)) s.id with
      | some u =>
        rw [hf] at hlook
        simp only [Option.getD_some, Option.isSome_some] at hlook
        have HF : Hid (MapG Try.prog 51 keyU (W1.alloc (.cells s.c 53)) w.heap.size k (firF (idsL (L.take (n + 1))))) :=
          HM2.out.same (fun x => by rw [HID.out]; exact firF_met hf x)
        clear hf
        go_wp2_with fail
        go_roundw
        case rel => exact ⟨n + 1, by omega, by go_num, ⟨k, by omega, HF.out⟩, HB.out.alloc HB.out.size _⟩
        case measure => simp [intOf]; omega
      | none =>
        rw [hf] at hlook
        simp only [Option.getD_none, Option.isSome_none] at hlook
        have HFN := Lib.hid (fun x => firF_new hf x)
        rw [HIL.out] at HFN
        clear hf
        obtain ⟨w3, hrun, hm3, hg3⟩ := HM2.out.run_put lawU10 Try.underlying49 keyU_inj keyU_is (by unfold maxLen; omega) (keyU_of10 OKs.out.id) (.int .i64 (n : Int))
        simp only [Sp.c] at hrun
        have HB3 := Lib.hid ((HB.out.alloc HB.out.size (.cells s.c 53)).grown hg3 (by have := HB.out.size; simp; omega) (by intro k hk; simp at hk; omega))
        have HM3 : Hid (MapG Try.prog 51 keyU w3 w.heap.size (k + 1) (firF (idsL (L.take (n + 1))))) := hm3.same (fun x => (HFN.out x).trans (by rw [HID.out]))
        clear hm3 hg3
        go_wp2_with fail
        go_roundw
        case rel => exact ⟨n + 1, by omega, by go_num, ⟨k + 1, by omega, HM3.out⟩, HB3.out⟩
        case measure => simp [intOf]; omega
    · obtain rfl : n = L.length := by omega
      have HF : Hid (MapG Try.prog 51 keyU W1 w.heap.size k (firF (idsL L))) := by
        have := HM.out; rwa [List.take_length] at this
      go_wp2
      go_ret
      exact ⟨rfl, ⟨k, hk, HF.out⟩, HB.out⟩
end Go.Proofs.Ytkjngmlebflffaa

