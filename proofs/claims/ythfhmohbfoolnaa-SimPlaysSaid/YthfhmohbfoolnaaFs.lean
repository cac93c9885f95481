import Derived.Test.YthfhmohbfoolnaaFr
namespace Go.Proofs.Ythfhmohbfoolnaa
open Go Go.RowKit Go.Sort

theorem Ac_len (a : Ac) : a.l.length = 5 := rfl
def flA (L : List Ac) : List Value := flatG Ac.l L
def AcAt (w : World) (b o : Nat) (a : Ac) : Prop :=
  w.cell? ⟨b, o, none⟩ = some (.int .i64 a.kind) ∧ w.cell? ⟨b, o + 1, none⟩ = some (.int .u32 (a.n : Int)) ∧ w.cell? ⟨b, o + 2, none⟩ = some (.slice a.ba a.body.length a.bc) ∧ w.cell? ⟨b, o + 3, none⟩ = some (.int .i64 a.size) ∧ w.cell? ⟨b, o + 4, none⟩ = some (.slice a.fa a.fates.length a.fc)
theorem act_elem {w : World} {B : Nat} {a : Option Addr} {L : List Ac} (h : Rd w B a (flA L)) {i : Nat} (hi : i < L.length) : ∃ b off, a = some ⟨b, off, none⟩ ∧ b < B ∧ AcAt w b (off + i * 5) L[i] := by
  obtain ⟨b, off, ha, hb, hc⟩ := Rd.elemG Ac_len (by omega) h hi
  exact ⟨b, off, ha, hb, hc 0 _ rfl, hc 1 _ rfl, hc 2 _ rfl, hc 3 _ rfl, hc 4 _ rfl⟩
def sumA (L : List Ac) : Nat := (L.map fun a => a.body.length + a.fates.length).sum
def wideA (a : Ac) : Bool := decide (4000 < a.body.length) || decide (4000 < a.fates.length)
def greatB (L : List Ac) : Bool := decide (80 < L.length) || L.any wideA || decide (4000 < sumA L)
theorem sumA_next {L : List Ac} {k : Nat} (h : k < L.length) : sumA (L.take (k + 1)) = sumA (L.take k) + (L[k].body.length + L[k].fates.length) := by
  unfold sumA; rw [List.take_succ_eq_append_getElem h, List.map_append, List.sum_append]; rfl
set_option maxRecDepth 20000 in
set_option maxHeartbeats 4000000 in
theorem great_any (la : Option Addr) (lc : Nat) (L : List Ac) (w : World) (hr : Rd w w.heap.size la (flA L)) (hm : ∀ a ∈ L, a.body.length ≤ maxLen ∧ a.fates.length ≤ maxLen) :
    Calls Try.prog 7 #[.slice la L.length lc] w fun e w' => e = .returned (.bool (greatB L)) ∧ Below w.heap.size w w' := by
  have HR := Lib.hid hr; have HM := Lib.hid hm; clear hr hm
  by_cases h80 : 80 < L.length
  · have HE : Hid (greatB L = true) := by show _ = _; simp [greatB, h80]
    have d0 : (80 : Int) < (L.length : Int) := by omega
    go_enter Try.func7, Try.ntmps7
    go_wp2_with fail
    go_ret
    exact ⟨ret_bool HE.out.symm, Below.refl _ _⟩
  have d0 : ¬ (80 : Int) < (L.length : Int) := by omega
  go_enter Try.func7, Try.ntmps7
  go_wp2_with fail
  go_loopw [3, 11] (fun s i wr => ∃ k : Nat, k ≤ L.length ∧ i = .int .i64 k ∧ s = .int .i64 (sumA (L.take k) : Nat) ∧ (L.take k).any wideA = false ∧ sumA (L.take k) ≤ 8000 * k ∧ RowKit.Below w.heap.size w wr) (fun _ i _ => L.length - (intOf i).toNat)
  case atStart => exact ⟨0, Nat.zero_le _, rfl, rfl, rfl, Nat.le_refl _, Below.refl _ _⟩
  case round =>
    obtain ⟨k, hk, rfl, rfl, hw, hs, hbw⟩ := hrel
    have HW := Lib.hid hw; have HB := Lib.hid hbw; clear hw hbw
    obtain ⟨s, hsd⟩ : ∃ s, s = sumA (L.take k) := ⟨_, rfl⟩
    have HS := Lib.hid hsd
    rw [← hsd] at hs ⊢
    clear hsd
    by_cases hlt : k < L.length
    · obtain ⟨b, off, ha, hbl, e0, e1, e2, e3, e4⟩ := act_elem (HR.out.below HB.out) hlt
      subst ha
      have i1 : (0 : Int) ≤ (k : Int) := by omega
      have i2 : (k : Int) < (L.length : Int) := by omega
      have HN := Lib.hid (sumA_next hlt)
      obtain ⟨hm1, hm2⟩ := HM.out L[k] (List.getElem_mem _)
      have HAny : Hid ((L.take (k + 1)).any wideA = (false || wideA L[k])) := by show _ = _; rw [List.take_succ_eq_append_getElem hlt, List.any_append, HW.out]; simp
      have HBA := Lib.hid (HB.out.alloc HB.out.size (.cells L[k].c 38))
      by_cases hwide : wideA L[k] = true
      · have HE : Hid (greatB L = true) := by
          show _ = _
          have : L.any wideA = true := List.any_eq_true.2 ⟨_, List.getElem_mem hlt, hwide⟩
          simp [greatB, this]
        by_cases h1 : 4000 < L[k].body.length
        · have d1 : decide (4000 < L[k].body.length) = true := decide_eq_true h1
          clear hwide
          unfold Ac.c at HBA
          generalize L[k] = a at *
          go_wp2_with fail
          go_ret
          exact ⟨ret_bool HE.out.symm, HBA.out⟩
        · have h2 : 4000 < L[k].fates.length := by simp [wideA] at hwide; omega
          have d1 : decide (4000 < L[k].body.length) = false := decide_eq_false h1
          have d2 : decide (4000 < L[k].fates.length) = true := decide_eq_true h2
          clear hwide
          unfold Ac.c at HBA
          generalize L[k] = a at *
          go_wp2_with fail
          go_ret
          exact ⟨ret_bool HE.out.symm, HBA.out⟩
      · have hwide : wideA L[k] = false := by simpa using hwide
        have h1 : ¬ 4000 < L[k].body.length := by simp [wideA] at hwide; omega
        have h2 : ¬ 4000 < L[k].fates.length := by simp [wideA] at hwide; omega
        have d1 : decide (4000 < L[k].body.length) = false := decide_eq_false h1
        have d2 : decide (4000 < L[k].fates.length) = false := decide_eq_false h2
        have HA2 : Hid ((L.take (k + 1)).any wideA = false) := by show _ = _; rw [HAny.out, hwide]; rfl
        have HS2 : Hid (sumA (L.take (k + 1)) ≤ 8000 * (k + 1)) := by show _ ≤ _; rw [HN.out, ← HS.out]; omega
        have HS3 : Hid (sumA (L.take (k + 1)) = s + (L[k].body.length + L[k].fates.length)) := by show _ = _; rw [HN.out, ← HS.out]
        clear hwide
        unfold Ac.c at HBA
        generalize L[k] = a at *
        go_wp2_with fail
        go_roundw
        case rel => exact ⟨k + 1, by omega, by go_num, by rw [HS3.out]; go_num, HA2.out, HS2.out, HBA.out⟩
        case measure => simp [intOf]; omega
    · have : k = L.length := by omega
      subst this
      have HA3 : Hid (L.any wideA = false) := by show _ = _; have h := HW.out; rwa [List.take_length] at h
      have HS3 : Hid (sumA L = s) := by show _ = _; rw [HS.out, List.take_length]
      by_cases h3 : 4000 < s
      · have HE : Hid (greatB L = true) := by show _ = _; simp [greatB, HS3.out, h3]
        go_wp2_with fail
        go_ret
        exact ⟨ret_bool (by rw [HE.out]; simp; omega), HB.out⟩
      · have HE : Hid (greatB L = false) := by show _ = _; simp [greatB, HA3.out, HS3.out, h3]; omega
        go_wp2_with fail
        go_ret
        exact ⟨ret_bool (by rw [HE.out]; simp; omega), HB.out⟩
end Go.Proofs.Ythfhmohbfoolnaa
