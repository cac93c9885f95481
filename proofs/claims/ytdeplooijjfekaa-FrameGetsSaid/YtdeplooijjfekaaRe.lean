import Derived.Test.YtdeplooijjfekaaRd
namespace Go.Proofs.Ytdeplooijjfekaa
open Go Go.RowKit

/-- What Get answers. -/
def GetOut (w : World) (l : List UInt8) (p : Int) (e : Ending) (w' : World) : Prop := Below w.heap.size w w' ∧
  ((∃ b v, gotF l p = .ok b ∧ e = .returned (.tuple #[v, .int .i64 (p + 6 + (b.length : Int)), .int .i64 0]) ∧ w'.ownsRow w.heap.size 5 1 v b.length (bV b)) ∨ ∃ k, gotF l p = .error k ∧ e = .returned (.tuple #[.slice none 0 0, .int .i64 0, .int .i64 (k : Int)]))
set_option maxHeartbeats 1000000 in
theorem gotF_any (a : Option Addr) (n c : Nat) (l : List UInt8) (p : Int) (w : World) (hn : n = l.length) (hlc : l.length ≤ c) (hcm : c ≤ maxLen) (hl : l.length ≤ 1000000000000) (hr : Rd w w.heap.size a (bV l)) :
    Calls Try.prog 10 #[.slice a n c, .int .i64 p] w (GetOut w l p) := by
  subst hn
  have HR := Lib.hid hr; clear hr
  have HC := Lib.hid hcm; unfold maxLen at hcm
  by_cases h0 : p < 0
  · have HE := Lib.hid (gotF_none (l := l) (.inl h0))
    go_enter Try.func10, Try.ntmps10
    go_wp2_with fail
    go_ret3
    exact ⟨Below.refl _ _, .inr ⟨5, HE.out, rfl⟩⟩
  by_cases h1 : (l.length : Int) ≤ p
  · have HE := Lib.hid (gotF_none (l := l) (.inr h1))
    go_enter Try.func10, Try.ntmps10
    go_wp2_with fail
    go_ret3
    exact ⟨Below.refl _ _, .inr ⟨5, HE.out, rfl⟩⟩
  obtain ⟨q, rfl⟩ : ∃ q : Nat, p = q := ⟨p.toNat, by omega⟩
  have HE := Lib.hid (gotF_at (l := l) (q := q) (by omega))
  obtain ⟨b, off, rfl, _, _⟩ := HR.out (by rw [bV_length]; omega)
  obtain ⟨D, hD⟩ : ∃ D, l.drop q = D := ⟨_, rfl⟩
  have HRD : Hid (Rd w w.heap.size (some ⟨b, off + q, none⟩) (bV D)) := by
    show Rd _ _ _ _
    rw [← hD, bV_drop]; exact HR.out.drop q
  have hDl : D.length = l.length - q := by rw [← hD, List.length_drop]
  rw [hD] at HE
  have HDL := Lib.hid hDl
  have hcq : ¬ (c = q) := by omega
  have hcq2 : ¬ (c - q = 0) := by omega
  clear hDl hD
  go_enter Try.func10, Try.ntmps10
  go_wp2_with fail
  refine (firstBody_any (some ⟨b, off + q, none⟩) (l.length - q) (c - q) D w HDL.out.symm (by rw [HDL.out]; omega) (by unfold maxLen; omega) (by rw [HDL.out]; omega) HRD.out).mono ?_
  rintro e w1 ⟨hb1, (⟨ad, B, c', hf, rfl, hr1⟩ | ⟨k, hf, rfl⟩)⟩
  · have HG : Hid (gotF l (q : Int) = .ok B) := by show _ = _; rw [HE.out]; exact hf
    have hfit := gotF_fits HG.out
    have HB1 := Lib.hid hb1; have HR1 := Lib.hid hr1
    clear hb1 hr1 hf
    have hbl : B.length ≤ 2406 := hfit.2.2.2
    have hql : (q : Int) + 6 + B.length ≤ l.length := hfit.2.1
    clear hfit
    go_wp2_with fail
    refine (cloneB_any ad B.length c' B w1 rfl HR1.out (by omega)).mono ?_; rintro e w2 ⟨v, rfl, ho2, hb2⟩
    have HO2 := Lib.hid ho2
    have HB2 := Lib.hid (bel2 HB1.out hb2)
    have HBS : Hid (w.heap.size ≤ w1.heap.size) := HB1.out.size
    clear ho2 hb2
    go_wp2_with fail
    go_ret3
    exact ⟨HB2.out, .inl ⟨B, v, HG.out, rfl, own_base HO2.out HBS.out⟩⟩
  · have HG : Hid (gotF l (q : Int) = .error k) := by show _ = _; rw [HE.out]; exact hf
    have HB1 := Lib.hid hb1
    have hk : ((k : Int) != 0) = true := by have := (gotF_err HG.out).1; simp; omega
    clear hb1 hf
    go_wp2_with fail
    go_ret3
    exact ⟨HB1.out, .inr ⟨k, HG.out, rfl⟩⟩
end Go.Proofs.Ytdeplooijjfekaa
