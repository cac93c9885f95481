import Derived.Test.YtdeplooijjfekaaRh
import Derived.Test.YtdeplooijjfekaaGe
import Derived.Deep.DeepMust
namespace Go.Proofs.Ytdeplooijjfekaa
open Go Go.RowKit

theorem info_str : (Try.prog.info? 9).map (fun i => (i.zero, i.size, i.bytes)) = some (some (.string ⟨#[]⟩), 1, 16) := by kernel_rfl
def sV (L : List (List UInt8)) : List Value := L.map fun b => .string (bs b)
theorem sV_length (L : List (List UInt8)) : (sV L).length = L.length := by simp [sV]
def RefAll (w : World) (l : List UInt8) (p m : Int) (e : Ending) (w' : World) : Prop :=
  ∃ v, e = .returned (.tuple #[v, .int .i64 (endF p (allF l m.toNat p))]) ∧ w'.ownsRow w.heap.size 9 1 v (allF l m.toNat p).length (sV (allF l m.toNat p)) ∧ Below w.heap.size w w'
theorem refGot_is (t : ByteArray) (l : List UInt8) (p : Int) (w : World) (ht : t = bs l) (hl : l.length ≤ 1000000000000) :
    Calls Try.prog 11 #[.string t, .int .i64 p] w (RefGot w l p) := refGot_any t l p w ht hl
set_option maxHeartbeats 2000000 in
theorem refAll_any (t : ByteArray) (l : List UInt8) (p m : Int) (w : World) (ht : t = bs l) (hl : l.length ≤ 1000000000000) (hm : m ≤ 9223372036854775807) :
    Calls Try.prog 13 #[.string t, .int .i64 p, .int .i64 m] w (RefAll w l p m) := by
  have HT := Lib.hid ht; clear ht
  obtain ⟨i0, hi0, hz0, hz1, hz2⟩ := info_parts info_str
  have HZ2 := Lib.hid hz2; clear hz2
  have HO : Hid ((w.alloc (.cells #[] 9)).ownsRow w.heap.size 9 1 (.slice (some ⟨w.heap.size, 0, none⟩) 0 0) 0 []) := World.ownsRow_made w #[] 0 (Nat.le_refl _) (by decide) rfl
  go_enter Try.func13, Try.ntmps13
  go_wp2_with fail
  go_loopw [1, 8] (fun pv v wr => ∃ L : List (List UInt8), Found l m.toNat p L ∧ pv = .int .i64 (endF p L) ∧ wr.ownsRow w.heap.size 9 1 v L.length (sV L) ∧ Below w.heap.size w wr) (fun pv v _ => m.toNat - (match v with | .slice _ n _ => n | _ => 0))
  case atStart => exact ⟨[], Found.start _ _ _, rfl, HO.out, box1 _ _⟩
  case round =>
    obtain ⟨L, hf, rfl, hown, hb⟩ := hrel
    have HF := Lib.hid hf; have HOW := Lib.hid hown; have HB := Lib.hid hb
    have hfew := hf.few
    have hLm := hf.1
    have hBs := hb.size
    obtain ⟨va, vc, rfl, _, _, _⟩ := own_slice hown
    clear hf hown hb
    by_cases hlt : (L.length : Int) < m
    · go_wp2_with fail
      refine (refGot_is t l (endF p L) wr HT.out hl).mono ?_; rintro e w1 ⟨hb1, (⟨B, hg, rfl⟩ | ⟨k, hg, rfl⟩)⟩
      · have HN := Lib.hid (HF.out.next (by omega) hg)
        have HE : Hid (endF p (L ++ [B]) = endF p L + 6 + (B.length : Int)) := by show _ = _; rw [endF_snoc]; omega
        have HO1 := Lib.hid ((own_below HOW.out hb1).alloc (.cells #[.string (bs B)] 9))
        have HB1 := Lib.hid (bel2 HB.out hb1)
        have hBs1 : w.heap.size ≤ w1.heap.size := HB1.out.size
        clear hg hb1
        go_wp2_with (at_builtin; go_must (refine wpList_append_rd _ rfl (.tmp 28) (.tmp 30) 37 rfl w.heap.size 9 i0 _ 1 16 Try.underlying37 hi0 hz0 hz1 HZ2.out rfl (by omega) _ L.length (sV L) rfl HO1.out _ _ 1 _ [.string (bs B)] rfl (by simp) (lit_rd w1 #[.string (bs B)] _) (by simp [Value.oneCell']) (by unfold maxLen; omega) (by omega) (by simp; omega) ?_)
                     intro v7 w3 hown3 hg3 _
                     have HO3 := Lib.hid hown3; have HB3 := Lib.hid (Below.of_grown (HB1.out.alloc hBs1 _) hg3 (by simp; omega) (by intro g hg; exact (own_shape HO1.out hg).1)); clear hown3 hg3)
        go_roundw
        case rel => exact ⟨L ++ [B], HN.out, by rw [HE.out], by rw [List.length_append]; simpa [sV] using HO3.out, HB3.out⟩
        case measure =>
          obtain ⟨va', vc', rfl, _, _, _⟩ := own_slice HO3.out
          simp
          omega
      · have HS := Lib.hid (HF.out.stop hg)
        have hk : ((k : Int) != 0) = true := by have := (gotF_err hg).1; simp; omega
        have HO1 := Lib.hid (own_below HOW.out hb1)
        have HB1 := Lib.hid (bel2 HB.out hb1)
        clear hg hb1
        go_wp2_with fail
        go_ret2
        exact ⟨_, by rw [HS.out]; rfl, by rw [HS.out]; exact HO1.out, HB1.out⟩
    · have HS := Lib.hid (HF.out.full (by omega))
      go_wp2_with fail
      go_ret2
      exact ⟨_, by rw [HS.out]; rfl, by rw [HS.out]; exact HOW.out, HB.out⟩
end Go.Proofs.Ytdeplooijjfekaa
