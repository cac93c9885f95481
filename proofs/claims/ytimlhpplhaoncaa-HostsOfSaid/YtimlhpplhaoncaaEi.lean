import Derived.Test.YtimlhpplhaoncaaEh
namespace Go.Proofs.Ytimlhpplhaoncaa
open Go Go.RowKit Go.Sort Go.Maps
set_option linter.unusedVariables false

/-! The landed code of stage 13: the places of each host's spans. -/
theorem zero_slice13 (w : World) : (zeroValue 28).run Try.prog w = .ok (.slice none 0 0) w := by kernel_rfl
def orN (o : Option Value) : Value := o.getD (.slice none 0 0)
/-- The map of the places of the first n spans of each host. -/
structure PlI (w wr : World) (b : Nat) (L : List Sp) (n : Nat) (g : Tx → Option Value) : Prop where
  mp : MapG Try.prog 9 keyS wr b n g
  row : ∀ x, wr.ownsRow (b + 1) 3 1 (orN (g x)) (grpN L x n).length (intV (grpN L x n))
  ap : ∀ x y, x ≠ y → Apart (orN (g x)) (orN (g y))
  le : w.heap.size ≤ b
  bw : Below w.heap.size w wr
theorem PlI.below {w wr w' : World} {b : Nat} {L : List Sp} {n : Nat} {g : Tx → Option Value} (h : PlI w wr b L n g) (hb : Below wr.heap.size wr w') : PlI w w' b L n g :=
  ⟨h.mp.below hb, fun x => own_below (h.row x) hb, h.ap, h.le, bel2 h.bw hb⟩
theorem PlI.push {w V w4 w5 : World} {b : Nat} {L : List Sp} {n : Nat} {g : Tx → Option Value} {x : Tx} {v : Value} (h : PlI w V b L n g) (hn : n < L.length) (hx : hostT L[n] = x)
    (ho : w4.ownsRow (b + 1) 3 1 v ((grpN L x n).length + 1) (intV (grpN L x n) ++ [.int .i64 (n : Int)])) (hg : V.grownBy w4 (orN (g x)).ownBlock) (hat : v.ownBlock = (orN (g x)).ownBlock ∨ v.ownBlock = some V.heap.size)
    (hm : MapG Try.prog 9 keyS w5 b (n + 1) (fun z => if z = x then some v else g z)) (hg5 : w4.grownBy w5 (some b)) : PlI w w5 b L (n + 1) (fun z => if z = x then some v else g z) := by
  have hb4 : Below w.heap.size w w4 := h.bw.grown hg h.bw.size (fun k hk => by have := (own_shape (h.row x) hk).1; have := h.le; omega)
  refine ⟨hm, fun y => ?_, fun y z hyz => ?_, h.le, hb4.grown hg5 hb4.size (by intro k hk; injection hk with hk; have := h.le; omega)⟩
  · by_cases e : y = x
    · subst e
      rw [if_pos rfl, grpN_yes hn hx, List.length_append, intV_append]
      exact ho.kept hg5 (own_ne13 ho (by omega))
    · rw [if_neg e, grpN_no hn (fun e2 => e (by rw [← e2, hx]))]
      have h1 := (h.row y).kept hg (h.ap y x e).row
      exact h1.kept hg5 (own_ne13 h1 (by omega))
  · show Apart (orN (if y = x then some v else g y)) (orN (if z = x then some v else g z))
    by_cases e : y = x
    · have e2 : z ≠ x := fun e2 => hyz (e.trans e2.symm)
      rw [if_pos e, if_neg e2]
      exact ((h.ap z x e2).next (h.row z) hat).symm
    · rw [if_neg e]
      by_cases e2 : z = x
      · rw [if_pos e2]
        exact (h.ap y x e).next (h.row y) hat
      · rw [if_neg e2]; exact h.ap y z hyz
set_option maxHeartbeats 8000000 in
theorem places_any (a : Option Addr) (c : Nat) (L : List Sp) (w : World) (ha : Rd w w.heap.size a (flatL L)) (hl : L.length ≤ 100000) (hok : ∀ s ∈ L, s.Ok) :
    Calls Try.prog 15 #[.slice a L.length c] w fun e w' => e = .returned (.map (some w.heap.size)) ∧ ∃ g, PlI w w' w.heap.size L L.length g := by
  obtain ⟨i0, hi0, hz0, hz1, hz2⟩ := info_parts info_int13
  have HZ2 := Lib.hid hz2; clear hz2
  have HA := Lib.hid ha; have HOK := Lib.hid hok; clear ha hok
  have hmm := @run_makeMap Try.prog
  go_enter Try.func15, Try.ntmps15
  go_wp2_with fail
  go_loopw [9] (fun i wr => ∃ (n : Nat) (g : Tx → Option Value), n ≤ L.length ∧ i = .int .i64 n ∧ PlI w wr w.heap.size L n g) (fun i _ => L.length - (intOf i).toNat)
  case atStart =>
    refine ⟨0, fun _ => none, Nat.zero_le _, rfl, MapG.new w, fun x => ?_, fun x y _ => .inl rfl, Nat.le_refl _, box1 _ _⟩
    have e : grpN L x 0 = [] := rfl
    rw [e]
    exact ⟨rfl, .inl ⟨rfl, rfl⟩⟩
  clear hmm
  case round =>
    obtain ⟨n, g, hn, rfl, hI⟩ := hrel
    have HI := Lib.hid hI; clear hI
    generalize wr = W1 at *
    by_cases hlt : n < L.length
    · obtain ⟨b2, o2, hb1, hB2', f0, f1, f2, f3, f4, f5, f6, f7⟩ := (HA.out.below HI.out.bw).elem hlt
      subst hb1
      have OKs := Lib.hid (HOK.out L[n] (List.getElem_mem _))
      obtain ⟨s, hs⟩ : ∃ s, L[n] = s := ⟨_, rfl⟩
      have HS : Hid (hostT L[n] = txt s.host) := by show _ = _; rw [hs]; rfl
      rw [hs] at OKs f0 f1 f2 f3 f4 f5 f6 f7
      clear hs
      have i3 : (n : Int) < (L.length : Int) := by omega
      have i4 : (0 : Int) ≤ (n : Int) := by omega
      obtain ⟨W2, hW2⟩ : ∃ W2, W2 = W1.alloc (.cells #[.int .u64 s.trace, .int .u64 s.id, .int .u64 s.parent, .int .u8 s.kind, .string s.host, .string s.name, .int .i64 s.start, .int .i64 s.dur] 34) := ⟨_, rfl⟩
      have HX : Hid (Box W2 W1.heap.size s) := by show Box _ _ _; rw [hW2]; exact Box.new W1 s _
      have HI2 : Hid (PlI w W2 w.heap.size L n g) := by show PlI _ _ _ _ _ _; rw [hW2]; exact HI.out.below (box1 _ _)
      obtain ⟨_, _, _, _, x4, _, _, _⟩ := HX.out.all
      have y4 : (W2.alloc (.cells #[.int .i64 (n : Int)] 3)).cell? ⟨W1.heap.size, 4, none⟩ = some (.string s.host) := (HX.out.below (box1 W2 _) HX.out.1).all.2.2.2.2.1
      have hgl := grpN_le L (txt s.host) n
      have HR := Lib.hid (HI2.out.row (txt s.host))
      obtain ⟨va, vc, hv, _, _, _⟩ := own_slice HR.out
      have hlook := (HI2.out.below (Below_drew (Below.refl _ _))).mp.look lawS13 Try.underlying38 (zero_slice13 _) (keyOf_S13 OKs.out.host)
      have hlook2 := ((HI2.out.below (Below_drew (Below.refl _ _))).below (box1 _ (.cells #[.int .i64 (n : Int)] 3))).mp.look lawS13 Try.underlying38 (zero_slice13 _) (keyOf_S13 OKs.out.host)
      change _ = Result.ok (orN (g (txt s.host))) _ at hlook
      change _ = Result.ok (orN (g (txt s.host))) _ at hlook2
      rw [hv] at hlook hlook2
      have HV := Lib.hid hv
      clear hv
      go_upto_region 1 with fail
      rw [← hW2]
      obtain ⟨r, hr⟩ : ∃ r, r = (grpN L (txt s.host) n).length := ⟨_, rfl⟩
      have HR2 := Lib.hid HR.out
      rw [← hr] at hgl hlook hlook2 HV
      have HRW : Hid (W2.ownsRow (w.heap.size + 1) 3 1 (.slice va r vc) r (intV (grpN L (txt s.host) n))) := by
        show W2.ownsRow _ _ _ _ _ _
        rw [← HV.out, hr]; exact HR.out
      have HLR := Lib.hid hr
      have hz2 : w.heap.size + 1 ≤ W2.heap.size := HI2.out.mp.lt
      have hlook3 : (Instr.lookup 38 (.map (some w.heap.size)) (.string s.host) false).run Try.prog (W2.alloc (.cells #[.int .i64 (n : Int)] 3)).drew = .ok (.slice va r vc) (W2.alloc (.cells #[.int .i64 (n : Int)] 3)).drew := hlook2
      have HNB : Hid ((some W1.heap.size : Option Nat) ≠ (orN (g (txt s.host))).ownBlock) := fun e => by
        have := (own_shape (HI.out.row (txt s.host)) e.symm).2.1
        omega
      have HX3 := Lib.hid (HX.out.below (box1 W2 (.cells #[.int .i64 (n : Int)] 3)) HX.out.1)
      clear hr HR f0 f1 f2 f3 f4 f5 f6 f7 hW2
      go_region_law (first
        | (refine step_append_rd _ rfl (.tmp 20) (.tmp 22) 28 rfl (w.heap.size + 1) 3 i0 _ 1 8 Try.underlying28 hi0 hz0 hz1 HZ2.out rfl (by omega) (.slice va r vc) r (intV (grpN L (txt s.host) n)) (by simp [Act.eval]) (HRW.out.drew.alloc _) _ _ 1 1 [.int .i64 (n : Int)] (by simp [Act.eval]) rfl (lit_rd W2.drew #[.int .i64 (n : Int)] _) (by intro u hu; simp only [List.mem_cons, List.not_mem_nil, or_false] at hu; rcases hu with rfl; rfl) (by unfold maxLen; omega) (by omega) (by simp; omega) ?_
           intro v8 w8 hown8 hg8 hat8
           have HV2 := Lib.hid ((HI2.out.below (Below_drew (Below.refl _ _))).below (box1 _ (.cells #[.int .i64 (n : Int)] 3)))
           have hg8' : ((W2.alloc (.cells #[.int .i64 (n : Int)] 3)).drew).grownBy w8 (orN (g (txt s.host))).ownBlock := by rw [HV.out]; exact hg8
           have HM8 := Lib.hid (HV2.out.mp.grown hg8' (by
             intro e
             have := (own_shape (HR2.out) e.symm).1
             omega))
           obtain ⟨w9, hrun9, hm9, hg9⟩ := HM8.out.run_put13 lawS13 Try.underlying38 keyS_inj keyS_is (by unfold maxLen; omega) (keyOf_S13 OKs.out.host) v8
           have HF9 := Lib.hid (HV2.out.push hlt HS.out (by rw [← HLR.out]; exact hown8) hg8' (by rw [HV.out]; exact hat8) hm9 hg9)
           have y8 : w8.cell? ⟨W1.heap.size, 4, none⟩ = some (.string s.host) := (World.cell?_of_block (a := ⟨W1.heap.size, 4, none⟩) (hg8'.block W1.heap.size HX3.out.1 HNB.out)).trans HX3.out.all.2.2.2.2.1
           clear hown8 hg8 hat8 hg8' hm9 hg9 HM8))
      all_goals
        clear x4 y4 hlook hlook2 hlook3
        go_wp2_with fail
        go_roundw
        case rel => exact ⟨n + 1, _, by omega, by go_num, HF9.out⟩
        case measure => simp [intOf]; omega
    · obtain rfl : n = L.length := by omega
      go_wp2_with fail
      go_ret
      exact ⟨rfl, g, HI.out⟩
end Go.Proofs.Ytimlhpplhaoncaa
