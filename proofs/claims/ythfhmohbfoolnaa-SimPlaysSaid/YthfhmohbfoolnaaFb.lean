import Derived.Test.YthfhmohbfoolnaaFa
namespace Go.Proofs.Ythfhmohbfoolnaa
open Go Go.RowKit

def looseF (x : Fl) : Bool := (x.there != x.kept) || (x.there && decide (x.now ≠ x.safe))
set_option maxHeartbeats 1000000 in
theorem loose_any (x : Fl) (w : World) : Calls Try.prog 49 #[x.v] w fun e w' => e = .returned (.bool (looseF x)) ∧ Below w.heap.size w w' := by
  obtain ⟨n, t, k, nw, sf⟩ := x
  unfold Fl.v
  simp only
  by_cases hs : nw = sf
  · obtain ⟨t1, t2⟩ := str_eq (x := nw) (y := sf) (b := true) (by simp [hs])
    simp only [Bool.not_true] at t2
    have HE : Hid (looseF ⟨n, t, k, nw, sf⟩ = (t != k)) := by show _ = _; simp [looseF, hs]
    clear hs
    cases t <;> cases k
    all_goals
      go_enter Try.func49, Try.ntmps49
      go_wp2
      go_ret
      exact ⟨ret_bool (by rw [HE.out]; rfl), box1 _ _⟩
  · obtain ⟨t1, t2⟩ := str_eq (x := nw) (y := sf) (b := false) (by simp [hs])
    simp only [Bool.not_false] at t2
    have HE : Hid (looseF ⟨n, t, k, nw, sf⟩ = ((t != k) || t)) := by show _ = _; simp [looseF, hs]
    clear hs
    cases t <;> cases k
    all_goals
      go_enter Try.func49, Try.ntmps49
      go_wp2
      go_ret
      exact ⟨ret_bool (by rw [HE.out]; rfl), box1 _ _⟩
theorem loose_is {x : Fl} {b : Bool} (h : looseF x = b) (w : World) : Calls Try.prog 49 #[x.v] w fun e w' => e = .returned (.bool b) ∧ Below w.heap.size w w' := by
  subst h; exact loose_any x w
def u32V (N : List Nat) : List Value := N.map fun (n : Nat) => .int .u32 (n : Int)
theorem u32V_length (N : List Nat) : (u32V N).length = N.length := by simp [u32V]
theorem u32V_one (N : List Nat) : ∀ u ∈ u32V N, u.oneCell' = true := by
  intro u hu; obtain ⟨c, _, rfl⟩ := List.mem_map.1 hu; rfl
theorem u32V_append (N M : List Nat) : u32V (N ++ M) = u32V N ++ u32V M := by simp [u32V]
def NumsOut (w : World) (N : List Nat) (e : Ending) (w' : World) : Prop :=
  ∃ a c, e = .returned (.slice a N.length c) ∧ N.length ≤ c ∧ c ≤ maxLen ∧ Rd w' w'.heap.size a (u32V N) ∧ (∀ b o s, a = some ⟨b, o, s⟩ → w.heap.size ≤ b) ∧ Below w.heap.size w w'
def pickF (lo : Bool) (x : Fl) : Bool := if lo = true then looseF x else x.there
def numsF (lo : Bool) (L : List Fl) : List Nat := (L.filter (pickF lo)).map Fl.n
theorem numsF_yes {lo : Bool} {L : List Fl} {k : Nat} (h : k < L.length) (hp : pickF lo L[k] = true) : numsF lo (L.take (k + 1)) = numsF lo (L.take k) ++ [L[k].n] := by
  unfold numsF; rw [List.take_succ_eq_append_getElem h, List.filter_append, List.map_append]; simp [hp]
theorem numsF_no {lo : Bool} {L : List Fl} {k : Nat} (h : k < L.length) (hp : pickF lo L[k] = false) : numsF lo (L.take (k + 1)) = numsF lo (L.take k) := by
  unfold numsF; rw [List.take_succ_eq_append_getElem h, List.filter_append]; simp [hp]
theorem numsF_le (lo : Bool) (L : List Fl) : (numsF lo L).length ≤ L.length := by
  unfold numsF; rw [List.length_map]; exact List.length_filter_le _ _
theorem info_u32 : (Try.prog.info? 35).map (fun i => (i.zero, i.size, i.bytes)) = some (some (.int .u32 0), 1, 4) := by kernel_rfl
set_option maxRecDepth 20000 in
set_option maxHeartbeats 4000000 in
theorem numbers_any (a : Option Addr) (c : Nat) (L : List Fl) (fu : Int) (dn : Bool) (lo : Bool) (w : World) (hr : Rd w w.heap.size a (flF L)) (hl : L.length ≤ 1000000000) :
    Calls Try.prog 62 #[fsv a L.length c fu dn, .bool lo] w (NumsOut w (numsF lo L)) := by
  have HR := Lib.hid hr; clear hr
  obtain ⟨i0, hi0, hz0, hz1, hz2⟩ := info_parts info_u32
  have HZ2 := Lib.hid hz2; clear hz2
  unfold fsv
  go_enter Try.func62, Try.ntmps62
  go_wp2_with fail
  have hbx := box1 w (.cells #[.slice a L.length c, .int .i64 fu, .bool dn] 28)
  have HC0 : Hid ((w.alloc (.cells #[.slice a L.length c, .int .i64 fu, .bool dn] 28)).cell? ⟨w.heap.size, 0, none⟩ = some (.slice a L.length c)) := by show _ = _; go_simp
  have HBX := Lib.hid hbx; clear hbx
  go_loopw [5, 6] (fun v i wr => ∃ k : Nat, k ≤ L.length ∧ i = .int .i64 k ∧ wr.ownsRow (w.heap.size + 1) 35 1 v (numsF lo (L.take k)).length (u32V (numsF lo (L.take k))) ∧ RowKit.Below (w.heap.size + 1) (w.alloc (.cells #[.slice a L.length c, .int .i64 fu, .bool dn] 28)) wr) (fun _ i _ => L.length - (intOf i).toNat)
  case atStart =>
    refine ⟨0, Nat.zero_le _, rfl, ?_, (Below.refl _ _).alloc (by simp) _⟩
    have h := World.ownsRow_made (base := w.heap.size + 1) (e := 35) (size := 1) (w.alloc (.cells #[.slice a L.length c, .int .i64 fu, .bool dn] 28)) #[] 0 (by simp) (by decide) rfl
    rw [World.size_alloc] at h
    exact h
  case round =>
    obtain ⟨k, hk, rfl, hown, hbw⟩ := hrel
    have HO := Lib.hid hown; have HW := Lib.hid hbw; clear hown hbw
    have hc0 : wr.cell? ⟨w.heap.size, 0, none⟩ = some (.slice a L.length c) := by rw [HW.out.cell (p := ⟨w.heap.size, 0, none⟩) (by simp)]; exact HC0.out
    have HWW : Hid (Below w.heap.size w wr) := HBX.out.trans (HW.out.mono (by omega))
    have HSZ : Hid (w.heap.size + 1 ≤ wr.heap.size) := by show _ ≤ _; have := HW.out.size; simp at this; omega
    by_cases hlt : k < L.length
    · obtain ⟨b, off, ha, hbl, e0, e1, e2, e3, e4⟩ := flF_elem (HR.out.below HWW.out) hlt
      subst ha
      have i1 : (0 : Int) ≤ (k : Int) := by omega
      have i2 : (k : Int) < (L.length : Int) := by omega
      have HLE := Lib.hid (numsF_le lo (L.take k))
      have hkt : (L.take k).length ≤ L.length := by rw [List.length_take]; omega
      have HKT := Lib.hid hkt; clear hkt
      cases hp : pickF lo L[k]
      · have HN := Lib.hid (numsF_no hlt hp)
        cases lo
        · have hth : L[k].there = false := hp
          clear hp
          generalize L[k] = x at *
          rw [hth] at e1
          clear hth
          go_wp2_with fail
          go_roundw
          case rel => exact ⟨k + 1, by omega, by go_num, by rw [HN.out]; exact HO.out, HW.out⟩
          case measure => simp [intOf]; omega
        · have HL : Hid (looseF L[k] = false) := hp
          clear hp
          generalize L[k] = x at *
          go_wp2_with fail
          refine (loose_is HL.out _).mono ?_; rintro e w4 ⟨rfl, hb4⟩
          have hc4 : w4.cell? ⟨w.heap.size, 0, none⟩ = some (.slice (some ⟨b, off, none⟩) L.length c) := by rw [hb4.cell (p := ⟨w.heap.size, 0, none⟩) (by show w.heap.size < _; have := HSZ.out; omega)]; exact hc0
          have HO4 := Lib.hid (own_below HO.out hb4); have HW4 : Hid (RowKit.Below (w.heap.size + 1) (w.alloc (.cells #[.slice (some ⟨b, off, none⟩) L.length c, .int .i64 fu, .bool dn] 28)) w4) := HW.out.trans (hb4.mono HSZ.out)
          clear hb4
          go_wp2_with fail
          go_roundw
          case rel => exact ⟨k + 1, by omega, by go_num, by rw [HN.out]; exact HO4.out, HW4.out⟩
          case measure => simp [intOf]; omega
      · have HN := Lib.hid (numsF_yes hlt hp)
        cases lo
        · have hth : L[k].there = true := hp
          clear hp
          generalize L[k] = x at *
          rw [hth] at e1
          clear hth
          go_wp2_with (refine wpList_append_rd _ rfl (.tmp 36) (.tmp 43) 43 rfl (w.heap.size + 1) 35 i0 _ 1 4 Try.underlying43 hi0 hz0 hz1 HZ2.out rfl (by omega) u5 (numsF _ (L.take k)).length _ rfl (HO.out.alloc _) _ _ 1 1 (u32V [x.n]) rfl rfl (lit_rd wr #[.int .u32 (x.n : Int)] _) (u32V_one _) (by have := HLE.out; have := HKT.out; unfold maxLen; omega) (by have := HLE.out; have := HKT.out; omega) (by have := HW.out.size; simp at this ⊢; omega) ?_
                       intro v8 w8 hown8 hg8 _
                       have hb8 := Below.of_grown (HW.out.alloc (by have := HW.out.size; simp at this; omega) (.cells #[.int .u32 (x.n : Int)] 35)) hg8 (by have := HW.out.size; simp at this ⊢; omega) (fun g h => (own_shape HO.out h).1)
                       have HO8 := Lib.hid hown8; have HB8 := Lib.hid hb8; clear hown8 hg8 hb8)
          go_roundw
          case rel => exact ⟨k + 1, by omega, by go_num, by rw [HN.out, List.length_append, u32V_append]; exact HO8.out, HB8.out⟩
          case measure => simp [intOf]; omega
        · have HL : Hid (looseF L[k] = true) := hp
          clear hp
          generalize L[k] = x at *
          go_wp2_with fail
          refine (loose_is HL.out _).mono ?_; rintro e w4 ⟨rfl, hb4⟩
          have hc4 : w4.cell? ⟨w.heap.size, 0, none⟩ = some (.slice (some ⟨b, off, none⟩) L.length c) := by rw [hb4.cell (p := ⟨w.heap.size, 0, none⟩) (by show w.heap.size < _; have := HSZ.out; omega)]; exact hc0
          have f0 : w4.cell? ⟨b, off + k * 5, none⟩ = some (.int .u32 (x.n : Int)) := by rw [hb4.cell (p := ⟨b, off + k * 5, none⟩) (by show b < _; have := HSZ.out; omega)]; exact e0
          have HO4 := Lib.hid (own_below HO.out hb4); have HW4 : Hid (RowKit.Below (w.heap.size + 1) (w.alloc (.cells #[.slice (some ⟨b, off, none⟩) L.length c, .int .i64 fu, .bool dn] 28)) w4) := HW.out.trans (hb4.mono HSZ.out)
          clear hb4
          go_wp2_with (refine wpList_append_rd _ rfl (.tmp 36) (.tmp 43) 43 rfl (w.heap.size + 1) 35 i0 _ 1 4 Try.underlying43 hi0 hz0 hz1 HZ2.out rfl (by omega) u5 (numsF _ (L.take k)).length _ rfl (HO4.out.alloc _) _ _ 1 1 (u32V [x.n]) rfl rfl (lit_rd w4 #[.int .u32 (x.n : Int)] _) (u32V_one _) (by have := HLE.out; have := HKT.out; unfold maxLen; omega) (by have := HLE.out; have := HKT.out; omega) (by have := HW4.out.size; simp at this ⊢; omega) ?_
                       intro v8 w8 hown8 hg8 _
                       have hb8 := Below.of_grown (HW4.out.alloc (by have := HW4.out.size; simp at this; omega) (.cells #[.int .u32 (x.n : Int)] 35)) hg8 (by have := HW4.out.size; simp at this ⊢; omega) (fun g h => (own_shape HO4.out h).1)
                       have HO8 := Lib.hid hown8; have HB8 := Lib.hid hb8; clear hown8 hg8 hb8)
          go_roundw
          case rel => exact ⟨k + 1, by omega, by go_num, by rw [HN.out, List.length_append, u32V_append]; exact HO8.out, HB8.out⟩
          case measure => simp [intOf]; omega
    · have : k = L.length := by omega
      subst this
      rw [List.take_length] at HO
      go_wp2_with fail
      obtain ⟨a5, c5, rfl, h1, h2, _⟩ := own_slice HO.out
      go_ret
      exact ⟨a5, c5, rfl, h1, h2, Rd.own HO.out, fun b o s e => (by have := (own_shape (k := b) HO.out (by rw [e]; rfl)).1; omega), HWW.out⟩
end Go.Proofs.Ythfhmohbfoolnaa
