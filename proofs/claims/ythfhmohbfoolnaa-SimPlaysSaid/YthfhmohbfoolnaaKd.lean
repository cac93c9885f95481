import Derived.Test.YthfhmohbfoolnaaKc
namespace Go.Proofs.Ythfhmohbfoolnaa
open Go Go.RowKit Go.Maps Go.Sort

/-! The landed file system: New, Down, Fuse, Read. -/
theorem zero_file (w : World) : (zeroValue 69).run Try.prog w = .ok (flV (noF 0)) w := by kernel_rfl
theorem look_any {w : World} {b k : Nat} {L : List Fl} (h : w.ownsMap Try.prog 35 fileR b k (dF L)) (hs : SdF L) {n : Nat} (hn : n < 4294967296) :
    (Instr.lookup 60 (.map (some b)) (.int .u32 (n : Int)) false).run Try.prog w = .ok (flV (getF L n)) w := by
  obtain ⟨v, ps, hrun, hv⟩ := h.lookup lawF Try.underlying60 (zero_file w) (fileR_mk (noF 0)) (keyF_of hn)
  have e := get_dF hs n
  obtain ⟨x, rfl, hx⟩ := fileR_inv hv
  have e2 : (dF L).atKey (keyF n) (.held (flV (noF 0))) = .held (flV (getF L n)) := e
  rw [e2] at hx
  simp only [Prod.mk.injEq, DataW.held.injEq] at hx
  rw [hrun, hx.1]
set_option maxRecDepth 20000 in
set_option maxHeartbeats 1000000 in
theorem new_any (w : World) : Calls Try.prog 10 #[] w fun e w' => ∃ p S R, e = .returned (.pointer (some ⟨p, 0, none⟩)) ∧ FsL w' S R p newF ∧ (∀ k, S k → w.heap.size ≤ k) ∧ (∀ k, R k → w.heap.size ≤ k) ∧ Below w.heap.size w w' := by
  have hmm := @run_makeMap Try.prog
  have HO := Lib.hid (World.ownsMap_made w Try.prog 35 fileR)
  go_enter Try.func10, Try.ntmps10
  go_wp2
  go_ret
  refine ⟨w.heap.size + 1, fun k => k = w.heap.size + 1 ∨ k = w.heap.size, fun _ => False, by simp, ⟨w.heap.size, -1, by omega, fun k => Iff.rfl, fun _ h => h, ?_, ?_, by omega, by omega, by decide, new_ok⟩, fun k hk => by omega, fun k hk => hk.elim, ((box1 w _).alloc (by simp) _)⟩
  · have e : (w.alloc (.map #[] 0)).heap.size = w.heap.size + 1 := by simp
    rw [← e]
    exact (MapKept.heap_alloc _ _).1
  · exact (HO.out.alloc _)
set_option maxRecDepth 20000 in
set_option maxHeartbeats 1000000 in
theorem down_any (w : World) (S R : Nat → Prop) (p : Nat) (m : FSm) (hF : FsL w S R p m) :
    Calls Try.prog 16 #[.pointer (some ⟨p, 0, none⟩)] w fun e w' => e = .returned (.bool m.down) ∧ w' = w := by
  obtain ⟨b, fu, hne, hS, hR, hp, ho, h1, h2, h3, ok⟩ := hF
  have c2 := cells_cell hp (i := 2) rfl
  clear hp ho h3 ok hS hR
  go_enter Try.func16, Try.ntmps16
  go_wp2
  go_ret
  exact ⟨rfl, rfl⟩
/-- A cell of the file system's own block is written. -/
theorem set_heap {w : World} {p : Nat} {cs : Array Value} {e : TypeId} (h : w.heap[p]? = some (.cells cs e)) (i : Nat) (v : Value) : (w.setCell ⟨p, i, none⟩ v).heap[p]? = some (.cells (cs.setIfInBounds i v) e) := by
  simp [World.setCell, Array.getElem?_modify, h]
theorem set_other {w : World} {p k : Nat} (i : Nat) (v : Value) (h : k ≠ p) : (w.setCell ⟨p, i, none⟩ v).heap[k]? = w.heap[k]? := by
  simp [World.setCell, Array.getElem?_modify, Ne.symm h]
theorem set_off (S : Nat → Prop) (w : World) (p i : Nat) (v : Value) (h : S p) : Off S w (w.setCell ⟨p, i, none⟩ v) :=
  ⟨rfl, rfl, rfl, by simp [World.setCell], fun k hk hn => set_other i v (fun e => hn (by rw [e]; exact h))⟩
set_option maxRecDepth 20000 in
set_option maxHeartbeats 1000000 in
theorem fuse_any (w : World) (S R : Nat → Prop) (p : Nat) (m : FSm) (f : Int) (hF : FsL w S R p m) (h1 : -9223372036854775808 ≤ f) (h2 : f ≤ 9223372036854775807) :
    Calls Try.prog 20 #[.pointer (some ⟨p, 0, none⟩), .int .i64 f] w fun e w' => e = .returned (.tuple #[]) ∧ FsL w' S R p { m with fuse := max f (-1) } ∧ Off S w w' := by
  obtain ⟨b, fu, hne, hS, hR, hp, ho, _, _, h3, ok⟩ := hF
  have HS := Lib.hid hS; have HR := Lib.hid hR; have HP := Lib.hid hp; have HO := Lib.hid ho; have HOK := Lib.hid ok
  have c1 := cells_cell hp (i := 1) rfl
  have f1 := cells_frozen hp 1
  clear hp ho h3 ok hS hR
  go_enter Try.func20, Try.ntmps20
  go_wp2
  go_end0
  have ok := HOK.out
  exact ⟨rfl, ⟨b, f, hne, HS.out, HR.out, set_heap HP.out 1 _, owns_move HO.out (set_other _ _ hne), h1, h2, rfl, ok.1, ok.2.1, by show -1 ≤ max f (-1); omega, by show max f (-1) ≤ _; omega⟩, set_off S w p 1 _ ((HS.out p).2 (.inl rfl))⟩
theorem field_now (a b c d : Value) (w : World) : (Instr.field 69 (.agg #[a, b, c, d]) 0).run Try.prog w = .ok (.agg #[a, b]) w := by kernel_rfl
theorem bytes_bs (x : ByteArray) : bs x.data.toList = x := rfl
set_option maxRecDepth 20000 in
set_option maxHeartbeats 2000000 in
theorem read_any (w : World) (S R : Nat → Prop) (p : Nat) (m : FSm) (n : Nat) (hF : FsL w S R p m) (hb : Bnd m) (hn : n < 4294967296) :
    Calls Try.prog 14 #[.pointer (some ⟨p, 0, none⟩), .int .u32 (n : Int)] w fun e w' => ∃ a c, e = .returned (.tuple #[.slice a (readF m n).1.size c, .int .i64 (readF m n).2]) ∧ (readF m n).1.size ≤ c ∧ c ≤ maxLen ∧ NewBytes w w' S R a (readF m n).1.data.toList ∧ Below w.heap.size w w' := by
  have HF := Lib.hid hF; clear hF
  obtain ⟨b, fu, hne, hS, hR, hp, ho, _, _, h3, ok⟩ := HF.out
  have hlk := look_any ho ok.1 hn
  have c0 := cells_cell hp (i := 0) rfl
  clear hp ho h3 ok hS hR
  obtain ⟨x, hx⟩ : ∃ x, x = getF m.files n := ⟨_, rfl⟩
  rw [← hx] at hlk
  have HX := Lib.hid hx; clear hx
  have HRD : Hid (readF m n = if x.there = true then (x.now, 0) else (ByteArray.empty, 5)) := by show _ = _; rw [HX.out]; rfl
  rw [HRD.out]
  clear HRD
  obtain ⟨xn, t, k, nw, sf⟩ := x
  unfold flV at hlk
  simp only at hlk ⊢
  have hfn := field_now
  cases t
  · go_enter Try.func14, Try.ntmps14
    go_wp2
    go_ret2
    refine ⟨none, 0, rfl, ?_⟩
    first
      | exact ⟨Nat.le_refl _, by decide, fun h => absurd h (Nat.lt_irrefl 0), box1 _ _⟩
      | exact ⟨by decide, fun h => absurd h (Nat.lt_irrefl 0), box1 _ _⟩
  · have kb := fun (w : World) (S : ByteArray) => run_bytes_of_string (P := Try.prog) w 9 36 5 S Try.underlying9 Try.underlying36 Try.underlying5
    go_enter Try.func14, Try.ntmps14
    go_wp2
    go_ret2
    have hsz := (get_sz hb.2 n).1
    rw [← HX.out] at hsz
    simp only at hsz
    obtain ⟨hra, hth⟩ := alloc_bytes (w.alloc (.cells #[.bool true, .string nw] 67)) nw (grownCap (w.alloc (.cells #[.bool true, .string nw] 67)) nw.size 0 5) ((bytesRow nw (grownCap (w.alloc (.cells #[.bool true, .string nw] 67)) nw.size 0 5)).size, (bytesRow nw (grownCap (w.alloc (.cells #[.bool true, .string nw] 67)) nw.size 0 5)).size + 1) (by unfold bytesRow; simp)
    rw [World.size_alloc] at hra hth
    refine ⟨some ⟨w.heap.size + 1, 0, none⟩, _, rfl, grownCap_ge _ _ _ _, grownCap_le_maxLen _ _ _ _ (by unfold maxLen; show nw.size ≤ _; omega), fun _ => ⟨w.heap.size + 1, 0, rfl, by omega, by simp, fun h => ?_, fun h => ?_, (World.rangeAt_drew _ _ _ _).2 hra, ?_⟩, Below_drew ((box1 w _).alloc (by simp) _)⟩
    · have := HF.out.low.1 _ h; omega
    · have := HF.out.low.2 _ h; omega
    · rw [data_length]; exact (World.there_drew _ _ _ _).2 hth
end Go.Proofs.Ythfhmohbfoolnaa
