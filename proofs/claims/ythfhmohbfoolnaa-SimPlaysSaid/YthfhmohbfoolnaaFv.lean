import Derived.Test.YthfhmohbfoolnaaFu
namespace Go.Proofs.Ythfhmohbfoolnaa
open Go Go.RowKit Go.Sort

/-! Acts that come in, before anything of the law's own is laid. -/
structure AcArg (w : World) (a : Ac) : Prop where
  n : a.n < 4294967296
  s1 : -9223372036854775808 ≤ a.size
  s2 : a.size ≤ 9223372036854775807
  b : Rd w w.heap.size a.ba (bV a.body)
  bc : a.body.length ≤ a.bc
  bm : a.bc ≤ maxLen
  f : Rd w w.heap.size a.fa (flatG Ft.l a.fates)
  fc : a.fates.length ≤ a.fc
  fm : a.fc ≤ maxLen
  t : ∀ t ∈ a.fates, Rd w w.heap.size t.ga (bV t.g) ∧ t.g.length ≤ t.gc ∧ t.gc ≤ maxLen ∧ -9223372036854775808 ≤ t.bytes ∧ t.bytes ≤ 9223372036854775807
theorem AcArg.in {w w' : World} {a : Ac} (h : AcArg w a) {S : Nat → Prop} (hb : Below w.heap.size w w') (hS : ∀ k, S k → w.heap.size ≤ k) (h1 : a.body.length ≤ 4000) (h2 : a.fates.length ≤ 4000) : AcIn S w' a :=
  ⟨h.n, h.s1, h.s2, RdN.of (h.b.below hb) hb.size hS, h1, h.bc, h.bm, RdN.of (h.f.below hb) hb.size hS, h2, h.fc, h.fm, fun t ht => ⟨RdN.of ((h.t t ht).1.below hb) hb.size hS, (h.t t ht).2⟩⟩
theorem great_no {L : List Ac} (h : greatB L = false) : L.length ≤ 80 ∧ ∀ a ∈ L, a.body.length ≤ 4000 ∧ a.fates.length ≤ 4000 := by
  unfold greatB at h
  simp only [Bool.or_eq_false_iff] at h
  obtain ⟨⟨h1, h2⟩, _⟩ := h
  refine ⟨by simpa using h1, fun a ha => ?_⟩
  have := List.any_eq_false.1 h2 a ha
  simp [wideA] at this; omega
/-- What an act of the first five kinds comes to. -/
theorem do_falls {m : FSm} (ok : m.Ok) {a : Ac} (h0 : 0 ≤ a.kind) (h4 : a.kind ≤ 4) (hf : 0 ≤ m.fuse) :
    (m.down = true ∧ doF m a = (m, 7)) ∨ (m.down = false ∧ (doF m a).1 = m ∧ (doF m a).2 ≠ 0 ∧ (doF m a).2 ≠ 7) ∨
    (m.down = false ∧ m.fuse = 0 ∧ (doF m a).2 = 7 ∧ (doF m a).1.down = true ∧ (doF m a).1.fuse = 0 ∧ (a.kind = 3 → (doF m a).1.files = m.files)) ∨
    (m.down = false ∧ 0 < m.fuse ∧ (doF m a).2 = 0 ∧ (doF m a).1.down = false ∧ (doF m a).1.fuse = m.fuse - 1) := by
  unfold doF
  split
  · rename_i h
    rcases (create_acted m a.n).falls hf with h | h | ⟨h1, h2, h3, h5, h6, _⟩ | h
    · exact .inl h
    · exact .inr (.inl h)
    · exact .inr (.inr (.inl ⟨h1, h2, h3, h5, h6, fun e => by omega⟩))
    · exact .inr (.inr (.inr h))
  · split
    · rename_i h
      rcases (append_acted ok a.n (bs a.body)).falls hf with h | h | ⟨h1, h2, h3, h5, h6, _⟩ | h
      · exact .inl h
      · exact .inr (.inl h)
      · exact .inr (.inr (.inl ⟨h1, h2, h3, h5, h6, fun e => by omega⟩))
      · exact .inr (.inr (.inr h))
    · split
      · rename_i h
        rcases (trunc_acted ok a.n a.size).falls hf with h | h | ⟨h1, h2, h3, h5, h6, _⟩ | h
        · exact .inl h
        · exact .inr (.inl h)
        · exact .inr (.inr (.inl ⟨h1, h2, h3, h5, h6, fun e => by omega⟩))
        · exact .inr (.inr (.inr h))
      · split
        · rcases (sync_acted ok a.n).falls hf with h | h | ⟨h1, h2, h3, h5, h6, h7⟩ | h
          · exact .inl h
          · exact .inr (.inl h)
          · exact .inr (.inr (.inl ⟨h1, h2, h3, h5, h6, fun _ => h7 rfl⟩))
          · exact .inr (.inr (.inr h))
        · split
          · rename_i h
            rcases (remove_acted ok a.n).falls hf with h | h | ⟨h1, h2, h3, h5, h6, _⟩ | h
            · exact .inl h
            · exact .inr (.inl h)
            · exact .inr (.inr (.inl ⟨h1, h2, h3, h5, h6, fun e => by omega⟩))
            · exact .inr (.inr (.inr h))
          · omega
theorem do_other (m : FSm) {a : Ac} (h : a.kind < 0 ∨ 6 < a.kind) : doF m a = (m, 0) := by
  unfold doF
  rw [if_neg (by omega), if_neg (by omega), if_neg (by omega), if_neg (by omega), if_neg (by omega), if_neg (by omega), if_neg (by omega)]
/-- Where the loop of the law stands. -/
structure Q5 (K : FsKit) (w wr : World) (p : Nat) (f k d : Nat) (S R : Nat → Prop) (m : FSm) : Prop where
  fs : K.Fs wr S R p m
  lim : Lim k m
  fu : 0 ≤ m.fuse
  dn : m.down = false → m.fuse = (f : Int) - d
  df : d ≤ f
  lo : ∀ k, S k → w.heap.size ≤ k
  bw : Below w.heap.size w wr
theorem Q5.did {K : FsKit} {w wr w' : World} {p f k d : Nat} {S R S' R' : Nat → Prop} {m : FSm} (h : Q5 K w wr p f k d S R m) (hf : K.Fs w' S' R' p m) (hd : Did S R S' R' wr w') : Q5 K w w' p f k d S' R' m :=
  { h with fs := hf, lo := fun k hk => (hd.s k hk).elim (h.lo k) (fun h' => Nat.le_trans h.bw.size h'), bw := h.bw.trans (hd.off.below h.bw.size h.lo) }
theorem Q5.below {K : FsKit} {w wr w' : World} {p f k d : Nat} {S R : Nat → Prop} {m : FSm} (h : Q5 K w wr p f k d S R m) (hb : Below wr.heap.size wr w') : Q5 K w w' p f k d S R m := h.did (K.below h.fs hb) (Did.below hb)
theorem Q5.more {K : FsKit} {w wr : World} {p f k d : Nat} {S R : Nat → Prop} {m : FSm} (h : Q5 K w wr p f k d S R m) : Q5 K w wr p f (k + 1) d S R m := { h with lim := h.lim.more (Nat.le_succ k) }
end Go.Proofs.Ythfhmohbfoolnaa
