import Derived.Test.YtkjngmlebflffaaUj
namespace Go.Proofs.Ytkjngmlebflffaa
set_option linter.unusedVariables false

/-! Forests and their rows: plain facts (stage 11). -/
structure It where
  place : Nat
  depth : Nat
  parent : Int
/-- Those whose parent a place is. -/
def kidsL (P : List Int) (x : Int) : List Nat := (List.range P.length).filter fun i => P.getD i (-1) == x
theorem mem_kids {P : List Int} {x : Int} {k : Nat} : k ∈ kidsL P x ↔ k < P.length ∧ P.getD k (-1) = x := by
  simp [kidsL]
theorem kids_rise (P : List Int) (x : Int) : (kidsL P x).Pairwise (· < ·) := List.pairwise_lt_range.filter _
/-- A place's depth. -/
def Lv (P : List Int) (k d : Nat) : Prop := k < P.length ∧ 0 ≤ upL P d (k : Int) ∧ upL P (d + 1) (k : Int) < 0
theorem Lv.one {P : List Int} {k d e : Nat} (h : Lv P k d) (h' : Lv P k e) : d = e := by
  rcases Nat.lt_trichotomy d e with c | c | c
  · have := upL_back (P := P) (a := (k : Int)) (m := d + 1) (n := e) c h'.2.1
    have := h.2.2; omega
  · exact c
  · have := upL_back (P := P) (a := (k : Int)) (m := e + 1) (n := d) c h.2.1
    have := h'.2.2; omega
theorem Lv.le {P : List Int} (hr : rightL P = true) {k d : Nat} (h : Lv P k d) : d ≤ P.length := by
  have h1 := right_ends hr h.1
  rcases Nat.lt_or_ge P.length d with c | c
  · have := upL_back (P := P) (a := (k : Int)) (m := P.length + 1) (n := d) c h.2.1
    omega
  · exact c
theorem lv_some {P : List Int} (hr : rightL P = true) {k : Nat} (hk : k < P.length) : ∃ d, Lv P k d := by
  have h1 := right_ends hr hk
  generalize P.length + 1 = n at h1
  induction n with
  | zero => exact absurd h1 (by show ¬ (k : Int) < 0; omega)
  | succ n ih =>
    rcases Int.lt_or_le (upL P n (k : Int)) 0 with c | c
    · exact ih c
    · exact ⟨n, hk, c, h1⟩
theorem upL_first {P : List Int} {k : Nat} (n : Nat) : upL P (n + 1) (k : Int) = upL P n (P.getD k (-1)) := by
  rw [upL_succ (by omega), Int.toNat_natCast]
/-- The depth follows the parent's. -/
theorem Lv.same {P : List Int} {a b d e : Nat} (ha : Lv P a d) (hb : Lv P b e) (h : P.getD a (-1) = P.getD b (-1)) : d = e := by
  have key : ∀ n, upL P (n + 1) (a : Int) = upL P (n + 1) (b : Int) := fun n => by rw [upL_first, upL_first, h]
  refine Lv.one ha ⟨ha.1, ?_, ?_⟩
  · cases e with
    | zero => show (0 : Int) ≤ (a : Int); omega
    | succ e => rw [key]; exact hb.2.1
  · rw [key]; exact hb.2.2
/-- Where the row of what is below a place begins. -/
def AtD (P : List Int) (x : Int) (d : Nat) : Prop := (x = -1 ∧ d = 0) ∨ ∃ k e, x = ((k : Nat) : Int) ∧ d = e + 1 ∧ Lv P k e
theorem AtD.kid {P : List Int} {x : Int} {d k : Nat} (h : AtD P x d) (hk : k ∈ kidsL P x) : Lv P k d := by
  obtain ⟨h1, h2⟩ := mem_kids.1 hk
  rcases h with ⟨rfl, rfl⟩ | ⟨j, e, rfl, rfl, hl⟩
  · refine ⟨h1, ?_, ?_⟩
    · show (0 : Int) ≤ (k : Int); omega
    · rw [upL_first, h2]; show (-1 : Int) < 0; omega
  · refine ⟨h1, ?_, ?_⟩
    · rw [upL_first, h2]; exact hl.2.1
    · rw [upL_first, h2]; exact hl.2.2
theorem AtD.next {P : List Int} {x : Int} {d k : Nat} (h : AtD P x d) (hk : k ∈ kidsL P x) : AtD P (k : Int) (d + 1) := .inr ⟨k, d, rfl, rfl, h.kid hk⟩
theorem AtD.le {P : List Int} (hr : rightL P = true) {x : Int} {d : Nat} (h : AtD P x d) : d ≤ P.length + 1 := by
  rcases h with ⟨_, rfl⟩ | ⟨k, e, _, rfl, hl⟩
  · omega
  · have := hl.le hr; omega
def rowF (P : List Int) : Nat → Int → Nat → List It
  | 0, _, _ => []
  | f + 1, x, d => (kidsL P x).flatMap fun k => ⟨k, d, x⟩ :: rowF P f (k : Int) (d + 1)
/-- The row of what is below a place. -/
def sub (P : List Int) (x : Int) (d : Nat) : List It := rowF P (P.length + 1 - d) x d
theorem sub_eq {P : List Int} (hr : rightL P = true) {x : Int} {d : Nat} (h : AtD P x d) : sub P x d = (kidsL P x).flatMap fun (k : Nat) => (⟨k, d, x⟩ : It) :: sub P (k : Int) (d + 1) := by
  have hle := h.le hr
  by_cases hd : d = P.length + 1
  · have hn : kidsL P x = [] := by
      rw [List.eq_nil_iff_forall_not_mem]
      intro k hk
      have := (h.kid hk).le hr
      omega
    rw [hn]
    unfold sub
    rw [show P.length + 1 - d = 0 by omega]; rfl
  · unfold sub
    rw [show P.length + 1 - d = (P.length + 1 - (d + 1)) + 1 by omega]; rfl
/-- The row of a forest; none, if it is none. -/
def rowL (P : List Int) : List It := if rightL P then sub P (-1) 0 else []
theorem at_root (P : List Int) : AtD P (-1) 0 := .inl ⟨rfl, rfl⟩
/-- What holds below each place: by the depth from below. -/
theorem below_ind {P : List Int} (hr : rightL P = true) {C : Int → Nat → Prop} (h : ∀ x d, AtD P x d → (∀ k, k ∈ kidsL P x → C (k : Int) (d + 1)) → C x d) : ∀ x d, AtD P x d → C x d := by
  have key : ∀ n x d, AtD P x d → P.length + 1 - d ≤ n → C x d := by
    intro n
    induction n with
    | zero =>
      intro x d ha hn
      have := ha.le hr
      exact h x d ha fun k hk => by
        have := (ha.kid hk).le hr
        omega
    | succ n ih =>
      intro x d ha hn
      exact h x d ha fun k hk => ih _ _ (ha.next hk) (by omega)
  exact fun x d ha => key _ x d ha (Nat.le_refl _)
/-- What is known of each item below a place. -/
structure Sub (P : List Int) (x : Int) (d : Nat) (y : It) : Prop where
  lv : Lv P y.place y.depth
  dl : d ≤ y.depth
  par : y.parent = P.getD y.place (-1)
  up : upL P (y.depth - d + 1) (y.place : Int) = x
theorem sub_mem {P : List Int} (hr : rightL P = true) : ∀ x d, AtD P x d → ∀ y ∈ sub P x d, Sub P x d y := by
  refine below_ind hr fun x d ha ih y hy => ?_
  rw [sub_eq hr ha] at hy
  obtain ⟨k, hk, hy⟩ := List.mem_flatMap.1 hy
  have hkx := (mem_kids.1 hk).2
  rcases List.mem_cons.1 hy with rfl | hy
  · refine ⟨ha.kid hk, Nat.le_refl _, hkx.symm, ?_⟩
    show upL P (d - d + 1) (k : Int) = x
    rw [Nat.sub_self, upL_first, hkx]; rfl
  · obtain ⟨h1, h2, h3, h4⟩ := ih k hk y hy
    refine ⟨h1, by omega, h3, ?_⟩
    rw [show y.depth - d + 1 = (y.depth - (d + 1) + 1) + 1 by omega, upL_next, h4, upL_one (by omega), Int.toNat_natCast]
    exact hkx
/-- An item of the block of one kid. -/
theorem block_mem {P : List Int} (hr : rightL P = true) {x : Int} {d k : Nat} (ha : AtD P x d) (hk : k ∈ kidsL P x) {y : It} (hy : y ∈ (⟨k, d, x⟩ : It) :: sub P (k : Int) (d + 1)) :
    Lv P y.place y.depth ∧ d ≤ y.depth ∧ y.parent = P.getD y.place (-1) ∧ upL P (y.depth - d) (y.place : Int) = (k : Int) := by
  rcases List.mem_cons.1 hy with rfl | hy
  · exact ⟨ha.kid hk, Nat.le_refl _, (mem_kids.1 hk).2.symm, by show upL P (d - d) (k : Int) = _; rw [Nat.sub_self]; rfl⟩
  · obtain ⟨h1, h2, h3, h4⟩ := sub_mem hr _ _ (ha.next hk) y hy
    exact ⟨h1, by omega, h3, by rw [← h4, show y.depth - (d + 1) + 1 = y.depth - d by omega]⟩
def Apartly (a b : It) : Prop := a.place ≠ b.place ∧ (a.parent = b.parent → a.place < b.place)
theorem sub_apart {P : List Int} (hr : rightL P = true) : ∀ x d, AtD P x d → (sub P x d).Pairwise Apartly := by
  refine below_ind hr fun x d ha ih => ?_
  rw [sub_eq hr ha, List.pairwise_flatMap]
  refine ⟨fun k hk => ?_, ?_⟩
  · refine List.pairwise_cons.2 ⟨fun y hy => ?_, ih k hk⟩
    obtain ⟨h1, h2, h3, h4⟩ := sub_mem hr _ _ (ha.next hk) y hy
    have hkl := ha.kid hk
    refine ⟨fun e => ?_, fun e => ?_⟩
    · have e : k = y.place := e
      subst e
      have := hkl.one h1; omega
    · have e : x = y.parent := e
      rw [h3] at e
      have := Lv.same hkl h1 (by rw [← e]; exact (mem_kids.1 hk).2)
      omega
  · refine (kids_rise P x).imp_of_mem ?_
    intro k1 k2 hk1 hk2 hlt a ha1 b hb1
    obtain ⟨a1, a2, a3, a4⟩ := block_mem hr ha hk1 ha1
    obtain ⟨b1, b2, b3, b4⟩ := block_mem hr ha hk2 hb1
    refine ⟨fun e => ?_, fun e => ?_⟩
    · rw [e] at a1 a4
      have ed := a1.one b1
      rw [ed, b4] at a4
      omega
    · rw [a3, b3] at e
      have ed := Lv.same a1 b1 e
      rw [← ed] at b4
      by_cases hd : a.depth = d
      · rw [hd, Nat.sub_self] at a4 b4
        have a4 : (a.place : Int) = (k1 : Int) := a4
        have b4 : (b.place : Int) = (k2 : Int) := b4
        omega
      · rw [show a.depth - d = (a.depth - d - 1) + 1 by omega, upL_first] at a4 b4
        rw [e, b4] at a4
        omega
/-- Each place stands below where its way up goes. -/
theorem sub_has {P : List Int} (hr : rightL P = true) : ∀ x d, AtD P x d → ∀ p e, Lv P p e → d ≤ e → upL P (e - d + 1) (p : Int) = x → ∃ y ∈ sub P x d, y.place = p := by
  have hv := right_valid hr
  refine below_ind hr fun x d ha ih p e hl hde hx => ?_
  rw [sub_eq hr ha]
  have h0 : 0 ≤ upL P (e - d) (p : Int) := upL_back (by omega) hl.2.1
  have h1 := (upL_range hv (e - d) (p : Int) (by omega) (by have := hl.1; omega)).2
  obtain ⟨k, hk⟩ : ∃ k : Nat, upL P (e - d) (p : Int) = (k : Int) := ⟨(upL P (e - d) (p : Int)).toNat, by omega⟩
  have hkk : k ∈ kidsL P x := by
    refine mem_kids.2 ⟨by omega, ?_⟩
    rw [upL_next, hk, upL_one (by omega), Int.toNat_natCast] at hx
    exact hx
  by_cases hd : e = d
  · subst hd
    rw [Nat.sub_self] at hk
    have hk : (p : Int) = (k : Int) := hk
    refine ⟨⟨k, e, x⟩, List.mem_flatMap.2 ⟨k, hkk, List.mem_cons_self ..⟩, ?_⟩
    show k = p; omega
  · obtain ⟨y, hy, e2⟩ := ih k hkk p e hl (by omega) (by rw [show e - (d + 1) + 1 = e - d by omega]; exact hk)
    exact ⟨y, List.mem_flatMap.2 ⟨k, hkk, List.mem_cons_of_mem _ hy⟩, e2⟩
theorem row_has {P : List Int} (hr : rightL P = true) {p : Nat} (hp : p < P.length) : ∃ y ∈ sub P (-1) 0, y.place = p := by
  obtain ⟨e, he⟩ := lv_some hr hp
  have h1 := (upL_range (right_valid hr) (e + 1) (p : Int) (by omega) (by omega)).1
  have h2 := he.2.2
  exact sub_has hr (-1) 0 (at_root P) p e he (Nat.zero_le _) (by rw [Nat.sub_zero]; omega)
theorem nodup_le {α : Type} [BEq α] [LawfulBEq α] : ∀ {a b : List α}, a.Pairwise (· ≠ ·) → (∀ x ∈ a, x ∈ b) → a.length ≤ b.length
  | [], b, _, _ => Nat.zero_le _
  | x :: r, b, h, hs => by
    have hx := hs x (List.mem_cons_self ..)
    have h' := List.pairwise_cons.1 h
    have := nodup_le (a := r) (b := b.erase x) h'.2 fun y hy => (List.mem_erase_of_ne (fun e => h'.1 y hy e.symm)).2 (hs y (List.mem_cons_of_mem _ hy))
    rw [List.length_erase_of_mem hx] at this
    have h1 : 0 < b.length := List.length_pos_of_mem hx
    simp only [List.length_cons]; omega
theorem row_length {P : List Int} (hr : rightL P = true) : (sub P (-1) 0).length = P.length := by
  have h1 := sub_apart hr (-1) 0 (at_root P)
  have h2 : ((sub P (-1) 0).map (·.place)).Pairwise (· ≠ ·) := List.pairwise_map.2 (h1.imp fun h => h.1)
  have h3 := nodup_le (b := List.range P.length) h2 fun x hx => by
    obtain ⟨y, hy, rfl⟩ := List.mem_map.1 hx
    exact List.mem_range.2 (sub_mem hr _ _ (at_root P) y hy).lv.1
  have h4 := nodup_le (a := List.range P.length) (b := (sub P (-1) 0).map (·.place)) (List.nodup_range) fun x hx => by
    obtain ⟨y, hy, e⟩ := row_has hr (List.mem_range.1 hx)
    exact List.mem_map.2 ⟨y, hy, e⟩
  rw [List.length_map, List.length_range] at h3
  rw [List.length_map, List.length_range] at h4
  omega
/-- Each item is of the place itself, or stands behind its parent, with what is deeper than that alone between. -/
def Good (x : Int) (d : Nat) (l : List It) : Prop := (∀ y ∈ l, d ≤ y.depth) ∧ ∀ i (h : i < l.length), (l[i].parent = x ∧ l[i].depth = d) ∨
  ∃ k, ∃ hk : k < i, (l[k].place : Int) = l[i].parent ∧ l[k].depth + 1 = l[i].depth ∧ ∀ j (hj : j < i), k < j → l[k].depth < l[j].depth
theorem Good.nil (x : Int) (d : Nat) : Good x d [] := ⟨fun y h => (by cases h), fun i h => absurd h (Nat.not_lt_zero _)⟩
theorem Good.append {x : Int} {d : Nat} {l m : List It} (h : Good x d l) (h' : Good x d m) : Good x d (l ++ m) := by
  refine ⟨fun y hy => (List.mem_append.1 hy).elim (h.1 y) (h'.1 y), fun i hi => ?_⟩
  by_cases hl : i < l.length
  · rw [List.getElem_append_left hl]
    rcases h.2 i hl with c | ⟨k, hk, c1, c2, c3⟩
    · exact .inl c
    · refine .inr ⟨k, hk, ?_, ?_, fun j hj hkj => ?_⟩
      · rw [List.getElem_append_left (by omega)]; exact c1
      · rw [List.getElem_append_left (by omega)]; exact c2
      · rw [List.getElem_append_left (by omega), List.getElem_append_left (by omega)]; exact c3 j hj hkj
  · have hm : i - l.length < m.length := by rw [List.length_append] at hi; omega
    rw [List.getElem_append_right (by omega)]
    rcases h'.2 (i - l.length) hm with c | ⟨k, hk, c1, c2, c3⟩
    · exact .inl c
    · have hkm : k < m.length := by omega
      have e : ∀ (q : (l ++ m).length > k + l.length), (l ++ m)[k + l.length] = m[k] := fun q => by
        rw [List.getElem_append_right (by omega)]; congr 1; omega
      refine .inr ⟨k + l.length, by omega, ?_, ?_, fun j hj hkj => ?_⟩
      · rw [e]; exact c1
      · rw [e]; exact c2
      · rw [e, List.getElem_append_right (by omega)]
        exact c3 (j - l.length) (by omega) (by omega)
theorem Good.cons {x : Int} {d k : Nat} {l : List It} (h : Good (k : Int) (d + 1) l) : Good x d (⟨k, d, x⟩ :: l) := by
  refine ⟨fun y hy => ?_, fun i hi => ?_⟩
  · rcases List.mem_cons.1 hy with rfl | hy
    · exact Nat.le_refl _
    · have := h.1 y hy; omega
  · cases i with
    | zero => exact .inl ⟨rfl, rfl⟩
    | succ i =>
      have hi' : i < l.length := by simpa using hi
      simp only [List.getElem_cons_succ]
      rcases h.2 i hi' with ⟨c1, c2⟩ | ⟨j, hj, c1, c2, c3⟩
      · refine .inr ⟨0, by omega, ?_, ?_, fun j hj hkj => ?_⟩
        · rw [c1]; rfl
        · rw [c2]; rfl
        · obtain ⟨j', rfl⟩ : ∃ j', j = j' + 1 := ⟨j - 1, by omega⟩
          have := h.1 l[j'] (List.getElem_mem (by omega))
          show d < _
          simp only [List.getElem_cons_succ]; omega
      · refine .inr ⟨j + 1, by omega, c1, c2, fun q hq hkq => ?_⟩
        obtain ⟨q', rfl⟩ : ∃ q', q = q' + 1 := ⟨q - 1, by omega⟩
        simp only [List.getElem_cons_succ]
        exact c3 q' (by omega) (by omega)
theorem sub_good {P : List Int} (hr : rightL P = true) : ∀ x d, AtD P x d → Good x d (sub P x d) := by
  refine below_ind hr fun x d ha ih => ?_
  rw [sub_eq hr ha]
  generalize hK : kidsL P x = K at *
  clear hK
  induction K with
  | nil => exact Good.nil _ _
  | cons k r ihr =>
    rw [List.flatMap_cons]
    exact (ih k (List.mem_cons_self ..)).cons.append (ihr fun q hq => ih q (List.mem_cons_of_mem _ hq))
end Go.Proofs.Ytkjngmlebflffaa
