import Derived.Test.YthfhmohbfoolnaaFl
namespace Go.Proofs.Ythfhmohbfoolnaa
open Go Go.RowKit Go.Sort

/-! How great files may be. -/
def SzF (M : Nat) (x : Fl) : Prop := x.now.size ≤ M ∧ x.safe.size ≤ M
theorem mem_stepF {x : Fl} {s : List Fl × Bool} {y z : Fl} (h : z ∈ (stepF x s y).1) : z = x ∨ z = y ∨ z ∈ s.1 := by
  obtain ⟨l, b⟩ := s
  unfold stepF at h
  simp only at h ⊢
  by_cases h1 : x.n < y.n ∧ b = false
  · rw [if_pos h1] at h
    split at h
    · simp at h; rcases h with h | h <;> simp [h]
    · simp at h; rcases h with h | h | h <;> simp [h]
  · rw [if_neg h1] at h
    split at h
    · exact .inr (.inr h)
    · simp at h; rcases h with h | h <;> simp [h]
theorem mem_foldF {x z : Fl} : ∀ (L : List Fl) (s : List Fl × Bool), z ∈ (L.foldl (stepF x) s).1 → z = x ∨ z ∈ L ∨ z ∈ s.1
  | [], _, h => .inr (.inr h)
  | y :: r, s, h => by
    rw [List.foldl_cons] at h
    rcases mem_foldF r _ h with h | h | h
    · exact .inl h
    · exact .inr (.inl (by simp [h]))
    · rcases mem_stepF h with h | h | h
      · exact .inl h
      · exact .inr (.inl (by simp [h]))
      · exact .inr (.inr h)
theorem mem_putF' {L : List Fl} {x z : Fl} (h : z ∈ putF L x) : z = x ∨ z ∈ L := by
  have h := (List.mem_filter.1 h).1
  unfold insF walkF at h
  split at h
  · rcases mem_foldF L _ h with h | h | h
    · exact .inl h
    · exact .inr h
    · simp at h
  · rcases List.mem_append.1 h with h | h
    · rcases mem_foldF L _ h with h | h | h
      · exact .inl h
      · exact .inr h
      · simp at h
    · exact .inl (by simpa using h)
theorem put_sz {M : Nat} {L : List Fl} {x : Fl} (h : ∀ y ∈ L, SzF M y) (hx : SzF M x) : ∀ y ∈ putF L x, SzF M y := fun y hy => by
  rcases mem_putF' hy with rfl | hy
  · exact hx
  · exact h y hy
theorem get_sz {M : Nat} {L : List Fl} (h : ∀ y ∈ L, SzF M y) (n : Nat) : SzF M (getF L n) := by
  rcases getF_or L n with hm | ⟨e, _⟩
  · exact h _ hm
  · rw [e]; exact ⟨Nat.zero_le _, Nat.zero_le _⟩
theorem partF_length (s : List UInt8) (b : Nat) (c : Int) (g : List UInt8) : (partF s b c g).length ≤ s.length := by
  unfold partF
  simp only []
  rw [List.length_append, xorL_length, List.length_take, List.length_drop, List.length_take]; omega
theorem left_sz {M : Nat} {x : Fl} (h : SzF M x) (t : Ft) : SzF M (leftF x t) := by
  obtain ⟨h1, h2⟩ := h
  have hp : ∀ b, (bs (partF x.now.data.toList b t.bytes t.g)).size ≤ M := fun b => by
    rw [bs_size]
    have := partF_length x.now.data.toList b t.bytes t.g
    rw [data_length] at this; omega
  have key : (leftF x t).now.size ≤ M ∧ (leftF x t).safe = (leftF x t).now := by
    refine ⟨?_, rfl⟩
    have hi : ∀ r : Bool × ByteArray, r.2.size ≤ M → (if r.1 = true then r.2 else ByteArray.empty).size ≤ M := fun r h => by
      split
      · exact h
      · exact Nat.zero_le _
    unfold leftF
    refine hi _ ?_
    split
    · exact hp 0
    · split
      · exact h2
      · split
        · exact h2
        · exact hp _
  exact ⟨key.1, by rw [key.2]; exact key.1⟩
theorem crashTo_le (L : List Fl) (T : List Ft) (N : List Nat) : ∀ k, (crashTo L T N k).length ≤ L.length + k
  | 0 => Nat.le_refl _
  | k + 1 => Nat.le_trans (putF_le _ _) (by have := crashTo_le L T N k; omega)
theorem crashTo_sz {M : Nat} {L : List Fl} (T : List Ft) (N : List Nat) (h : ∀ y ∈ L, SzF M y) : ∀ k, ∀ y ∈ crashTo L T N k, SzF M y
  | 0 => h
  | k + 1 => put_sz (crashTo_sz T N h k) (left_sz (get_sz (crashTo_sz T N h k) _) _)
end Go.Proofs.Ythfhmohbfoolnaa
