import Derived.Test.YthfhmohbfoolnaaTl
import Derived.Test.YthfhmohbfoolnaaFb
import Derived.Sort.AssemblyPlain
import Derived.Lib.OwnBridge
namespace Go.Proofs.Ythfhmohbfoolnaa
open Go Go.RowKit Go.Sort

/-! The library's sort at []uint32: slices.Sort, and of no element. -/
set_option maxRecDepth 100000 in
set_option maxHeartbeats 4000000 in
theorem sortU (blk off cap D : Nat) (d : Array Int) (w : World) (hD : d.size = D) (hs : Srt w w blk off d) (hsz : D ≤ 1000000000) :
    Calls Try.prog 44 #[.slice (some ⟨blk, off, none⟩) D cap] w fun e w' => e = .returned (.tuple #[]) ∧ Srt w w' blk off (Go.Sort.sort ltInt d) := by
  have HS := Lib.hid hs; have HD := Lib.hid hD
  have HE : Hid (Go.Sort.sort ltInt d = pdq ltInt d 0 D (bitsLen D) true true) := by show _ = _; rw [← hD]; rfl
  obtain ⟨RES, hR⟩ : ∃ RES, RES = Go.Sort.sort ltInt d := ⟨_, rfl⟩
  rw [← hR] at HE ⊢
  clear hs hD hR
  have hk : bitsLen D ≤ 62 := (bitsLen_le_iff D 62).2 (by omega)
  go_enter Try.func44, Try.ntmps44
  go_wp2_with (first
    | (go_at_call 59; refine (lenU D hsz _).mono ?_; rintro e w' ⟨rfl, rfl⟩)
    | (go_at_call 58; refine (pdqU (D + 1) blk off cap 0 D (bitsLen D) D d _ _ (by omega) HD.out HS.out (Nat.zero_le _) (Nat.le_refl _) hsz (by omega) (Or.inl rfl)).mono ?_; rintro e w' ⟨rfl, h⟩; have H := Lib.hid h; clear h))
  go_end0
  exact ⟨rfl, by rw [HE.out]; exact H.out⟩
set_option maxRecDepth 100000 in
theorem insU_nil (w : World) :
    Calls Try.prog 66 #[.slice none 0 0, .int .i64 0, .int .i64 0] w fun e w' => e = .returned (.tuple #[]) ∧ w' = w := by
  go_enter Try.func66, Try.ntmps66
  go_wp2
  refine wp_loop_rounds 1 ?_
  rw [rounds_succ]
  go_wp2
  go_end0
  exact ⟨rfl, rfl⟩
set_option maxRecDepth 100000 in
theorem pdqU_nil (w : World) :
    Calls Try.prog 58 #[.slice none 0 0, .int .i64 0, .int .i64 0, .int .i64 0] w fun e w' => e = .returned (.tuple #[]) ∧ w' = w := by
  go_enter Try.func58, Try.ntmps58
  go_wp2
  refine wp_loop_rounds 1 ?_
  rw [rounds_succ]
  go_wp2_with (first | (go_at_call 66; refine (insU_nil _).mono ?_; rintro e w' ⟨rfl, rfl⟩))
  refine bodyPost_ret (results_none rfl _ _ _) rfl ?_
  exact ⟨rfl, rfl⟩
set_option maxRecDepth 100000 in
theorem sortU_none (w : World) : Calls Try.prog 44 #[.slice none 0 0] w fun e w' => e = .returned (.tuple #[]) ∧ w' = w := by
  have hLen : ∀ w, Calls Try.prog 59 #[.int .u64 0] w fun e w' => e = .returned (.int .i64 0) ∧ w' = w := fun w => lenU 0 (by omega) w
  go_enter Try.func44, Try.ntmps44
  go_wp2_with (first
    | (go_at_call 59; refine (hLen _).mono ?_; rintro e w' ⟨rfl, rfl⟩)
    | (go_at_call 58; refine (pdqU_nil _).mono ?_; rintro e w' ⟨rfl, rfl⟩))
  go_end0
  exact ⟨rfl, rfl⟩
theorem sortU_nil (w : World) : Calls Try.prog 44 #[.slice none 0 0] w fun e w' => e = .returned (.tuple #[]) ∧ w.grownBy w' none :=
  (sortU_none w).mono fun e w' ⟨h1, h2⟩ => ⟨h1, by subst h2; exact ⟨rfl, rfl, rfl, Nat.le_refl _, fun _ _ _ => rfl⟩⟩
/-- The numbers as the sort reads them. -/
def intsN (N : List Nat) : List Int := N.map fun (n : Nat) => (n : Int)
theorem u32V_ints (N : List Nat) : (intsN N).map (Value.int .u32) = u32V N := by simp [intsN, u32V, Function.comp_def]
theorem sorted_ints (N : List Nat) : ∃ N', N'.Perm N ∧ N'.Pairwise (· ≤ ·) ∧ Go.Sort.sort ltInt (intsN N).toArray = (intsN N').toArray := by
  have h := sortInt (intsN N)
  have hp : ((intsN N).mergeSort fun x y => decide (x ≤ y)).Perm (intsN N) := List.mergeSort_perm _ _
  have hs : ((intsN N).mergeSort fun x y => decide (x ≤ y)).Pairwise (fun x y => (fun x y => decide (x ≤ y)) x y = true) :=
    List.pairwise_mergeSort (fun a b c h1 h2 => by simp only [decide_eq_true_eq] at *; omega) (fun a b => by simp only [Bool.or_eq_true, decide_eq_true_eq]; omega) _
  obtain ⟨T, hT⟩ : ∃ T, T = (intsN N).mergeSort fun x y => decide (x ≤ y) := ⟨_, rfl⟩
  rw [← hT] at h hp hs
  have hnn : ∀ t ∈ T, 0 ≤ t := fun t ht => by
    obtain ⟨n, _, rfl⟩ := List.mem_map.1 (hp.mem_iff.1 ht); omega
  have hback : intsN (T.map Int.toNat) = T := by
    simp only [intsN, List.map_map]
    conv => rhs; rw [← List.map_id T]
    exact List.map_congr_left fun t ht => by have := hnn t ht; simp; omega
  refine ⟨T.map Int.toNat, ?_, ?_, ?_⟩
  · have := hp.map Int.toNat
    simpa [intsN, Function.comp_def] using this
  · rw [List.pairwise_map]
    exact hs.imp fun h => by have := of_decide_eq_true h; omega
  · rw [hback, ← h]
theorem sortU_any (B g cap : Nat) (N : List Nat) (w : World) (hown : w.ownsRow B 35 1 (.slice (some ⟨g, 0, none⟩) N.length cap) N.length (u32V N)) (hl : N.length ≤ 1000000000) (hn : ∀ n ∈ N, n < 4294967296) :
    Calls Try.prog 44 #[.slice (some ⟨g, 0, none⟩) N.length cap] w fun e w' => e = .returned (.tuple #[]) ∧ ∃ N', N'.Perm N ∧ N'.Pairwise (· ≤ ·) ∧ w'.ownsRow B 35 1 (.slice (some ⟨g, 0, none⟩) N.length cap) N.length (u32V N') ∧ w.grownBy w' (some g) := by
  have hown' := hown
  rw [← u32V_ints] at hown'
  obtain ⟨_, _, e0, _, hlt, _, _, _, hH⟩ := Lib.holds_of_ownsRow hown' (by intro h; cases h)
  cases e0
  rcases hown.2 with ⟨e0, _⟩ | ⟨g', cap', cur, e0, hb, hg, hnc, hm, hsz, ht⟩
  · cases e0
  cases e0
  have hsrt : Srt w w g 0 (intsN N).toArray := ⟨fun j hj => hH j hj, ⟨rfl, rfl, rfl, Nat.le_refl _, fun _ _ _ => rfl⟩, cur, cur, _, _, hg, hg, rfl⟩
  refine (sortU g 0 cap N.length (intsN N).toArray w (by simp [intsN]) hsrt hl).mono ?_
  rintro e w' ⟨rfl, hS⟩
  obtain ⟨N', hp, hs, he⟩ := sorted_ints N
  rw [he] at hS
  refine ⟨rfl, N', hp, hs, ?_, hS.grown⟩
  obtain ⟨cs, cs', e, fr, a1, a2, a3⟩ := hS.shape
  rw [hg] at a1
  cases a1
  have hlen : N'.length = N.length := hp.length_eq
  refine ⟨by simp [u32V, hlen], .inr ⟨g, cap, cs', rfl, hb, a2, hnc, hm, by rw [a3]; exact hsz, ?_⟩⟩
  apply List.ext_getElem?
  intro j
  rw [List.getElem?_take, Array.getElem?_toList]
  by_cases hj : j < N.length
  · have h1 := (hS.holds j (by simp [intsN]; omega)).1
    simp only [World.cell?, a2, Nat.zero_add, Option.isSome_none, Bool.false_eq_true, if_false] at h1
    rw [if_pos (by omega), h1]
    simp [u32V, intsN, getElem!_pos, show j < N'.length by omega]
  · rw [if_neg (by omega)]
    rw [List.getElem?_eq_none (by simp [u32V]; omega)]
end Go.Proofs.Ythfhmohbfoolnaa
