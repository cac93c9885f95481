import Derived.Test.YteaafjkgopmmdaaGm
import Derived.Test.YteaafjkgopmmdaaDg
import Derived.StringKeys
namespace Go.Proofs.Yteaafjkgopmmdaa
open Go Go.RowKit Go.Sort Go.Maps
set_option linter.unusedVariables false

/-! Maps with texts as keys; how many keys there are; hosts, each once. -/
def keyS (x : Tx) : Lit := .string x
theorem keyS_inj (x y : Tx) (h : keyS x = keyS y) : x = y := by simpa [keyS] using h
theorem keyS_is (x : Tx) : WideAt.IsKeyLit (keyS x) := trivial
theorem filter_less {α : Type} {p : α → Bool} : ∀ {l : List α} {x : α}, x ∈ l → p x = false → (l.filter p).length < l.length
  | [], x, h, _ => by cases h
  | y :: r, x, h, hp => by
    rcases List.mem_cons.1 h with rfl | h
    · rw [List.filter_cons_of_neg (by simp [hp]), List.length_cons]
      have := List.length_filter_le p r
      omega
    · have ih := filter_less h hp
      by_cases hy : p y = true
      · rw [List.filter_cons_of_pos hy, List.length_cons, List.length_cons]; omega
      · rw [List.filter_cons_of_neg hy, List.length_cons]; omega
theorem keys_many : ∀ (xs : List Tx) (es : List (Lit × DataW Value)), xs.Nodup → (∀ x ∈ xs, es.any (fun p => p.1.sameKey (keyS x)) = true) → xs.length ≤ es.length
  | [], es, _, _ => Nat.zero_le _
  | y :: r, es, hn, h => by
    obtain ⟨hy, hr⟩ := List.nodup_cons.1 hn
    obtain ⟨p, hp, hs⟩ := List.any_eq_true.1 (h y (List.mem_cons_self ..))
    have h1 := keys_many r (es.filter fun q => !q.1.sameKey (keyS y)) hr (fun x hx => by
      obtain ⟨q, hq, hqs⟩ := List.any_eq_true.1 (h x (List.mem_cons_of_mem _ hx))
      refine List.any_eq_true.2 ⟨q, List.mem_filter.2 ⟨hq, ?_⟩, hqs⟩
      have e1 := WideAt.sameKey_eq hqs
      cases hb : q.1.sameKey (keyS y) with
      | false => rfl
      | true =>
        have e2 := WideAt.sameKey_eq hb
        exact absurd (keyS_inj _ _ (e1.symm.trans e2)) (fun e => hy (e ▸ hx)))
    have h2 := filter_less (p := fun q => !q.1.sameKey (keyS y)) hp (by simp [hs])
    rw [List.length_cons]; omega
theorem hosts_nodup (L : List Sp) : (hostsL L).Nodup := (onceL_once (L.map hostT)).1.imp fun {a b} (hl : ltT a b) e => by subst e; exact ltT_irrefl hl
end Go.Proofs.Yteaafjkgopmmdaa

