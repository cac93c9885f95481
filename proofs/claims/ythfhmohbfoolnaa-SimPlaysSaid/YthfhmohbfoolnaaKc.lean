import Derived.Test.YthfhmohbfoolnaaKb
import Derived.Test.YthfhmohbfoolnaaGb
namespace Go.Proofs.Ythfhmohbfoolnaa
open Go Go.RowKit Go.Maps Go.Sort

/-! The landed file system: a number's file is kept; New, Down, Fuse. -/
theorem Off.trans {S : Nat → Prop} {w w1 w2 : World} (h1 : Off S w w1) (h2 : Off S w1 w2) : Off S w w2 :=
  ⟨h2.os.trans h1.os, h2.tape.trans h1.tape, h2.output.trans h1.output, Nat.le_trans h1.size h2.size, fun k hk hn => (h2.block k (Nat.lt_of_lt_of_le hk h1.size) hn).trans (h1.block k hk hn)⟩
theorem Off.of_grown {S : Nat → Prop} {w w' : World} {b : Nat} (h : w.grownBy w' (some b)) (hb : S b) : Off S w w' :=
  ⟨h.os, h.tape, h.output, h.size, fun k hk hn => h.block k hk fun e => hn (by cases e; exact hb)⟩
/-- What is written lies in new blocks: so it is off what was there. -/
theorem Off.new {S T : Nat → Prop} {w w1 w2 : World} (h1 : Off S w w1) (h2 : Off T w1 w2) (ht : ∀ k, T k → S k ∨ w.heap.size ≤ k) : Off S w w2 :=
  ⟨h2.os.trans h1.os, h2.tape.trans h1.tape, h2.output.trans h1.output, Nat.le_trans h1.size h2.size, fun k hk hn => (h2.block k (Nat.lt_of_lt_of_le hk h1.size) fun h => by
    rcases ht k h with h | h
    · exact hn h
    · omega).trans (h1.block k hk hn)⟩
theorem Off.did {S R : Nat → Prop} {w w' : World} (h : Off S w w') : Did S R S R w w' := ⟨fun _ h => .inl h, fun _ h => .inl h, h⟩
theorem cells_cell {w : World} {p : Nat} {cs : Array Value} {e : TypeId} {i : Nat} {v : Value} (h : w.heap[p]? = some (.cells cs e)) (hi : cs[i]? = some v) : w.cell? ⟨p, i, none⟩ = some v := by
  simp [World.cell?, h, hi]
theorem cells_frozen {w : World} {p : Nat} {cs : Array Value} {e : TypeId} (h : w.heap[p]? = some (.cells cs e)) (i : Nat) : w.frozen? ⟨p, i, none⟩ = false := by
  simp [World.frozen?, h]
theorem put_ok {m : FSm} (ok : m.Ok) {x : Fl} (hx : OkX x) : ({ m with files := putF m.files x } : FSm).Ok := ⟨putF_SdF ok.1 x, put_okf ok.1 ok.2.1 hx, ok.2.2.1, ok.2.2.2⟩
theorem has_all {m : FSm} (ok : m.Ok) : ∀ y ∈ m.files, hasF y = true := fun y hy => (ok.2.1 y hy).1
theorem put_off {w W w1 : World} {S R : Nat → Prop} {p b : Nat} {m : FSm} {x : Fl} {fu : Int} (hb : Below w.heap.size w W) (hne : b ≠ p) (hS : ∀ k, S k ↔ k = p ∨ k = b) (hR : ∀ k, ¬ R k)
    (hp : W.heap[p]? = some (.cells #[.map (some b), .int .i64 fu, .bool m.down] 62)) (h1 : -9223372036854775808 ≤ fu) (h2 : fu ≤ 9223372036854775807) (h3 : m.fuse = max fu (-1)) (ok : m.Ok) (hx : OkX x)
    (hg : W.grownBy w1 (some b)) {n : Nat} (ho : w1.ownsMap Try.prog 35 fileR b n (dF (putF m.files x))) : FsL w1 S R p { m with files := putF m.files x } ∧ Off S w w1 := by
  refine ⟨⟨b, fu, hne, hS, hR, ?_, ?_, h1, h2, h3, put_ok ok hx⟩, (Off.of_below hb).trans (Off.of_grown hg ((hS b).2 (.inr rfl)))⟩
  · rw [hg.block p (Array.getElem?_eq_some_iff.1 hp).1 (fun e => hne (by cases e; rfl))]; exact hp
  · have := owns_size ho
    rwa [size_dF] at this
set_option maxRecDepth 20000 in
set_option maxHeartbeats 4000000 in
theorem put_any (w : World) (S R : Nat → Prop) (p : Nat) (m : FSm) (x : Fl) (hF : FsL w S R p m) (hx : OkX x) (hn : x.n < 4294967296) (hl : m.files.length ≤ 1000000000) :
    Calls Try.prog 29 #[.pointer (some ⟨p, 0, none⟩), .int .u32 (x.n : Int), flV x] w fun e w' => e = .returned (.tuple #[]) ∧ FsL w' S R p { m with files := putF m.files x } ∧ Off S w w' := by
  have HZ := Lib.hid (zero_eq hx)
  have HX := Lib.hid hx; clear hx
  have hg := guard_file
  have HK := Lib.hid (keyF_of hn)
  have HRV := Lib.hid (fileR_mk x)
  have hHX : hasF x = false ∨ hasF x = true := by cases hasF x <;> simp
  have HHX := Lib.hid hHX; clear hHX
  obtain ⟨n, t, k, nw, sf⟩ := x
  unfold flV at *
  simp only at HK hn ⊢
  have hbW := box1 w (.cells #[.bool t, .string nw, .bool k, .string sf] 69)
  obtain ⟨b, fu, hne, hS, hR, hp, ho, h1, h2, h3, ok⟩ := hF.below hbW
  have HS := Lib.hid hS; have HR := Lib.hid hR; have HP := Lib.hid hp; have HO := Lib.hid ho; have HOK := Lib.hid ok; have HB := Lib.hid hbW; have H3 := Lib.hid h3
  have c0 := cells_cell hp (i := 0) rfl
  have hbl : b < (w.alloc (.cells #[.bool t, .string nw, .bool k, .string sf] 69)).heap.size := ho.lt
  have HBL := Lib.hid hbl
  clear hS hR hp ho ok hbW h3 hF hbl
  rcases HHX.out with hh | hh
  · have HH := Lib.hid hh
    rw [hh] at HZ; clear hh
    have hq : ∀ w, (binOp .eql 69 (.agg #[.bool t, .string nw, .bool k, .string sf]) (.agg #[.bool false, .string ⟨#[]⟩, .bool false, .string ⟨#[]⟩])).run Try.prog w = .ok (.bool true) w := fun w => by
      have hz := HZ.out
      simp only at hz
      rw [eql_file, hz]; rfl
    go_enter Try.func29, Try.ntmps29
    go_wp2_with (at_delete; refine wpList_delete_own _ rfl _ _ 60 35 rfl 69 lawF Try.underlying60 _ b _ _ rfl HO.out _ _ rfl HK.out ?_; intro w1 hown1 hturn1; have HO1 := Lib.hid hown1; have HT1 := Lib.hid hturn1; clear hown1 hturn1)
    refine bodyPost_ret (results_none rfl _ _ _) rfl ?_
    have hd := dF_del HOK.out.1 (x := ⟨n, t, k, nw, sf⟩) (has_all HOK.out) HH.out (HO1.out.canon lawF)
    exact ⟨rfl, put_off HB.out hne HS.out HR.out HP.out h1 h2 H3.out HOK.out HX.out HT1.out.grown (hd ▸ HO1.out)⟩
  · have HH := Lib.hid hh
    rw [hh] at HZ; clear hh
    have hq : ∀ w, (binOp .eql 69 (.agg #[.bool t, .string nw, .bool k, .string sf]) (.agg #[.bool false, .string ⟨#[]⟩, .bool false, .string ⟨#[]⟩])).run Try.prog w = .ok (.bool false) w := fun w => by
      have hz := HZ.out
      simp only at hz
      rw [eql_file, hz]; rfl
    go_enter Try.func29, Try.ntmps29
    go_wp2_with fail
    have k0 := fun d os => cell_regrown c0 d os
    obtain ⟨z0, z1, z2, z3⟩ : (w.alloc (.cells #[.bool t, .string nw, .bool k, .string sf] 69)).cell? ⟨w.heap.size, 0, none⟩ = some (.bool t) ∧ (w.alloc (.cells #[.bool t, .string nw, .bool k, .string sf] 69)).cell? ⟨w.heap.size, 1, none⟩ = some (.string nw) ∧ (w.alloc (.cells #[.bool t, .string nw, .bool k, .string sf] 69)).cell? ⟨w.heap.size, 2, none⟩ = some (.bool k) ∧ (w.alloc (.cells #[.bool t, .string nw, .bool k, .string sf] 69)).cell? ⟨w.heap.size, 3, none⟩ = some (.string sf) := ⟨by go_simp, by go_simp, by go_simp, by go_simp⟩
    have k1 := fun d os => cell_regrown z0 d os
    have k2 := fun d os => cell_regrown z1 d os
    have k3 := fun d os => cell_regrown z2 d os
    have k4 := fun d os => cell_regrown z3 d os
    clear z0 z1 z2 z3
    generalize (w.alloc (.cells #[.bool t, .string nw, .bool k, .string sf] 69)) = W at *
    refine wp_region_below_tail 6 (by kernel_rfl) (by kernel_rfl) ?_
    simp only [List.take_succ_cons, List.take_zero, List.drop_succ_cons, List.drop_zero]
    iterate 6 (first | go_big_quiet_step (fail) | fail)
    refine wpQuiet_nil ?_
    intro W3 hw'
    obtain ⟨⟨d, os⟩, hw''⟩ := hw'
    have hb3 := below_regrown W d os
    rw [← hw''] at hb3
    clear hw'' k0 k1 k2 k3 k4
    have HO3 := Lib.hid (owns_move HO.out (hb3.block b HBL.out))
    have HB3 := Lib.hid hb3; clear hb3
    go_wp2_with (at_mapUpdate; refine wpList_mapUpdate_in _ rfl _ _ _ 60 rfl 35 69 lawF Try.underlying60 _ b _ _ rfl HO3.out (by unfold maxLen; omega) _ _ _ rfl rfl HK.out _ _ HRV.out ?_; intro w1 hown1 hturn1; have HO1 := Lib.hid hown1; have HT1 := Lib.hid hturn1; clear hown1 hturn1)
    go_end0
    have hd := dF_put HOK.out.1 (x := ⟨n, t, k, nw, sf⟩) (has_all HOK.out) HH.out (HO1.out.canon lawF)
    have hp3 := HP.out
    rw [← HB3.out.block p (Array.getElem?_eq_some_iff.1 hp3).1] at hp3
    exact ⟨rfl, put_off (HB.out.trans (HB3.out.mono HB.out.size)) hne HS.out HR.out hp3 h1 h2 H3.out HOK.out HX.out HT1.out.grown (hd ▸ HO1.out)⟩
end Go.Proofs.Ythfhmohbfoolnaa
