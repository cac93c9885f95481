import Derived.Test.YthfhmohbfoolnaaKt
namespace Go.Proofs.Ythfhmohbfoolnaa
open Go Go.RowKit Go.Maps Go.Sort

/-! The landed file system: the numbers of some of the files, in order. -/
theorem ranges_move {w w' : World} {b r n : Nat} {D : DataW Value} {left : Lit → Bool} {cnt : Nat} (h : w.ranges Try.prog 35 fileR b r n D left cnt) (hb : w'.heap[b]? = w.heap[b]?) (hr : w'.heap[r]? = w.heap[r]?) : w'.ranges Try.prog 35 fileR b r n D left cnt := by
  obtain ⟨es, clock, since, seen, c0, h1, F, hs, hD, h2, rest⟩ := h
  exact ⟨es, clock, since, seen, c0, hb.trans h1, F, hs, hD, hr.trans h2, rest⟩
theorem ranges_below {w w' : World} {b r n : Nat} {D : DataW Value} {left : Lit → Bool} {cnt : Nat} (h : w.ranges Try.prog 35 fileR b r n D left cnt) (hb : Below w.heap.size w w') : w'.ranges Try.prog 35 fileR b r n D left cnt :=
  ranges_move h (hb.block b h.owns.lt) (hb.block r h.lt)
theorem wpList_next_files {P : Program} (hP : P = Try.prog) (w : World) {ops : Array Oper} {rest : List Oper} {o : Oper} {a : Act} {Q : Exit → Act → World → Prop}
    (hg : o.guard = none) (it : Operand) (hop : o.op = Op.next it false) (b r n : Nat) (L : List Fl) (hs : SdF L) (left : Lit → Bool) (cnt : Nat)
    (hit : a.eval it = .pointer (some ⟨r, 0, none⟩)) (h : w.ranges Try.prog 35 fileR b r n (dF L) left cnt)
    (hDone : (∀ kl, left kl = false) → wpList P ops Q rest (a.put o.dst (.tuple #[.bool false])) w)
    (hMore : ∀ (z : Fl) (w' : World) (cnt' : Nat), z ∈ L → left (keyF z.n) = true → w'.ranges Try.prog 35 fileR b r n (dF L) (fun q => left q && !q.sameKey (keyF z.n)) cnt' → cnt' < cnt →
      w.grownBy w' (some r) → w'.heap.size = w.heap.size → (Instr.entry (.pointer (some ⟨r, 0, none⟩))).run P w' = .ok (.tuple #[.int .u32 (z.n : Int), .agg #[.bool z.there, .string z.now, .bool z.kept, .string z.safe]]) w' →
      wpList P ops Q rest (a.put o.dst (.tuple #[.bool true, .int .u32 (z.n : Int), .agg #[.bool z.there, .string z.now, .bool z.kept, .string z.safe]])) w') :
    wpList P ops Q (o :: rest) a w := by
  subst hP
  refine wpList_next_ranges w hg it hop 35 lawF fileR (Value.int .u32) flV (fun key kl hkey => by obtain ⟨x, rfl, _⟩ := Maps.keyOf_int_inv Try.underlying35 hkey; exact ⟨x, rfl⟩) (fun v y hv => by obtain ⟨x, rfl, _⟩ := fileR_inv hv; exact ⟨x, rfl⟩)
    b r n (dF L) left cnt hit h (fun _ hl => hDone hl) fun x c kl y w' cnt' hkey hlk hv hat hrg hlt hgr hsz hen => ?_
  obtain ⟨z, hz, rfl⟩ := (has_dF L kl).1 (has_true_of_atKey hat)
  obtain ⟨x', ex, ek, _⟩ := Maps.keyOf_int_inv Try.underlying35 hkey
  cases ex
  simp only [keyF, Lit.int.injEq, true_and] at ek
  subst ek
  have e1 := at_dF hs hz (.held (.bool false))
  rw [hat] at e1
  obtain ⟨c', ec, rfl⟩ := fileR_inv hv
  simp only [DataW.held.injEq] at e1
  have e2 : flV c = flV z := by rw [ec, e1]
  rw [e2] at hen ⊢
  exact hMore z w' cnt' hz hlk hrg hlt hgr hsz hen
/-- Numbers that are gone through, in whatever order. -/
def Gone (lo : Bool) (L : List Fl) (left : Lit → Bool) (N : List Nat) : Prop := N.Nodup ∧ ∀ k, k ∈ N ↔ k ∈ numsF lo L ∧ left (keyF k) = false
theorem gone_start (lo : Bool) (L : List Fl) : Gone lo L (Maps.has (dF L)) [] := by
  refine ⟨List.nodup_nil, fun k => ?_⟩
  simp only [List.not_mem_nil, false_iff, not_and, Bool.not_eq_false]
  intro h
  obtain ⟨y, hy, rfl, _⟩ := mem_nums.1 h
  exact (has_dF L _).2 ⟨y, hy, rfl⟩
theorem gone_yes {lo : Bool} {L : List Fl} {left : Lit → Bool} {N : List Nat} (h : Gone lo L left N) {z : Fl} (hz : z ∈ L) (hl : left (keyF z.n) = true) (hp : pickF lo z = true) : Gone lo L (fun q => left q && !q.sameKey (keyF z.n)) (N ++ [z.n]) := by
  refine ⟨?_, fun k => ?_⟩
  · refine List.nodup_append.2 ⟨h.1, by simp, fun a ha b hb e => ?_⟩
    simp only [List.mem_singleton] at hb
    subst hb; subst e
    have := ((h.2 _).1 ha).2
    rw [hl] at this; cases this
  · simp only [List.mem_append, List.mem_singleton, keyF_same, Bool.and_eq_false_iff, Bool.not_eq_false', decide_eq_true_eq, h.2]
    constructor
    · rintro (⟨h1, h2⟩ | rfl)
      · exact ⟨h1, .inl h2⟩
      · exact ⟨mem_nums.2 ⟨z, hz, rfl, hp⟩, .inr rfl⟩
    · rintro ⟨h1, h2 | h2⟩
      · exact .inl ⟨h1, h2⟩
      · exact .inr h2
theorem gone_no {lo : Bool} {L : List Fl} (hs : SdF L) {left : Lit → Bool} {N : List Nat} (h : Gone lo L left N) {z : Fl} (hz : z ∈ L) (hp : pickF lo z = false) : Gone lo L (fun q => left q && !q.sameKey (keyF z.n)) N := by
  refine ⟨h.1, fun k => ?_⟩
  simp only [keyF_same, Bool.and_eq_false_iff, Bool.not_eq_false', decide_eq_true_eq, h.2]
  constructor
  · rintro ⟨h1, h2⟩; exact ⟨h1, .inl h2⟩
  · rintro ⟨h1, h2 | rfl⟩
    · exact ⟨h1, h2⟩
    · obtain ⟨y, hy, e, hq⟩ := mem_nums.1 h1
      obtain rfl := SdF_one hs hy hz e
      rw [hp] at hq; cases hq
theorem gone_end {lo : Bool} {L : List Fl} (hs : SdF L) {left : Lit → Bool} {N N' : List Nat} (h : Gone lo L left N) (hl : ∀ q, left q = false) (hp : N'.Perm N) (hw : N'.Pairwise (· ≤ ·)) : N' = numsF lo L := by
  have h1 := nums_sorted (lo := lo) hs
  have nd : (numsF lo L).Nodup := h1.imp fun {a b} h => Nat.ne_of_lt h
  have p2 : N.Perm (numsF lo L) := (List.perm_ext_iff_of_nodup h.1 nd).2 fun k => by rw [h.2]; simp [hl]
  exact List.Perm.eq_of_pairwise (le := (· ≤ ·)) (fun a b _ _ h1 h2 => Nat.le_antisymm h1 h2) hw (h1.imp fun {a b} h => Nat.le_of_lt h) (hp.trans p2)
theorem gone_len {lo : Bool} {L : List Fl} (hs : SdF L) {left : Lit → Bool} {N : List Nat} (h : Gone lo L left N) : N.length ≤ L.length := by
  have h1 := nums_sorted (lo := lo) hs
  have nd : (numsF lo L).Nodup := h1.imp fun {a b} h => Nat.ne_of_lt h
  have p2 : N.Perm ((numsF lo L).filter fun k => decide (k ∈ N)) := (List.perm_ext_iff_of_nodup h.1 (nd.filter _)).2 fun k => by
    rw [List.mem_filter, decide_eq_true_eq]
    exact ⟨fun hk => ⟨((h.2 k).1 hk).1, hk⟩, fun hk => hk.2⟩
  rw [p2.length_eq]
  exact Nat.le_trans (List.length_filter_le _ _) (numsF_le lo L)
set_option maxRecDepth 20000 in
set_option maxHeartbeats 4000000 in
theorem nums_any (lo : Bool) (fv : Value) (K : FuncId) (hfv : fv = .func (.func K) #[] #[]) (hen : ∀ args w, (callFunc K args).run Try.prog w = .ok (.enter K args) w)
    (hc : ∀ x w, OkX x → Calls Try.prog K #[flV x] w fun e w' => e = .returned (.bool (pickF lo x)) ∧ Below w.heap.size w w')
    (w : World) (S R : Nat → Prop) (p : Nat) (m : FSm) (hF : FsL w S R p m) (hb : m.files.length ≤ 1000000000) (hk : ∀ y ∈ m.files, y.n < 4294967296) :
    Calls Try.prog 25 #[.pointer (some ⟨p, 0, none⟩), fv] w (NumsOut w (numsF lo m.files)) := by
  subst hfv
  have HEN := Lib.hid hen; have HC := Lib.hid hc; have HK := Lib.hid hk; clear hen hc hk
  obtain ⟨i0, hi0, hz0, hz1, hz2⟩ := info_parts info_u32
  have HZ2 := Lib.hid hz2; clear hz2
  obtain ⟨b, fu, hne, hS, hR, hp, ho, h1, h2, h3, ok⟩ := hF
  have HO := Lib.hid ho; have HOK := Lib.hid ok
  have c0 := cells_cell hp (i := 0) rfl
  have HBL := Lib.hid ho.lt
  clear hS hR hp ho ok h3
  go_enter Try.func25, Try.ntmps25
  go_wp2_with (at_range; refine wpList_range_own _ rfl _ 60 rfl 35 69 lawF Try.underlying60 fileR b m.files.length (dF m.files) rfl HO.out ?_; intro w0 hrg0 hg0 hs0; have HR0 := Lib.hid hrg0; have HG0 := Lib.hid hg0; have HS0 := Lib.hid hs0; clear hrg0 hg0 hs0)
  go_frame
  go_loopw [5] (fun v wr => ∃ left cnt N, wr.ranges Try.prog 35 fileR b w.heap.size m.files.length (dF m.files) left cnt ∧ wr.ownsRow (w.heap.size + 1) 35 1 v N.length (u32V N) ∧ Gone lo m.files left N ∧ RowKit.Below w.heap.size w wr) (fun _ wr => wr.rangeLeft b w.heap.size)
  case atStart =>
    exact ⟨_, _, [], HR0.out, World.ownsRow_nil _ _ _ _, gone_start lo m.files, (Below.refl _ w).grown HG0.out (Nat.le_refl _) (fun j hj => by cases hj)⟩
  case round =>
    obtain ⟨left, cnt, N, hrg, hown, hgn, hbw⟩ := hrel
    have HRG := Lib.hid hrg; have HW := Lib.hid hown; have HG := Lib.hid hgn; have HB := Lib.hid hbw
    clear hrg hown hgn hbw
    have HWS : Hid (w.heap.size + 1 ≤ wr.heap.size) := by show _ ≤ _; have := HRG.out.lt; omega
    have HLN := Lib.hid (gone_len HOK.out.1 HG.out)
    go_wp2_with (at_next; refine wpList_next_files rfl _ rfl _ rfl b w.heap.size m.files.length m.files HOK.out.1 left cnt rfl HRG.out ?_ ?_)
    · intro hl0
      have HL0 := Lib.hid hl0; clear hl0
      rcases HW.out.2 with ⟨rfl, h0⟩ | ⟨g, cap, cur, rfl, hg1, hgb, hcap, hcm, _⟩
      · have HE : Hid (numsF lo m.files = []) := by
          show _ = _
          have : N = [] := List.length_eq_zero_iff.1 h0
          subst this
          exact (gone_end HOK.out.1 HG.out HL0.out (List.Perm.refl _) List.Pairwise.nil).symm
        clear h0
        go_wp2_with fail
        refine (sortU_nil _).mono ?_; rintro e w5 ⟨rfl, hg5⟩
        have HB5 := Lib.hid (HB.out.grown hg5 (by have := HWS.out; omega) (fun j hj => by cases hj)); clear hg5
        go_wp2_with fail
        go_ret
        rw [HE.out]
        exact ⟨none, 0, rfl, Nat.le_refl _, by decide, Rd.nil _ _ _, fun b o s h => by (cases h), HB5.out⟩
      · have HCM := Lib.hid hcm; have HCAP := Lib.hid hcap; have HG1 := Lib.hid hg1
        clear hgb hcm hcap hg1
        go_wp2_with fail
        refine (sortU_any (w.heap.size + 1) g cap N wr HW.out (by have := HLN.out; omega) (fun n hn => by
          obtain ⟨y, hy, rfl, _⟩ := mem_nums.1 ((HG.out.2 n).1 hn).1
          exact HK.out y hy)).mono ?_
        rintro e w5 ⟨rfl, N', hp5, hw5, ho5, hg5⟩
        have HB5 := Lib.hid (HB.out.grown hg5 (by have := HWS.out; omega) (fun j hj => by cases hj; have := HG1.out; omega)); clear hg5
        have hE := gone_end HOK.out.1 HG.out HL0.out hp5 hw5
        have HLE : Hid ((numsF lo m.files).length = N.length) := by show _ = _; rw [← hE]; exact hp5.length_eq
        rw [hE] at ho5
        have HO5 := Lib.hid ho5; clear ho5 hp5 hw5 hE
        go_wp2_with fail
        go_ret
        refine ⟨some ⟨g, 0, none⟩, cap, by rw [HLE.out]; rfl, by rw [HLE.out]; exact HCAP.out, HCM.out, ?_, fun b o s h => by (cases h; have := HG1.out; omega), HB5.out⟩
        have h := HO5.out
        rw [← HLE.out] at h
        rw [HLE.out] at *
        exact Rd.own h
    · intro z w1 cnt1 hz hlz hrg1 hlt hg1 hs1 hen
      have HZ := Lib.hid hz; have HLZ := Lib.hid hlz; have HR1 := Lib.hid hrg1; have HT1 := Lib.hid hlt
      have HB1 := Lib.hid (HB.out.grown hg1 (by have := HWS.out; omega) (fun j hj => by cases hj; exact Nat.le_refl _))
      have HW1 := Lib.hid (HW.out.kept hg1 (by
        cases hv : u5.ownBlock with
        | none => exact .inl rfl
        | some k => refine .inr fun e => ?_; cases e; have := (HW.out.lt _ hv).1; omega))
      have HS1 : Hid (w.heap.size + 1 ≤ w1.heap.size) := by show _ ≤ _; rw [hs1]; exact HWS.out
      have HX := Lib.hid (HOK.out.2.1 z hz).2
      clear hz hlz hrg1 hlt hg1 hs1
      have hcf := HEN.out
      go_wp2_with fail
      refine (HC.out z _ HX.out).mono ?_; rintro e w3 ⟨rfl, hb3⟩
      have HBA := Lib.hid (HB1.out.alloc HB1.out.size (.cells #[.bool z.there, .string z.now, .bool z.kept, .string z.safe] 69))
      have HRA := Lib.hid (HR1.out.alloc (.cells #[.bool z.there, .string z.now, .bool z.kept, .string z.safe] 69))
      have HWA := Lib.hid (HW1.out.alloc (.cells #[.bool z.there, .string z.now, .bool z.kept, .string z.safe] 69))
      have HB3 := Lib.hid (HBA.out.trans (hb3.mono HBA.out.size))
      have HR3 := Lib.hid (ranges_below HRA.out hb3)
      have HW3 := Lib.hid (own_below HWA.out hb3)
      have HS3 : Hid (w.heap.size + 1 ≤ w3.heap.size) := by show _ ≤ _; have h1 := HS1.out; have h2 := hb3.size; simp at h2; omega
      clear hb3 hen HBA HRA HWA HB1 HR1 HW1
      cases hp : pickF lo z
      · have HN := Lib.hid (gone_no HOK.out.1 HG.out HZ.out hp)
        clear hp
        go_wp2_with fail
        go_roundw
        case rel => exact ⟨_, _, N, HR3.out, HW3.out, HN.out, HB3.out⟩
        case measure => rw [HR3.out.left_eq, HRG.out.left_eq]; exact HT1.out
      · have HN := Lib.hid (gone_yes HG.out HZ.out HLZ.out hp)
        clear hp
        go_wp2_with (refine wpList_append_rd _ rfl (.tmp 21) (.tmp 23) 43 rfl (w.heap.size + 1) 35 i0 _ 1 4 Try.underlying43 hi0 hz0 hz1 HZ2.out rfl (by omega) u5 N.length _ rfl (HW3.out.alloc _) _ _ 1 1 (u32V [z.n]) rfl rfl (lit_rd w3 #[.int .u32 (z.n : Int)] _) (u32V_one _) (by have := HLN.out; unfold maxLen; omega) (by have := HLN.out; omega) (by have := HS3.out; simp at this ⊢; omega) ?_
                     intro v8 w8 hown8 hg8 _
                     have HO8 := Lib.hid hown8; have HG8 := Lib.hid hg8; clear hown8 hg8)
        have hgb : ∀ k, u5.ownBlock = some k → w.heap.size + 1 ≤ k := fun k hk => (HW3.out.lt k hk).1
        go_roundw
        case rel =>
          refine ⟨_, _, N ++ [z.n], (HR3.out.alloc _).kept HG8.out ?_ ?_, by rw [List.length_append, u32V_append]; exact HO8.out, HN.out, (HB3.out.alloc (by have := HS3.out; omega) _).grown HG8.out (by simp; have := HS3.out; omega) (fun k hk => by have := hgb k hk; omega)⟩
          · intro e; have := hgb b e.symm; have := HBL.out; omega
          · intro e; have := hgb _ e.symm; omega
        case measure => rw [((HR3.out.alloc _).kept HG8.out (by intro e; have := hgb b e.symm; have := HBL.out; omega) (by intro e; have := hgb _ e.symm; omega)).left_eq, HRG.out.left_eq]; exact HT1.out
end Go.Proofs.Ythfhmohbfoolnaa
