import Derived.Test.YtcckbpmhmlgjoaaCg
namespace Go.Proofs.Ytcckbpmhmlgjoaa
open Go Go.RowKit

/-- Two values that share no block. -/
def Apart (u v : Value) : Prop := u.ownBlock = none ∨ v.ownBlock = none ∨ u.ownBlock ≠ v.ownBlock
theorem Apart.symm {u v : Value} (h : Apart u v) : Apart v u := by
  rcases h with h | h | h
  · exact .inr (.inl h)
  · exact .inl h
  · exact .inr (.inr fun e => h e.symm)
theorem Apart.row {u v : Value} (h : Apart u v) : u.ownBlock = none ∨ u.ownBlock ≠ v.ownBlock := by
  rcases h with h | h | h
  · exact .inl h
  · cases hu : u.ownBlock with
    | none => exact .inl rfl
    | some k => exact .inr (by rw [h]; simp)
  · exact .inr h
theorem Apart.next {w : World} {base : Nat} {e : TypeId} {size n : Nat} {u v v' : Value} {xs : List Value} (h : Apart u v) (hu : w.ownsRow base e size u n xs) (hv : v'.ownBlock = v.ownBlock ∨ v'.ownBlock = some w.heap.size) : Apart u v' := by
  rcases hv with hv | hv
  · unfold Apart; rw [hv]; exact h
  · cases hk : u.ownBlock with
    | none => exact .inl hk
    | some k =>
      refine .inr (.inr ?_)
      have := (own_shape hu hk).2.1
      rw [hk, hv]
      intro e; injection e with e; omega
def byt (n i : Nat) : UInt8 := UInt8.ofNat (n / 2 ^ (8 * i))
theorem byt_nat (n i : Nat) : (byt n i).toNat = n / 2 ^ (8 * i) % 256 := by simp [byt]
theorem info_u8 : (Try.prog.info? 5).map (fun i => (i.zero, i.size, i.bytes)) = some (some (.int .u8 0), 1, 1) := by kernel_rfl
theorem lit_rd (w : World) (cs : Array Value) (t : TypeId) : Rd (w.alloc (.cells cs t)) (w.heap.size + 1) (some ⟨w.heap.size, 0, none⟩) cs.toList := fun _ =>
  ⟨w.heap.size, 0, rfl, by omega, fun j u hu => by have := lit_cells w cs t j u hu; rwa [add_at] at this⟩
theorem byt_int (n i : Nat) : ((n : Int) / 2 ^ (8 * i) % 256) = ((byt n i).toNat : Int) := by
  rw [byt_nat]; simp
theorem u8_xor_toNat (a b : UInt8) : bits BinOp.xor IntKind.u8 (a.toNat : Int) (b.toNat : Int) = ((a ^^^ b).toNat : Int) := by
  rw [u8_xor_nat _ _ a.toNat_lt b.toNat_lt, UInt8.toNat_xor]
/-- One of three slices grows by a byte. -/
theorem grow_one {w wr w1 : World} {o : Obj} {e : TypeId} {v v' u t : Value} {n n2 n3 : Nat} {xu xt : List Value} (hb : Below w.heap.size w wr) {xs : List Value} (hv : wr.ownsRow w.heap.size e 1 v n xs)
    (hg : (wr.alloc o).grownBy w1 v.ownBlock) (hblk : v'.ownBlock = v.ownBlock ∨ v'.ownBlock = some (wr.alloc o).heap.size)
    (hu : wr.ownsRow w.heap.size e 1 u n2 xu) (ht : wr.ownsRow w.heap.size e 1 t n3 xt) (au : Apart u v) (at_ : Apart t v) :
    w1.ownsRow w.heap.size e 1 u n2 xu ∧ w1.ownsRow w.heap.size e 1 t n3 xt ∧ Apart u v' ∧ Apart t v' ∧ Below w.heap.size w w1 :=
  ⟨(hu.alloc o).kept hg au.row, (ht.alloc o).kept hg at_.row, au.next (hu.alloc o) hblk, at_.next (ht.alloc o) hblk,
    Below.of_grown (hb.alloc hb.size o) hg (by simp; exact Nat.le_succ_of_le hb.size) (fun g h => (own_shape hv h).1)⟩
theorem snoc_map (f : Nat → UInt8) (k : Nat) {b : UInt8} (h : f k = b) : bV ((List.range k).map f) ++ bV [b] = bV ((List.range (k + 1)).map f) := by
  subst h; rw [List.range_succ, List.map_append, bV_append]; rfl
theorem map_getD (l : List UInt8) : (List.range l.length).map (fun j => l.getD j 0) = l := by
  apply List.ext_getElem
  · simp
  · intro i h1 h2
    simp [List.getD, h2]
set_option maxHeartbeats 2000000 in
theorem law_line (a : Option Addr) (c : Nat) (l : List UInt8) (x y : Nat) (w : World) (hr : Rd w w.heap.size a (bV l)) (hlc : l.length ≤ c) (hc : c ≤ maxLen) (_hx : x < 18446744073709551616) (_hy : y < 18446744073709551616) :
    Calls Try.prog 6 #[.slice a l.length c, .int .u64 (x : Int), .int .u64 (y : Int)] w fun e w' => e = .returned (.bool true) ∧ Below w.heap.size w w' := by
  have HR := Lib.hid hr; clear hr
  unfold maxLen at hc
  have hlm : l.length ≤ 9223372036854775807 := by omega
  by_cases hlong : 2000 < l.length
  · go_enter Try.func6, Try.ntmps6
    go_wp2_with (go_at_call 7; refine (fixed_any _).mono ?_; rintro e w' ⟨rfl, hb⟩)
    go_ret
    exact ⟨rfl, hb⟩
  have hl : l.length ≤ 1000000000000 := by omega
  go_enter Try.func6, Try.ntmps6
  go_wp2_with fail
  go_loopw [7, 8, 9, 20] (fun v7 v8 v9 i wr => ∃ k : Nat, k ≤ l.length ∧ i = .int .i64 k ∧
    wr.ownsRow w.heap.size 5 1 v7 k (bV ((List.range k).map fun j => byt x (j % 8))) ∧
    wr.ownsRow w.heap.size 5 1 v8 k (bV ((List.range k).map fun j => byt y (j % 8))) ∧
    wr.ownsRow w.heap.size 5 1 v9 k (bV ((List.range k).map fun j => l.getD j 0 ^^^ byt x (j % 8) ^^^ byt y (j % 8))) ∧
    Apart v7 v8 ∧ Apart v7 v9 ∧ Apart v8 v9 ∧ Below w.heap.size w wr) (fun _ _ _ i _ => l.length - (intOf i).toNat)
  case atStart => exact ⟨0, Nat.zero_le _, rfl, ⟨rfl, .inl ⟨rfl, rfl⟩⟩, ⟨rfl, .inl ⟨rfl, rfl⟩⟩, ⟨rfl, .inl ⟨rfl, rfl⟩⟩, .inl rfl, .inl rfl, .inl rfl, Below.refl _ _⟩
  case round =>
    obtain ⟨k, hk, rfl, hrow⟩ := hrel
    have HROW := Lib.hid hrow; clear hrow
    by_cases hlt : k < l.length
    · obtain ⟨b, off, ha, _, hcell⟩ := (HR.out.below HROW.out.2.2.2.2.2.2).byte hlt
      subst ha
      have i1 : (0 : Int) ≤ (k : Int) := by omega
      have i2 : (k : Int) < (l.length : Int) := by omega
      have hbx := byt_int x (k % 8)
      have hby := byt_int y (k % 8)
      have HG : Hid (l.getD k 0 = l[k]) := getD_lt hlt
      obtain ⟨C, hC⟩ : ∃ C, l[k] = C := ⟨_, rfl⟩
      rw [hC] at hcell HG
      clear hC
      obtain ⟨X, hX⟩ : ∃ X, byt x (k % 8) = X := ⟨_, rfl⟩
      obtain ⟨Y, hY⟩ : ∃ Y, byt y (k % 8) = Y := ⟨_, rfl⟩
      rw [hX] at hbx; rw [hY] at hby
      have HX := Lib.hid hX; have HY := Lib.hid hY; clear hX hY
      obtain ⟨D, hD⟩ : ∃ D, C ^^^ X = D := ⟨_, rfl⟩
      obtain ⟨E, hE⟩ : ∃ E, D ^^^ Y = E := ⟨_, rfl⟩
      have hx1 := u8_xor_toNat C X
      have hx2 := u8_xor_toNat D Y
      rw [hD] at hx1; rw [hE] at hx2
      have HD := Lib.hid hD; have HE := Lib.hid hE; clear hD hE
      obtain ⟨i0, hi0, hz0, hz1, hz2⟩ := info_parts info_u8
      have HZ2 := Lib.hid hz2; clear hz2
      go_wp2_with (first
        | (refine wpList_append_rd _ rfl (.tmp 39) (.tmp 41) 22 rfl w.heap.size 5 i0 _ 1 1 Try.underlying22 hi0 hz0 hz1 HZ2.out rfl (by omega) u7 k _ rfl (HROW.out.1.alloc _) _ _ 1 1 (bV [X]) rfl rfl (lit_rd wr #[.int .u8 (X.toNat : Int)] _) (bV_one _) (by unfold maxLen; omega) (by omega) (by have := HROW.out.2.2.2.2.2.2.size; simp; omega) ?_
           intro v7 w1 hown1 hg1 hblk1
           have hgr := grow_one HROW.out.2.2.2.2.2.2 HROW.out.1 hg1 hblk1 HROW.out.2.1 HROW.out.2.2.1 HROW.out.2.2.2.1.symm HROW.out.2.2.2.2.1.symm
           have HO1 := Lib.hid hown1; have HGR1 := Lib.hid hgr; clear hown1 hg1 hblk1 hgr)
        | (refine wpList_append_rd _ rfl (.tmp 43) (.tmp 45) 22 rfl w.heap.size 5 i0 _ 1 1 Try.underlying22 hi0 hz0 hz1 HZ2.out rfl (by omega) u8 k _ rfl (HGR1.out.1.alloc _) _ _ 1 1 (bV [Y]) rfl rfl (lit_rd w1 #[.int .u8 (Y.toNat : Int)] _) (bV_one _) (by unfold maxLen; omega) (by omega) (by have := HGR1.out.2.2.2.2.size; simp; omega) ?_
           intro v8 w2 hown2 hg2 hblk2
           have hgr := grow_one HGR1.out.2.2.2.2 HGR1.out.1 hg2 hblk2 HO1.out HGR1.out.2.1 HGR1.out.2.2.1.symm HROW.out.2.2.2.2.2.1.symm
           have HO2 := Lib.hid hown2; have HGR2 := Lib.hid hgr; clear hown2 hg2 hblk2 hgr)
        | (refine wpList_append_rd _ rfl (.tmp 47) (.tmp 53) 22 rfl w.heap.size 5 i0 _ 1 1 Try.underlying22 hi0 hz0 hz1 HZ2.out rfl (by omega) u9 k _ rfl (HGR2.out.2.1.alloc _) _ _ 1 1 (bV [E]) rfl rfl (lit_rd w2 #[.int .u8 (E.toNat : Int)] _) (bV_one _) (by unfold maxLen; omega) (by omega) (by have := HGR2.out.2.2.2.2.size; simp; omega) ?_
           intro v9 w3 hown3 hg3 hblk3
           have hgr := grow_one HGR2.out.2.2.2.2 HGR2.out.2.1 hg3 hblk3 HGR2.out.1 HO2.out HGR1.out.2.2.2.1.symm HGR2.out.2.2.2.1.symm
           have HO3 := Lib.hid hown3; have HGR3 := Lib.hid hgr; clear hown3 hg3 hblk3 hgr))
      go_roundw
      case rel =>
        refine ⟨k + 1, by omega, by go_num, ?_, ?_, ?_, HGR2.out.2.2.1, HGR3.out.2.2.1, HGR3.out.2.2.2.1, HGR3.out.2.2.2.2⟩
        · rw [← snoc_map (fun j => byt x (j % 8)) k HX.out]; exact HGR3.out.1
        · rw [← snoc_map (fun j => byt y (j % 8)) k HY.out]; exact HGR3.out.2.1
        · rw [← snoc_map (fun j => l.getD j 0 ^^^ byt x (j % 8) ^^^ byt y (j % 8)) k (show l.getD k 0 ^^^ byt x (k % 8) ^^^ byt y (k % 8) = E by rw [HG.out, HX.out, HY.out, HD.out, HE.out])]; exact HO3.out
      case measure => simp [intOf]; omega
    · have : k = l.length := by omega
      subst this
      have HL : Hid (moreL 0 ((List.range l.length).map fun j => l.getD j 0 ^^^ byt x (j % 8) ^^^ byt y (j % 8)) = moreL 0 l ^^^ moreL 0 ((List.range l.length).map fun j => byt x (j % 8)) ^^^ moreL 0 ((List.range l.length).map fun j => byt y (j % 8))) := by
        have h := moreL_line (fun j => l.getD j 0) (fun j => byt x (j % 8)) (fun j => byt y (j % 8)) (List.range l.length)
        rw [map_getD] at h
        exact h
      have HLb : Hid (((List.range l.length).map fun j => byt x (j % 8)).length = l.length) := by show _ = _; simp
      have HLc : Hid (((List.range l.length).map fun j => byt y (j % 8)).length = l.length) := by show _ = _; simp
      have HLd : Hid (((List.range l.length).map fun j => l.getD j 0 ^^^ byt x (j % 8) ^^^ byt y (j % 8)).length = l.length) := by show _ = _; simp
      have hbl := moreL_lt 0 ((List.range l.length).map fun j => byt x (j % 8))
      have hcl := moreL_lt 0 ((List.range l.length).map fun j => byt y (j % 8))
      have hal := moreL_lt 0 l
      generalize ((List.range l.length).map fun j => byt x (j % 8)) = lb at HROW HL HLb hbl
      generalize ((List.range l.length).map fun j => byt y (j % 8)) = lc at HROW HL HLc hcl
      generalize ((List.range l.length).map fun j => l.getD j 0 ^^^ byt x (j % 8) ^^^ byt y (j % 8)) = ld at HROW HL HLd
      obtain ⟨h7, h8, h9, _, _, _, hb0⟩ := HROW.out
      clear HROW
      obtain ⟨a7, c7, rfl, _⟩ := own_slice h7
      obtain ⟨a8, c8, rfl, _⟩ := own_slice h8
      obtain ⟨a9, c9, rfl, _⟩ := own_slice h9
      have HB := Lib.hid (Rd.own h7); have HC := Lib.hid (Rd.own h8); have HD := Lib.hid (Rd.own h9)
      have HA := Lib.hid ((HR.out.below hb0).more hb0.size)
      have HB0 := Lib.hid hb0
      clear h7 h8 h9 hb0
      obtain ⟨Sa, hSa⟩ : ∃ S, S = moreL 0 l := ⟨_, rfl⟩
      obtain ⟨Sb, hSb⟩ : ∃ S, S = moreL 0 lb := ⟨_, rfl⟩
      obtain ⟨Sc, hSc⟩ : ∃ S, S = moreL 0 lc := ⟨_, rfl⟩
      rw [← hSa, ← hSb, ← hSc] at HL
      rw [← hSb] at hbl; rw [← hSc] at hcl; rw [← hSa] at hal
      have HSa := Lib.hid hSa; have HSb := Lib.hid hSb; have HSc := Lib.hid hSc; clear hSa hSb hSc
      have hx1 := u32_xor_nat Sa Sb hal hbl
      have hx2 := u32_xor_nat (Sa ^^^ Sb) Sc (xor_lt32 hal hbl) hcl
      clear hal hbl hcl
      generalize Sa ^^^ Sb = S1 at hx1 hx2 HL
      generalize S1 ^^^ Sc = S2 at hx2 HL
      go_wp2_with fail
      refine (fixed_any _).mono ?_; rintro e w1 ⟨rfl, hb1⟩
      have HA1 := Lib.hid ((HA.out.below hb1).more hb1.size); have HB1 := Lib.hid ((HB.out.below hb1).more hb1.size); have HC1 := Lib.hid ((HC.out.below hb1).more hb1.size); have HD1 := Lib.hid ((HD.out.below hb1).more hb1.size)
      go_wp2_with fail
      refine (sum_is a9 _ c9 ld w1 HLd.out.symm S2 HL.out.symm HD1.out (by rw [HLd.out]; exact hl)).mono ?_; rintro e w2 ⟨rfl, hb2⟩
      have HA2 := Lib.hid ((HA1.out.below hb2).more hb2.size); have HB2 := Lib.hid ((HB1.out.below hb2).more hb2.size); have HC2 := Lib.hid ((HC1.out.below hb2).more hb2.size)
      go_wp2_with fail
      refine (sum_is a _ c l w2 rfl Sa HSa.out HA2.out hl).mono ?_; rintro e w3 ⟨rfl, hb3⟩
      have HB3 := Lib.hid ((HB2.out.below hb3).more hb3.size); have HC3 := Lib.hid ((HC2.out.below hb3).more hb3.size)
      go_wp2_with fail
      refine (sum_is a7 _ c7 lb w3 HLb.out.symm Sb HSb.out HB3.out (by rw [HLb.out]; exact hl)).mono ?_; rintro e w4 ⟨rfl, hb4⟩
      have HC4 := Lib.hid ((HC3.out.below hb4).more hb4.size)
      go_wp2_with fail
      refine (sum_is a8 _ c8 lc w4 HLc.out.symm Sc HSc.out HC4.out (by rw [HLc.out]; exact hl)).mono ?_; rintro e w5 ⟨rfl, hb5⟩
      go_wp2_with fail
      go_ret
      exact ⟨ret_bool (by simp), bel2 HB0.out (bel2 (bel2 (bel2 (bel2 hb1 hb2) hb3) hb4) hb5)⟩
end Go.Proofs.Ytcckbpmhmlgjoaa
