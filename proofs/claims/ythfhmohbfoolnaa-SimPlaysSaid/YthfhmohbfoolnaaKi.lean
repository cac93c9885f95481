import Derived.Test.YthfhmohbfoolnaaKh
namespace Go.Proofs.Ythfhmohbfoolnaa
open Go Go.RowKit Go.Maps Go.Sort Go.Shelf

/-! The landed file system: Create, Append, Truncate, Sync, Remove. -/
theorem actG_down {m : FSm} {n : Nat} {g : Bool → Fl → Int × Fl} (h : m.down = true) : actG m n g = (m, 7) := by unfold actG; rw [if_pos h]
theorem actG_no {m : FSm} {n : Nat} {g : Bool → Fl → Int × Fl} (h : m.down = false) {e : Int} (he : (g (decide (m.fuse = 0)) (getF m.files n)).1 = e) (h0 : e ≠ 0) : actG m n g = (m, e) := by
  unfold actG; rw [if_neg (by rw [h]; simp), he, if_pos h0]
theorem actG_yes {m : FSm} {n : Nat} {g : Bool → Fl → Int × Fl} (h : m.down = false) {y : Fl} (he : g (decide (m.fuse = 0)) (getF m.files n) = (0, y)) : actG m n g = actF m y false := by
  unfold actG actF
  rw [if_neg (by rw [h]; simp), he, if_neg (by simp)]
  simp
theorem create_is {m : FSm} (ok : m.Ok) (n : Nat) : actG m n (fun _ x => makeG (numsF false m.files).length x) = createF m n := by
  unfold createF
  cases hd : m.down
  · rw [if_neg (by simp)]
    have hx := get_okx ok.2.1 n
    have hn := getF_n m.files n
    by_cases h1 : (getF m.files n).there = true ∨ looseF (getF m.files n) = true
    · rw [if_pos h1, actG_no hd (e := 9) (by simp only [makeG, if_pos h1]) (by decide)]
    · rw [if_neg h1]
      by_cases h2 : 63 < (numsF false m.files).length
      · rw [if_pos h2, actG_no hd (e := 6) (by simp only [makeG, if_neg h1, if_pos h2]) (by decide)]
      · rw [if_neg h2]
        refine actG_yes hd ?_
        simp only [makeG, if_neg h1, if_neg h2]
        generalize getF m.files n = x at *
        obtain ⟨xn, t, k, nw, sf⟩ := x
        obtain ⟨hx1, hx2⟩ := hx
        simp only [not_or, Bool.not_eq_true] at h1 hn hx1 hx2
        obtain ⟨rfl, h1⟩ := h1
        have hk : k = false := by
          cases k
          · rfl
          · simp [looseF] at h1
        subst hk; subst hn
        rw [hx1 rfl, hx2 rfl]
  · rw [if_pos rfl, actG_down hd]
theorem append_is (m : FSm) (n : Nat) (b : ByteArray) : actG m n (fun _ x => moreG b x) = appendF m n b := by
  unfold appendF
  cases hd : m.down
  · rw [if_neg (by simp)]
    cases h1 : (getF m.files n).there
    · rw [if_pos rfl, actG_no hd (e := 5) (by simp [moreG, h1]) (by decide)]
    · rw [if_neg (by simp), actG_yes hd]
      simp [moreG, h1]
  · rw [if_pos rfl, actG_down hd]
theorem trunc_is (m : FSm) (n : Nat) (s : Int) : actG m n (fun _ x => lessG s x) = truncF m n s := by
  unfold truncF
  cases hd : m.down
  · rw [if_neg (by simp)]
    cases h1 : (getF m.files n).there
    · rw [if_pos rfl, actG_no hd (e := 5) (by simp [lessG, h1]) (by decide)]
    · rw [if_neg (by simp)]
      by_cases h2 : s < 0 ∨ ((getF m.files n).now.size : Int) < s
      · rw [if_pos h2, actG_no hd (e := 4) (by simp [lessG, h1, h2]) (by decide)]
      · rw [if_neg h2, actG_yes hd]
        simp [lessG, h1, h2]
  · rw [if_pos rfl, actG_down hd]
theorem sync_is {m : FSm} (ok : m.Ok) (n : Nat) : actG m n (fun fl x => safeG fl x) = syncF m n := by
  unfold syncF
  cases hd : m.down
  · rw [if_neg (by simp)]
    by_cases h1 : (getF m.files n).there = false ∧ looseF (getF m.files n) = false
    · rw [if_pos h1, actG_no hd (e := 5) (by simp [safeG, h1.1, h1.2]) (by decide)]
    · rw [if_neg h1]
      have h2 : (getF m.files n).there = true ∨ looseF (getF m.files n) = true := by
        cases e1 : (getF m.files n).there <;> cases e2 : looseF (getF m.files n) <;> simp_all
      by_cases hf : m.fuse = 0
      · rw [actG_yes hd (y := getF m.files n) (by simp [safeG, h2, hf])]
        unfold actF
        rw [if_pos hf, if_pos hf, putF_same ok.1 (has_all ok)]
        rfl
      · rw [actG_yes hd (y := syncedF (getF m.files n)) (by simp [safeG, h2, hf])]
        unfold actF
        rw [if_neg hf, if_neg hf]
  · rw [if_pos rfl, actG_down hd]
theorem remove_is (m : FSm) (n : Nat) : actG m n (fun _ x => awayG x) = removeF m n := by
  unfold removeF
  cases hd : m.down
  · rw [if_neg (by simp)]
    cases h1 : (getF m.files n).there
    · rw [if_pos rfl, actG_no hd (e := 5) (by simp [awayG, h1]) (by decide)]
    · rw [if_neg (by simp), actG_yes hd]
      simp [awayG, h1]
  · rw [if_pos rfl, actG_down hd]
theorem makeG_n (k : Nat) (x : Fl) : (makeG k x).2.n = x.n := by unfold makeG; split <;> (try split) <;> rfl
theorem moreG_n (b : ByteArray) (x : Fl) : (moreG b x).2.n = x.n := by unfold moreG; split <;> rfl
theorem lessG_n (s : Int) (x : Fl) : (lessG s x).2.n = x.n := by unfold lessG; split <;> (try split) <;> rfl
theorem safeG_n (fl : Bool) (x : Fl) : (safeG fl x).2.n = x.n := by unfold safeG; split <;> cases fl <;> rfl
theorem awayG_n (x : Fl) : (awayG x).2.n = x.n := by unfold awayG; split <;> rfl
theorem makeG_ok (k : Nat) {x : Fl} (h : OkX x) : OkX (makeG k x).2 := by
  unfold makeG; split
  · exact h
  · split
    · exact h
    · exact ⟨fun e => (by cases e), h.2⟩
theorem moreG_ok (b : ByteArray) {x : Fl} (h : OkX x) : OkX (moreG b x).2 := by
  unfold moreG; split
  · rename_i ht; exact ⟨fun e => (by simp only [appF] at e; rw [ht] at e; cases e), h.2⟩
  · exact h
theorem lessG_ok (s : Int) {x : Fl} (h : OkX x) : OkX (lessG s x).2 := by
  unfold lessG; split
  · rename_i ht
    split
    · exact h
    · exact ⟨fun e => (by simp only [cutF] at e; rw [ht] at e; cases e), h.2⟩
  · exact h
theorem safeG_ok (fl : Bool) {x : Fl} (h : OkX x) : OkX (safeG fl x).2 := by
  unfold safeG; split
  · cases fl
    · exact synced_okx h
    · exact h
  · exact h
theorem awayG_ok {x : Fl} (h : OkX x) : OkX (awayG x).2 := by
  unfold awayG; split
  · exact ⟨fun _ => rfl, h.2⟩
  · exact h
theorem enters_c : ∀ args w, (callFunc 31 args).run Try.prog w = .ok (.enter 31 args) w := enters_of Try.func31 (by kernel_rfl) rfl
theorem enters_a : ∀ args w, (callFunc 32 args).run Try.prog w = .ok (.enter 32 args) w := enters_of Try.func32 (by kernel_rfl) rfl
theorem enters_t : ∀ args w, (callFunc 42 args).run Try.prog w = .ok (.enter 42 args) w := enters_of Try.func42 (by kernel_rfl) rfl
theorem enters_s : ∀ args w, (callFunc 33 args).run Try.prog w = .ok (.enter 33 args) w := enters_of Try.func33 (by kernel_rfl) rfl
theorem enters_r : ∀ args w, (callFunc 43 args).run Try.prog w = .ok (.enter 43 args) w := enters_of Try.func43 (by kernel_rfl) rfl
set_option maxHeartbeats 1000000 in
theorem create_any (w : World) (S R : Nat → Prop) (p : Nat) (m : FSm) (n : Nat) (hF : FsL w S R p m) (hb : m.files.length ≤ 1000000000) (hn : n < 4294967296) :
    Calls Try.prog 17 #[.pointer (some ⟨p, 0, none⟩), .int .u32 (n : Int)] w fun e w' => e = .returned (.int .i64 (createF m n).2) ∧ FsL w' S R p (createF m n).1 ∧ Off S w w' := by
  have HF := Lib.hid hF; clear hF
  have hb1 := box1 w (.cells #[.pointer (some ⟨p, 0, none⟩)] 25)
  have HB1 := Lib.hid hb1
  have HF1 := Lib.hid (HF.out.below hb1)
  have hx : (w.alloc (.cells #[.pointer (some ⟨p, 0, none⟩)] 25)).cell? ⟨w.heap.size, 0, none⟩ = some (.pointer (some ⟨p, 0, none⟩)) := by go_simp
  have HX := Lib.hid hx
  clear hb1 hx
  have hs : w.heap.size < (w.alloc (.cells #[.pointer (some ⟨p, 0, none⟩)] 25)).heap.size := by simp
  go_enter Try.func17, Try.ntmps17
  go_wp2_with fail
  refine (act_any _ 31 #[.pointer (some ⟨w.heap.size, 0, none⟩)] rfl enters_c (fun _ x => makeG (numsF false m.files).length x) _ S R p m n HF1.out hb hn (fun _ x => makeG_n _ x) (fun _ x hx => makeG_ok _ hx) fun fl W q hbW hq hqc =>
    create1_any S R p m hb _ (get_okx HF1.out.ok.2.1 n) q w.heap.size fl W (HF1.out.below hbW) hqc (by rw [hbW.cell (p := ⟨w.heap.size, 0, none⟩) hs]; exact HX.out)).mono ?_
  rintro e w5 ⟨rfl, h1, h2⟩
  have H1 := Lib.hid h1; have H2 := Lib.hid h2; clear h1 h2
  go_wp2_with fail
  go_ret
  have e := create_is HF.out.ok n
  rw [← e]
  exact ⟨rfl, H1.out, (Off.of_below HB1.out).trans H2.out⟩
set_option maxHeartbeats 1000000 in
theorem append_any (w : World) (S R : Nat → Prop) (p : Nat) (m : FSm) (n : Nat) (a : Option Addr) (c : Nat) (b : List UInt8) (hF : FsL w S R p m) (hb : Bnd m) (hn : n < 4294967296) (hr : Rd w w.heap.size a (bV b)) (hbl : b.length ≤ 1000000000) :
    Calls Try.prog 18 #[.pointer (some ⟨p, 0, none⟩), .int .u32 (n : Int), .slice a b.length c] w fun e w' => e = .returned (.int .i64 (appendF m n (bs b)).2) ∧ FsL w' S R p (appendF m n (bs b)).1 ∧ Off S w w' := by
  have HF := Lib.hid hF; clear hF
  have hb1 := box1 w (.cells #[.slice a b.length c] 36)
  have HB1 := Lib.hid hb1
  have HF1 := Lib.hid (HF.out.below hb1)
  have hx : (w.alloc (.cells #[.slice a b.length c] 36)).cell? ⟨w.heap.size, 0, none⟩ = some (.slice a b.length c) := by go_simp
  have HX := Lib.hid hx
  have HR := Lib.hid ((hr.below hb1).more hb1.size)
  clear hb1 hx hr
  have hs : w.heap.size < (w.alloc (.cells #[.slice a b.length c] 36)).heap.size := by simp
  have HZ := Lib.hid (get_sz hb.2 n).1
  go_enter Try.func18, Try.ntmps18
  go_wp2_with fail
  refine (act_any _ 32 #[.pointer (some ⟨w.heap.size, 0, none⟩)] rfl enters_a (fun _ x => moreG (bs b) x) _ S R p m n HF1.out (by have := hb.1; omega) hn (fun _ x => moreG_n _ x) (fun _ x hx => moreG_ok _ hx) fun fl W q hbW hq hqc =>
    append1_any _ q w.heap.size fl W a c b hqc (by rw [hbW.cell (p := ⟨w.heap.size, 0, none⟩) hs]; exact HX.out) ((HR.out.below hbW).more hbW.size) hbl HZ.out).mono ?_
  rintro e w5 ⟨rfl, h1, h2⟩
  have H1 := Lib.hid h1; have H2 := Lib.hid h2; clear h1 h2
  go_wp2_with fail
  go_ret
  have e := append_is m n (bs b)
  rw [← e]
  exact ⟨rfl, H1.out, (Off.of_below HB1.out).trans H2.out⟩
set_option maxHeartbeats 1000000 in
theorem trunc_any (w : World) (S R : Nat → Prop) (p : Nat) (m : FSm) (n : Nat) (s : Int) (hF : FsL w S R p m) (hb : Bnd m) (hn : n < 4294967296) (h1 : -9223372036854775808 ≤ s) (h2 : s ≤ 9223372036854775807) :
    Calls Try.prog 23 #[.pointer (some ⟨p, 0, none⟩), .int .u32 (n : Int), .int .i64 s] w fun e w' => e = .returned (.int .i64 (truncF m n s).2) ∧ FsL w' S R p (truncF m n s).1 ∧ Off S w w' := by
  have HF := Lib.hid hF; clear hF
  have hb1 := box1 w (.cells #[.int .i64 s] 3)
  have HB1 := Lib.hid hb1
  have HF1 := Lib.hid (HF.out.below hb1)
  have hx : (w.alloc (.cells #[.int .i64 s] 3)).cell? ⟨w.heap.size, 0, none⟩ = some (.int .i64 s) := by go_simp
  have HX := Lib.hid hx
  clear hb1 hx
  have hs : w.heap.size < (w.alloc (.cells #[.int .i64 s] 3)).heap.size := by simp
  have HZ := Lib.hid (get_sz hb.2 n).1
  go_enter Try.func23, Try.ntmps23
  go_wp2_with fail
  refine (act_any _ 42 #[.pointer (some ⟨w.heap.size, 0, none⟩)] rfl enters_t (fun _ x => lessG s x) _ S R p m n HF1.out (by have := hb.1; omega) hn (fun _ x => lessG_n _ x) (fun _ x hx => lessG_ok _ hx) fun fl W q hbW hq hqc =>
    trunc1_any _ q w.heap.size fl W s hqc (by rw [hbW.cell (p := ⟨w.heap.size, 0, none⟩) hs]; exact HX.out) h1 h2 HZ.out).mono ?_
  rintro e w5 ⟨rfl, h1, h2⟩
  have H1 := Lib.hid h1; have H2 := Lib.hid h2; clear h1 h2
  go_wp2_with fail
  go_ret
  have e := trunc_is m n s
  rw [← e]
  exact ⟨rfl, H1.out, (Off.of_below HB1.out).trans H2.out⟩
set_option maxHeartbeats 1000000 in
theorem sync_any (w : World) (S R : Nat → Prop) (p : Nat) (m : FSm) (n : Nat) (hF : FsL w S R p m) (hb : m.files.length ≤ 1000000000) (hn : n < 4294967296) :
    Calls Try.prog 19 #[.pointer (some ⟨p, 0, none⟩), .int .u32 (n : Int)] w fun e w' => e = .returned (.int .i64 (syncF m n).2) ∧ FsL w' S R p (syncF m n).1 ∧ Off S w w' := by
  have HF := Lib.hid hF; clear hF
  go_enter Try.func19, Try.ntmps19
  go_wp2_with fail
  refine (act_any _ 33 #[] rfl enters_s (fun fl x => safeG fl x) w S R p m n HF.out hb hn (fun _ x => safeG_n _ x) (fun _ x hx => safeG_ok _ hx) fun fl W q hbW hq hqc =>
    sync1_any _ (get_okx HF.out.ok.2.1 n) q fl W hqc).mono ?_
  rintro e w5 ⟨rfl, h1, h2⟩
  have H1 := Lib.hid h1; have H2 := Lib.hid h2; clear h1 h2
  go_wp2_with fail
  go_ret
  have e := sync_is HF.out.ok n
  rw [← e]
  exact ⟨rfl, H1.out, H2.out⟩
set_option maxHeartbeats 1000000 in
theorem remove_any (w : World) (S R : Nat → Prop) (p : Nat) (m : FSm) (n : Nat) (hF : FsL w S R p m) (hb : m.files.length ≤ 1000000000) (hn : n < 4294967296) :
    Calls Try.prog 24 #[.pointer (some ⟨p, 0, none⟩), .int .u32 (n : Int)] w fun e w' => e = .returned (.int .i64 (removeF m n).2) ∧ FsL w' S R p (removeF m n).1 ∧ Off S w w' := by
  have HF := Lib.hid hF; clear hF
  go_enter Try.func24, Try.ntmps24
  go_wp2_with fail
  refine (act_any _ 43 #[] rfl enters_r (fun _ x => awayG x) w S R p m n HF.out hb hn (fun _ x => awayG_n x) (fun _ x hx => awayG_ok hx) fun fl W q hbW hq hqc =>
    remove1_any _ q fl W hqc).mono ?_
  rintro e w5 ⟨rfl, h1, h2⟩
  have H1 := Lib.hid h1; have H2 := Lib.hid h2; clear h1 h2
  go_wp2_with fail
  go_ret
  have e := remove_is m n
  rw [← e]
  exact ⟨rfl, H1.out, H2.out⟩
end Go.Proofs.Ythfhmohbfoolnaa
