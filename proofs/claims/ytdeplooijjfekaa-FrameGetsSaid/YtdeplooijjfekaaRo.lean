import Derived.Test.YtdeplooijjfekaaRn
namespace Go.Proofs.Ytdeplooijjfekaa
open Go Go.RowKit

def outB : Except Nat (List UInt8) → List UInt8 | .ok b => b | .error _ => []
def outQ (p : Int) : Except Nat (List UInt8) → Int | .ok b => p + 6 + (b.length : Int) | .error _ => 0
def outE : Except Nat (List UInt8) → Nat | .ok _ => 0 | .error k => k
theorem get_uni (a : Option Addr) (n c : Nat) (l : List UInt8) (p : Int) (B : List UInt8) (q : Int) (k : Nat) (w : World) (hn : n = l.length) (hlc : l.length ≤ c) (hcm : c ≤ maxLen) (hl : l.length ≤ 1000000000000) (hr : Rd w w.heap.size a (bV l)) (hB : outB (gotF l p) = B) (hq : outQ p (gotF l p) = q) (hk : outE (gotF l p) = k) :
    Calls Try.prog 10 #[.slice a n c, .int .i64 p] w fun e w' => Below w.heap.size w w' ∧ ∃ v, e = .returned (.tuple #[v, .int .i64 q, .int .i64 (k : Int)]) ∧ w'.ownsRow w.heap.size 5 1 v B.length (bV B) := by
  refine (gotF_any a n c l p w hn hlc hcm hl hr).mono ?_
  rintro e w' ⟨hb, (⟨b, v, hg, rfl, ho⟩ | ⟨j, hg, rfl⟩)⟩
  · rw [hg] at hB hq hk; subst hB hq hk
    exact ⟨hb, v, rfl, ho⟩
  · rw [hg] at hB hq hk; subst hB hq hk
    exact ⟨hb, _, rfl, World.ownsRow_nil _ _ _ _⟩
theorem ref_uni (t : ByteArray) (l : List UInt8) (p : Int) (B : List UInt8) (q : Int) (k : Nat) (w : World) (ht : t = bs l) (hl : l.length ≤ 1000000000000) (hB : outB (gotF l p) = B) (hq : outQ p (gotF l p) = q) (hk : outE (gotF l p) = k) :
    Calls Try.prog 11 #[.string t, .int .i64 p] w fun e w' => e = .returned (.tuple #[.string (bs B), .int .i64 q, .int .i64 (k : Int)]) ∧ Below w.heap.size w w' := by
  refine (refGot_any t l p w ht hl).mono ?_
  rintro e w' ⟨hb, (⟨b, hg, rfl⟩ | ⟨j, hg, rfl⟩)⟩
  · rw [hg] at hB hq hk; subst hB hq hk
    exact ⟨rfl, hb⟩
  · rw [hg] at hB hq hk; subst hB hq hk
    exact ⟨rfl, hb⟩
theorem allF_few (l : List UInt8) : ∀ (m : Nat) (p : Int), allF l m p ≠ [] → 0 ≤ p ∧ p + 7 * ((allF l m p).length : Int) ≤ l.length
  | 0, p, h => absurd rfl h
  | m + 1, p, h => by
    rw [allF] at h ⊢
    cases hg : gotF l p with
    | error e => rw [hg] at h; exact absurd rfl h
    | ok b =>
      have hf := gotF_fits hg
      dsimp only
      by_cases h0 : allF l m (p + ((6 + b.length : Nat) : Int)) = []
      · rw [h0]; simp; omega
      · have ih := allF_few l m _ h0
        rw [List.length_cons]; omega
theorem allF_len (l : List UInt8) (m : Nat) (p : Int) : (allF l m p).length ≤ l.length := by
  by_cases h0 : allF l m p = []
  · rw [h0]; simp
  · have := allF_few l m p h0; omega
theorem allF_small (l : List UInt8) : ∀ (m : Nat) (p : Int), ∀ b ∈ allF l m p, b.length ≤ 2406
  | 0, _, _, h => absurd h (by simp [allF])
  | m + 1, p, b, h => by
    rw [allF] at h
    cases hg : gotF l p with
    | error e => rw [hg] at h; exact absurd h (by simp)
    | ok c =>
      rw [hg] at h
      rcases List.mem_cons.1 h with rfl | h
      · exact (gotF_fits hg).2.2.2
      · exact allF_small l m _ b h
set_option maxHeartbeats 4000000 in
theorem law_gets (a : Option Addr) (c : Nat) (l : List UInt8) (p m : Int) (w : World) (hr : Rd w w.heap.size a (bV l)) (hlc : l.length ≤ c) (hc : c ≤ maxLen) (hm : m ≤ 9223372036854775807) :
    Calls Try.prog 4 #[.slice a l.length c, .int .i64 p, .int .i64 m] w fun e w' => e = .returned (.bool true) ∧ Below w.heap.size w w' := by
  have HR := Lib.hid hr; clear hr
  have HC := Lib.hid hc
  unfold maxLen at hc
  by_cases hlong : 5000 < l.length
  · go_enter Try.func4, Try.ntmps4
    go_wp2_with (go_at_call 7; refine (fixed_any _).mono ?_; rintro e w' ⟨rfl, hb⟩)
    go_ret
    exact ⟨rfl, hb⟩
  obtain ⟨N, hN⟩ : ∃ N, N = l.length := ⟨_, rfl⟩
  have HN := Lib.hid hN
  have HLC := Lib.hid hlc
  rw [← hN] at hlong hlc ⊢
  have HLL : Hid (l.length ≤ 1000000000000) := by show _ ≤ _; omega
  clear hN
  obtain ⟨B, hB⟩ : ∃ B, outB (gotF l p) = B := ⟨_, rfl⟩
  obtain ⟨q, hq⟩ : ∃ q, outQ p (gotF l p) = q := ⟨_, rfl⟩
  obtain ⟨k, hk⟩ : ∃ k, outE (gotF l p) = k := ⟨_, rfl⟩
  have HB := Lib.hid hB; have HQ := Lib.hid hq; have HK := Lib.hid hk
  clear hB hq hk
  have cv := run_string_of (w := w) (l := l) N c HR.out HN.out
  go_enter Try.func4, Try.ntmps4
  go_wp2_with fail
  refine (get_uni a N c l p B q k w HN.out HLC.out HC.out HLL.out HR.out HB.out HQ.out HK.out).mono ?_; rintro e w1 ⟨hb1, v1, rfl, ho1⟩
  have HR1 := Lib.hid ((HR.out.below hb1).more hb1.size)
  have HB1 := Lib.hid hb1
  have HU1 := Lib.hid (U8s.of ho1)
  obtain ⟨va, vc, rfl, _, _, _⟩ := own_slice ho1
  have HO1 := Lib.hid ho1
  clear hb1 ho1 cv
  go_wp2_with fail
  refine (ref_uni _ l p B q k w1 rfl HLL.out HB.out HQ.out HK.out).mono ?_; rintro e w2 ⟨rfl, hb2⟩
  have HR2 := Lib.hid ((HR1.out.below hb2).more hb2.size)
  have HB2 := Lib.hid (bel2 HB1.out hb2)
  have HU2 := Lib.hid (HU1.out.below hb2)
  have cv := run_string_of (w := w2) (l := B) B.length vc (((Rd.own HO1.out).below hb2).more hb2.size) rfl
  clear hb2
  go_wp2_with fail
  refine (allF_any a N c l p m w2 HN.out HLC.out HC.out HLL.out hm HR2.out).mono ?_; rintro e w3 ⟨v3, xs, rfl, hall, ho3, hbod, hb3⟩
  have HALL := Lib.hid hall
  have HR3 := Lib.hid ((HR2.out.below hb3).more hb3.size)
  have HB3 := Lib.hid (bel2 HB2.out hb3)
  have HU3 := Lib.hid (HU2.out.below hb3)
  have HS23 : Hid (w.heap.size ≤ w2.heap.size) := HB2.out.size
  have HXL : Hid (xs.length ≤ 1000000000000) := by
    show _ ≤ _
    have h := allF_len l m.toNat p
    rw [hall, List.length_map] at h
    exact Nat.le_trans h HLL.out
  obtain ⟨la, lc, rfl, hlx, _, _⟩ := own_slice ho3
  have HO3 := Lib.hid ho3; have HBD := Lib.hid hbod
  clear hall ho3 hbod hb3 cv
  go_wp2_with fail
  refine (refAll_any _ l p m w3 rfl HLL.out hm).mono ?_; rintro e w4 ⟨v4, rfl, ho4, hb4⟩
  rw [HALL.out, List.length_map] at ho4
  have HR4 := Lib.hid ((HR3.out.below hb4).more hb4.size)
  have HB4 := Lib.hid (bel2 HB3.out hb4)
  have HU4 := Lib.hid (HU3.out.below hb4)
  have HBD4 : Hid (∀ x ∈ xs, BodAt w2.heap.size x w4) := fun x hx => own_below (HBD.out x hx) hb4
  have HL4 := Lib.hid (((Rd.own HO3.out).below hb4).more hb4.size)
  obtain ⟨ma, mc, rfl, _, _, _⟩ := own_slice ho4
  have HM4 := Lib.hid (Rd.own ho4)
  rw [HALL.out]
  clear ho4 hb4
  go_wp2_with fail
  refine (same_any la ma xs.length xs.length lc mc w2.heap.size xs w4 rfl rfl HL4.out HM4.out HBD4.out HXL.out).mono ?_; rintro e w5 ⟨rfl, hb5⟩
  have HR5 := Lib.hid ((HR4.out.below hb5).more hb5.size)
  have HB5 := Lib.hid (bel2 HB4.out hb5)
  have HG5 : Hid (GetsI w (.slice va B.length vc :: xs.map Bod.v) la (xs.map Bod.v) w5.heap.size w5) := by
    refine ⟨HB5.out, fun v hv => ?_, (HL4.out.below hb5).more hb5.size⟩
    rcases List.mem_cons.1 hv with rfl | hv
    · exact HU4.out.below hb5
    · obtain ⟨x, hx, rfl⟩ := List.mem_map.1 hv
      exact (U8s.of (own_base (HBD4.out x hx) HS23.out)).below hb5
  have HSL : Hid (∀ v ∈ xs.map Bod.v, ∃ a n c, v = .slice a n c) := by
    intro v hv
    obtain ⟨x, hx, rfl⟩ := List.mem_map.1 hv
    obtain ⟨a, c, h, _⟩ := own_slice (HBD.out x hx)
    exact ⟨a, _, c, h⟩
  clear hb5
  go_wp2_with fail
  have hBL : B.length ≤ 1000000000000 := by
    rw [← HB.out]
    cases hg : gotF l p with
    | ok b => have := gotF_fits hg; show b.length ≤ _; omega
    | error e => exact Nat.zero_le _
  go_loopw [81] (fun i wr => ∃ j : Nat, j ≤ B.length ∧ i = .int .i64 j ∧ GetsI w (.slice va B.length vc :: xs.map Bod.v) la (xs.map Bod.v) w5.heap.size wr) (fun i _ => B.length - (intOf i).toNat)
  case atStart => exact ⟨0, Nat.zero_le _, rfl, HG5.out⟩
  case round =>
    obtain ⟨j, hj, rfl, hgi⟩ := hrel
    have HGI := Lib.hid hgi
    clear hgi
    by_cases hlt : j < B.length
    · obtain ⟨_, _, _, he, hcc⟩ := HGI.out.2.1 _ (List.mem_cons_self ..)
      injection he with e1 e2 e3
      subst e1 e2 e3
      obtain ⟨g, rfl, hg, ⟨y, hy⟩, hf⟩ := hcc j hlt
      have HST := Lib.hid (fun z => HGI.out.set HSL.out hg hy z)
      have HY : Hid ((((y + 1 : UInt8).toNat : Nat) : Int) = ((y.toNat : Int) + 1) % 256) := by show _ = _; simp
      have HTL := Lib.hid hlt
      clear hcc
      go_wp2_with fail
      rw [← HY.out]
      go_roundw
      case rel => exact ⟨j + 1, HTL.out, by go_num, HST.out _⟩
      case measure => have := HTL.out; simp [intOf]; omega
    · have : j = B.length := by omega
      subst this
      clear hlt hj
      have hXL := HXL.out
      go_wp2_with fail
      go_loopw [93] (fun i wr => ∃ j : Nat, j ≤ xs.length ∧ i = .int .i64 j ∧ GetsI w (.slice va B.length vc :: xs.map Bod.v) la (xs.map Bod.v) w5.heap.size wr) (fun i _ => xs.length - (intOf i).toNat)
      case atStart => exact ⟨0, Nat.zero_le _, rfl, HGI.out⟩
      case round =>
        obtain ⟨j, hj, rfl, hgi2⟩ := hrel
        clear HGI
        have HGI := Lib.hid hgi2
        clear hgi2
        by_cases hlt : j < xs.length
        · obtain ⟨lb, lo, rfl, hlb, hlc2⟩ := HGI.out.2.2 (by rw [List.length_map]; omega)
          obtain ⟨x, hx⟩ : ∃ x, xs[j] = x := ⟨_, rfl⟩
          have hxm : x ∈ xs := by rw [← hx]; exact List.getElem_mem _
          have qx : wr.cell? ⟨lb, lo + j, none⟩ = some x.v := hlc2 j _ (by rw [List.getElem?_map, List.getElem?_eq_getElem hlt, hx]; rfl)
          obtain ⟨xa, xc, hxv, _, _, _⟩ := own_slice (HBD.out x hxm)
          rw [hxv] at qx
          obtain ⟨nb, hnb⟩ : ∃ nb, nb = x.b.length := ⟨_, rfl⟩
          have hnbl : nb ≤ 1000000000000 := by
            have hin : x.b ∈ allF l m.toNat p := by rw [HALL.out]; exact List.mem_map.2 ⟨x, hxm, rfl⟩
            have := allF_small l m.toNat p x.b hin
            omega
          have HXM : Hid (Value.slice xa nb xc ∈ Value.slice va B.length vc :: xs.map Bod.v) := List.mem_cons_of_mem _ (List.mem_map.2 ⟨x, hxm, by rw [hnb]; exact hxv⟩)
          rw [← hnb] at qx
          have HLT := Lib.hid hlt
          clear hlc2 hx hxm hxv hnb
          go_wp2_with fail
          go_loopw [99] (fun i wr => ∃ t : Nat, t ≤ nb ∧ i = .int .i64 t ∧ GetsI w (.slice va B.length vc :: xs.map Bod.v) (some ⟨lb, lo, none⟩) (xs.map Bod.v) w5.heap.size wr) (fun i _ => nb - (intOf i).toNat)
          case atStart => exact ⟨0, Nat.zero_le _, rfl, HGI.out⟩
          case round =>
            obtain ⟨t, ht, rfl, hgi3⟩ := hrel
            have HGJ := Lib.hid hgi3
            clear hgi3
            by_cases htl : t < nb
            · obtain ⟨_, _, _, he, hcc⟩ := HGJ.out.2.1 _ HXM.out
              injection he with e1 e2 e3
              subst e1 e2 e3
              obtain ⟨g, rfl, hg, ⟨y, hy⟩, hf⟩ := hcc t htl
              have HST := Lib.hid (fun z => HGJ.out.set HSL.out hg hy z)
              have HY : Hid ((((y + 1 : UInt8).toNat : Nat) : Int) = ((y.toNat : Int) + 1) % 256) := by show _ = _; simp
              have HTL := Lib.hid htl
              clear hcc
              go_wp2_with fail
              rw [← HY.out]
              go_roundw
              case rel => exact ⟨t + 1, HTL.out, by go_num, HST.out _⟩
              case measure => have := HTL.out; simp [intOf]; omega
            · have : t = nb := by omega
              subst this
              go_wp2_with fail
              go_roundw
              case rel => exact ⟨j + 1, HLT.out, by go_num, HGJ.out⟩
              case measure => have := HLT.out; simp [intOf]; omega
        · have : j = xs.length := by omega
          subst this
          clear hlt hj
          go_wp2_with fail
          refine (fixed_any _).mono ?_; rintro e w6 ⟨rfl, hb6⟩
          have HB6 : Hid (Below w.heap.size w w6) := bel2 HGI.out.1 hb6
          have cv := run_string_of (w := w6) (l := l) N c ((HR.out.below HB6.out).more HB6.out.size) HN.out
          clear hb6
          go_wp2_with fail
          go_ret
          exact ⟨rfl, HB6.out⟩
end Go.Proofs.Ytdeplooijjfekaa
