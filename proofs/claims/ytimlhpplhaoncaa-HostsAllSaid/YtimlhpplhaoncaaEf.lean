import Derived.Test.YtimlhpplhaoncaaEc
namespace Go.Proofs.Ytimlhpplhaoncaa
open Go Go.RowKit Go.Sort Go.Shelf
set_option linter.unusedVariables false

/-! The law HostsGreat: as many hosts as one likes. -/
def nA (r : Nat) : UInt8 := UInt8.ofNat (97 + r / 8)
def nB (r : Nat) : UInt8 := UInt8.ofNat (97 + r % 8)
def nameT (r : Nat) : Tx := [nA r, nB r]
def hsp (r : Nat) : Sp := ⟨0, 0, 0, 0, ⟨#[nA r, nB r]⟩, ⟨#[]⟩, 0, 0⟩
def manyL (k n : Nat) : List Sp := (List.range n).map fun i => hsp (i % k)
theorem manyL_length (k n : Nat) : (manyL k n).length = n := by simp [manyL]
theorem manyL_step (k n : Nat) : manyL k (n + 1) = manyL k n ++ [hsp (n % k)] := by simp [manyL, List.range_succ]
theorem name_less : ∀ i, i < 60 → ∀ j, j < 60 → i < j → lexI (nameT i) (nameT j) = -1 := by decide +kernel
theorem many_hosts {k n : Nat} (hk : 0 < k) (hk60 : k ≤ 60) : hostsL (manyL k n) = (List.range (min n k)).map nameT := by
  symm
  refine Once.is ⟨?_, fun x => ?_⟩
  · refine List.pairwise_map.2 (List.pairwise_lt_range.imp_of_mem ?_)
    intro a b ha hb hab
    have := List.mem_range.1 ha; have := List.mem_range.1 hb
    exact name_less a (by omega) b (by omega) hab
  · have e : (manyL k n).map hostT = (List.range n).map fun i => nameT (i % k) := by
      simp [manyL, List.map_map, Function.comp_def, hsp, hostT, txt, nameT]
    rw [e]
    simp only [List.mem_map, List.mem_range]
    constructor
    · rintro ⟨j, hj, rfl⟩
      exact ⟨j, by omega, by rw [Nat.mod_eq_of_lt (by omega)]⟩
    · rintro ⟨i, hi, rfl⟩
      have h1 := Nat.mod_lt i hk
      have h2 := Nat.mod_le i k
      exact ⟨i % k, by omega, rfl⟩
theorem hsp_ok (r : Nat) : (hsp r).Ok := by
  refine ⟨?_, ?_, ?_, ?_, (show (2 : Nat) ≤ maxLen by decide), (show (0 : Nat) ≤ maxLen by decide), ?_, ?_⟩ <;> (first | (unfold U64; simp [hsp]) | (unfold U8; simp [hsp]) | (unfold I64; simp [hsp]))
theorem many_ok (k n : Nat) : ∀ s ∈ manyL k n, s.Ok := fun s hs => by
  obtain ⟨i, _, rfl⟩ := List.mem_map.1 hs
  exact hsp_ok _
def greatH (L : List Sp) : Bool := decide (512 < L.length) || decide (32 < (hostsL L).length)
theorem many_great {k n : Nat} (hk : 0 < k) (hk60 : k ≤ 60) : greatH (manyL k n) = (decide (512 < n) || decide (32 < min n k)) := by
  unfold greatH
  rw [manyL_length, many_hosts hk hk60]; simp
/-- What Great pays. -/
def GreatPay (F : Nat) : Prop := ∀ (a : Option Addr) (c : Nat) (L : List Sp) (w : World), Rd w w.heap.size a (flatL L) → L.length ≤ 100000 → (∀ s ∈ L, s.Ok) →
  Calls Try.prog F #[.slice a L.length c] w fun e w' => e = .returned (.bool (greatH L)) ∧ Below w.heap.size w w'
theorem info_sp13 : (Try.prog.info? 34).map (fun i => (i.zero, i.size, i.bytes)) = some (some (.agg #[.int .u64 0, .int .u64 0, .int .u64 0, .int .u8 0, .string ⟨#[]⟩, .string ⟨#[]⟩, .int .i64 0, .int .i64 0]), 8, 80) := by kernel_rfl
set_option maxHeartbeats 8000000 in
theorem law_great13 (hnm : NumsPay 11) (hgr : GreatPay 13) (n0 m0 : Int) (w : World) (h1 : 0 ≤ n0 ∧ n0 < 65536) (h2 : 0 ≤ m0 ∧ m0 < 65536) :
    Calls Try.prog 4 #[.int .u16 n0, .int .u16 m0] w fun e w' => e = .returned (.bool true) ∧ Below w.heap.size w w' := by
  obtain ⟨i0, hi0, hz0, hz1, hz2⟩ := info_parts info_sp13
  have HZ2 := Lib.hid hz2; clear hz2
  have HNM := Lib.hid hnm; have HGR := Lib.hid hgr; clear hnm hgr
  obtain ⟨n1, rfl⟩ : ∃ n1 : Nat, n0 = (n1 : Int) := ⟨n0.toNat, by omega⟩
  obtain ⟨m1, rfl⟩ : ∃ m1 : Nat, m0 = (m1 : Int) := ⟨m0.toNat, by omega⟩
  obtain ⟨N, hN⟩ : ∃ N, N = n1 % 700 := ⟨_, rfl⟩
  obtain ⟨M, hM⟩ : ∃ M, M = m1 % 60 := ⟨_, rfl⟩
  have hN7 : N < 700 := by omega
  have hM6 : M < 60 := by omega
  have r1 : Int.tmod (n1 : Int) 700 = (N : Int) := by rw [hN]; rfl
  have r2 : Int.tmod (m1 : Int) 60 = (M : Int) := by rw [hM]; rfl
  have r3 : (n1 : Int) % 700 = (N : Int) := by omega
  have r4 : (m1 : Int) % 60 = (M : Int) := by omega
  have r5 : IntKind.i64.wrap (N : Int) = (N : Int) := IntWalk.i64_in _ (by omega)
  have r6 : IntKind.i64.wrap (M : Int) = (M : Int) := IntWalk.i64_in _ (by omega)
  have r7 : IntKind.i64.wrap (1 + (M : Int)) = 1 + (M : Int) := IntWalk.i64_in _ (by omega)
  clear hN hM
  go_enter Try.func4, Try.ntmps4
  go_wp2_with fail
  clear r1 r2 r3 r4 r5 r6 r7
  go_loopw [5, 15] (fun v i wr => ∃ (n : Nat) (v' : Value), n ≤ N ∧ i = .int .i64 n ∧ v' = v ∧ wr.ownsRow w.heap.size 34 8 v' n (flatL (manyL (M + 1) n)) ∧ Below w.heap.size w wr) (fun _ i _ => N - (intOf i).toNat)
  case atStart => exact ⟨0, _, Nat.zero_le _, rfl, rfl, ⟨rfl, .inl ⟨rfl, rfl⟩⟩, Below.refl _ _⟩
  case round =>
    obtain ⟨n, v, hn, rfl, hv, hown, hb⟩ := hrel
    subst hv
    obtain ⟨va, vc, rfl, _, _, _⟩ := own_slice hown
    have HO := Lib.hid hown; have HB := Lib.hid hb; clear hown hb
    generalize wr = W at *
    by_cases hlt : n < N
    · have HST := Lib.hid (manyL_step (M + 1) n)
      obtain ⟨r, hr⟩ : ∃ r, r = n % (M + 1) := ⟨_, rfl⟩
      rw [← hr] at HST
      have hr60 : r < 60 := by rw [hr]; have := Nat.mod_lt n (show M + 1 > 0 by omega); omega
      have t1 : Int.tmod (n : Int) (1 + (M : Int)) = (r : Int) := by
        rw [hr, show (1 : Int) + (M : Int) = ((M + 1 : Nat) : Int) by omega]; rfl
      have t1' : (n : Int) % (1 + (M : Int)) = (r : Int) := by
        rw [hr, show (1 : Int) + (M : Int) = ((M + 1 : Nat) : Int) by omega]; rfl
      have t2 : Int.tdiv (r : Int) 8 = ((r / 8 : Nat) : Int) := rfl
      have t2' : (r : Int) / 8 = ((r / 8 : Nat) : Int) := rfl
      have t3 : Int.tmod (r : Int) 8 = ((r % 8 : Nat) : Int) := rfl
      have t3' : (r : Int) % 8 = ((r % 8 : Nat) : Int) := rfl
      have hA : (nA r).toNat = 97 + r / 8 := by unfold nA; rw [UInt8.toNat_ofNat']; omega
      have hBb : (nB r).toNat = 97 + r % 8 := by unfold nB; rw [UInt8.toNat_ofNat']; omega
      obtain ⟨q, hq⟩ : ∃ q, q = r / 8 := ⟨_, rfl⟩
      obtain ⟨s, hs⟩ : ∃ s, s = r % 8 := ⟨_, rfl⟩
      rw [← hq] at t2 t2' hA
      rw [← hs] at t3 t3' hBb
      have hq8 : q < 8 := by rw [hq]; omega
      have hs8 : s < 8 := by rw [hs]; omega
      have c5 : IntKind.i64.wrap (q : Int) = (q : Int) := IntWalk.i64_in _ (by omega)
      have c6 : IntKind.i64.wrap (s : Int) = (s : Int) := IntWalk.i64_in _ (by omega)
      have c1 : IntKind.i64.wrap (97 + (q : Int)) = 97 + (q : Int) := IntWalk.i64_in _ (by omega)
      have c2 : IntKind.i64.wrap (97 + (s : Int)) = 97 + (s : Int) := IntWalk.i64_in _ (by omega)
      have c3 : IntKind.u8.wrap (97 + (q : Int)) = ((nA r).toNat : Int) := by rw [hA]; rw [IntWalk.u8_in _ ⟨by omega, by omega⟩]; omega
      have c4 : IntKind.u8.wrap (97 + (s : Int)) = ((nB r).toNat : Int) := by rw [hBb]; rw [IntWalk.u8_in _ ⟨by omega, by omega⟩]; omega
      have z1 : ¬ (1 + (M : Int) = 0) := by omega
      have z2 : ((1 + (M : Int)) == 0) = false := by rw [beq_eq_false_iff_ne]; exact z1
      have hcv : ∀ V : World, Sem.run Try.prog (convert 31 9 (.slice (some ⟨V.heap.size, 0, none⟩) 2 2)) (V.alloc (.cells #[.int .u8 ((nA r).toNat : Int), .int .u8 ((nB r).toNat : Int)] 5)) = .ok (.string ⟨#[nA r, nB r]⟩) (V.alloc (.cells #[.int .u8 ((nA r).toNat : Int), .int .u8 ((nB r).toNat : Int)] 5)) := fun V =>
        run_string_rd (P := Try.prog) _ 31 9 5 Try.underlying31 Try.underlying5 Try.underlying9 2 2 (l := [nA r, nB r]) (lit_rd V #[.int .u8 ((nA r).toNat : Int), .int .u8 ((nB r).toNat : Int)] 5) rfl
      have hcv2 : ∀ V : World, Sem.run Try.prog (convert 31 9 (.slice (some ⟨V.heap.size, 0, none⟩) 2 2)) (V.alloc (.cells #[.int .u8 ((nA r).toNat : Int), .int .u8 ((nB r).toNat : Int)] 5)).drew = .ok (.string ⟨#[nA r, nB r]⟩) (V.alloc (.cells #[.int .u8 ((nA r).toNat : Int), .int .u8 ((nB r).toNat : Int)] 5)).drew := fun V =>
        run_string_rd (P := Try.prog) _ 31 9 5 Try.underlying31 Try.underlying5 Try.underlying9 2 2 (l := [nA r, nB r]) ((lit_rd V #[.int .u8 ((nA r).toNat : Int), .int .u8 ((nB r).toNat : Int)] 5).below (Below_drew (Below.refl _ _))) rfl
      have i3 : (n : Int) < (N : Int) := by omega
      clear hr hA hBb hq hs
      go_wp2_with fail
      go_region_law (first
        | (refine step_append_rd _ rfl (.tmp 18) (.tmp 34) 22 rfl w.heap.size 34 i0 _ 8 80 Try.underlying22 hi0 hz0 hz1 HZ2.out rfl (by omega) (.slice va n vc) n (flatL (manyL (M + 1) n)) (by simp [Act.eval]) ((HO.out.drew.alloc _).alloc _) _ _ 1 1 (hsp r).c.toList (by simp [Act.eval]) rfl (lit_at (W.drew.alloc (.cells #[.int .u8 ((nA r).toNat : Int), .int .u8 ((nB r).toNat : Int)] 5)) (hsp r).c _ (W.heap.size + 1) (by simp)) (by intro u hu; simp [hsp, Sp.c] at hu; rcases hu with rfl | rfl | rfl | rfl | rfl <;> rfl) (by unfold maxLen; omega) (by omega) (by have := HB.out.size; simp; omega) ?_
           intro v4 w4 hown4 hg4 _
           have HO4 := Lib.hid hown4
           have HB4 := Lib.hid ((((Below_drew HB.out).alloc HB.out.size (.cells #[.int .u8 ((nA r).toNat : Int), .int .u8 ((nB r).toNat : Int)] 5)).alloc (by have := HB.out.size; simp; omega) _).grown hg4 (by have := HB.out.size; simp; omega) (fun g hg => (own_shape HO.out hg).1))
           clear hown4 hg4))
      all_goals
        clear hcv hcv2 t1 t1' t2 t2' t3 t3' c1 c2 c3 c4 c5 c6
        go_wp2_with fail
        go_roundw
        case rel => exact ⟨n + 1, _, by omega, by go_num, rfl, by rw [HST.out, flatL_append]; have := HO4.out; rwa [show flatL [hsp r] = (hsp r).c.toList from by simp [flatL]], HB4.out⟩
        case measure => simp [intOf]; omega
    · obtain rfl : n = N := by omega
      have HGB : Hid (greatH (manyL (M + 1) n) = (decide (512 < n) || decide (32 < min n (M + 1)))) := many_great (by omega) (by omega)
      have HML := Lib.hid (manyL_length (M + 1) n)
      have hcall : ∀ w', Rd w' w'.heap.size va (flatL (manyL (M + 1) n)) → Calls Try.prog 13 #[.slice va n vc] w' fun e w'' => e = .returned (.bool (decide (512 < n) || decide (32 < min n (M + 1)))) ∧ Below w'.heap.size w' w'' := fun w' h => by
        have := HGR.out va vc (manyL (M + 1) n) w' h (by rw [HML.out]; omega) (many_ok _ _)
        rw [HML.out, HGB.out] at this; exact this
      have HC := Lib.hid hcall; clear hcall
      by_cases h5 : 512 < n
      · have e1 : decide (512 < n) = true := decide_eq_true h5
        have e2 : decide (512 < (n : Int)) = true := decide_eq_true (by omega)
        rw [e1] at HC
        go_wp2_with (first
          | (go_at_call 7; refine (fixed13_any HNM.out _).mono ?_; rintro e w5 ⟨rfl, hb5⟩
             have HO5 := Lib.hid (own_below HO.out hb5); have HB5 := Lib.hid (bel2 HB.out hb5); clear hb5)
          | (go_at_call 13; refine (HC.out _ (Rd.own HO5.out)).mono ?_; rintro e w6 ⟨rfl, hb6⟩
             have HB6 := Lib.hid (bel2 HB5.out hb6); clear hb6))
        go_ret
        exact ⟨ret_bool (by simp), HB6.out⟩
      · have e1 : decide (512 < n) = false := decide_eq_false h5
        have e2 : decide (512 < (n : Int)) = false := decide_eq_false (by omega)
        rw [e1] at HC
        by_cases h6 : n ≤ M + 1
        · have hm : min n (M + 1) = n := Nat.min_eq_left h6
          rw [hm] at HC
          have g1 : (n : Int) ≤ 1 + (M : Int) := by omega
          have g2 : min (n : Int) (1 + (M : Int)) = (n : Int) := by omega
          cases hd : decide (32 < n) with
          | true =>
            have d2 : decide (32 < (n : Int)) = true := decide_eq_true (by have := of_decide_eq_true hd; omega)
            rw [hd] at HC
            go_wp2_with (first
              | (go_at_call 7; refine (fixed13_any HNM.out _).mono ?_; rintro e w5 ⟨rfl, hb5⟩
                 have HO5 := Lib.hid (own_below HO.out hb5); have HB5 := Lib.hid (bel2 HB.out hb5); clear hb5)
              | (go_at_call 13; refine (HC.out _ (Rd.own HO5.out)).mono ?_; rintro e w6 ⟨rfl, hb6⟩
                 have HB6 := Lib.hid (bel2 HB5.out hb6); clear hb6))
            go_ret
            exact ⟨ret_bool (by simp), HB6.out⟩
          | false =>
            have d2 : decide (32 < (n : Int)) = false := decide_eq_false (by have := of_decide_eq_false hd; omega)
            rw [hd] at HC
            go_wp2_with (first
              | (go_at_call 7; refine (fixed13_any HNM.out _).mono ?_; rintro e w5 ⟨rfl, hb5⟩
                 have HO5 := Lib.hid (own_below HO.out hb5); have HB5 := Lib.hid (bel2 HB.out hb5); clear hb5)
              | (go_at_call 13; refine (HC.out _ (Rd.own HO5.out)).mono ?_; rintro e w6 ⟨rfl, hb6⟩
                 have HB6 := Lib.hid (bel2 HB5.out hb6); clear hb6))
            go_ret
            exact ⟨ret_bool (by simp), HB6.out⟩
        · have hm : min n (M + 1) = M + 1 := Nat.min_eq_right (by omega)
          rw [hm] at HC
          have g1 : ¬ (n : Int) ≤ 1 + (M : Int) := by omega
          have g2 : min (n : Int) (1 + (M : Int)) = 1 + (M : Int) := by omega
          cases hd : decide (32 < M + 1) with
          | true =>
            have d2 : decide (32 < 1 + (M : Int)) = true := decide_eq_true (by have := of_decide_eq_true hd; omega)
            rw [hd] at HC
            go_wp2_with (first
              | (go_at_call 7; refine (fixed13_any HNM.out _).mono ?_; rintro e w5 ⟨rfl, hb5⟩
                 have HO5 := Lib.hid (own_below HO.out hb5); have HB5 := Lib.hid (bel2 HB.out hb5); clear hb5)
              | (go_at_call 13; refine (HC.out _ (Rd.own HO5.out)).mono ?_; rintro e w6 ⟨rfl, hb6⟩
                 have HB6 := Lib.hid (bel2 HB5.out hb6); clear hb6))
            go_ret
            exact ⟨ret_bool (by simp), HB6.out⟩
          | false =>
            have d2 : decide (32 < 1 + (M : Int)) = false := decide_eq_false (by have := of_decide_eq_false hd; omega)
            rw [hd] at HC
            go_wp2_with (first
              | (go_at_call 7; refine (fixed13_any HNM.out _).mono ?_; rintro e w5 ⟨rfl, hb5⟩
                 have HO5 := Lib.hid (own_below HO.out hb5); have HB5 := Lib.hid (bel2 HB.out hb5); clear hb5)
              | (go_at_call 13; refine (HC.out _ (Rd.own HO5.out)).mono ?_; rintro e w6 ⟨rfl, hb6⟩
                 have HB6 := Lib.hid (bel2 HB5.out hb6); clear hb6))
            go_ret
            exact ⟨ret_bool (by simp), HB6.out⟩
end Go.Proofs.Ytimlhpplhaoncaa

