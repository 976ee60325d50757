/-
  What code.check, code.Put and code.Look come to.
-/
import Derived.Test.YtpdiilfpbkmebaaCodeSums
import Derived.Test.YtpdiilfpbkmebaaSliceW
import Derived.Test.YtpdiilfpbkmebaaVoteOpen
namespace Go.Proofs.Ytpdiilfpbkmebaa
open Go.RowKit

theorem cin_any (p : Int) (x : Option Addr) (n cap : Nat) (xs : List Int) (w : World) (B : Nat) (hx : Reads .u64 w B x xs) (hn : xs.length = n) (hl : n ≤ 140737488355328) :
    Calls Try.prog 22 #[.int .u64 p, .slice x n cap] w fun e w' => e = .returned (.bool (Cd.inp p xs)) ∧ w = w' := by
  subst hn
  by_cases h0 : 0 < xs.length
  · obtain ⟨b, off, rfl, -, hc⟩ := hx h0
    exact in_row p b off xs.length cap (fun j => xs.getD j 0) w (by omega) hc
  · obtain rfl : xs = [] := List.length_eq_zero_iff.1 (by omega)
    exact in_nil p x cap w

theorem check_no (p : Int) (x : Option Addr) (n cap : Nat) (w : World) (h : Fp.kn p = false) :
    Calls Try.prog 35 #[.int .u64 p, .slice x n cap] w fun e w' => e = .returned (.int .i64 2) ∧ w = w' := by
  have H := Lib.hid h; clear h
  go_enter Try.func35, Try.ntmps35
  go_wp2_with (go_at_call 21; refine (known_no p _ H.out).mono ?_; rintro e w' ⟨rfl, rfl⟩)
  go_ret
  exact ⟨rfl, rfl⟩

theorem check_few (p : Int) (x : Option Addr) (n cap : Nat) (w : World) (h : Fp.kn p = true) (hn : n < 7) :
    Calls Try.prog 35 #[.int .u64 p, .slice x n cap] w fun e w' => e = .returned (.int .i64 6) ∧ w = w' := by
  have H := Lib.hid h; clear h
  have hd : decide ((n : Int) ≤ 6) = true := by simp; omega
  go_enter Try.func35, Try.ntmps35
  go_wp2_with (go_at_call 21; refine (known_yes p _ H.out).mono ?_; rintro e w' ⟨rfl, rfl⟩)
  go_ret
  exact ⟨rfl, rfl⟩

theorem check_many (p : Int) (x : Option Addr) (n cap : Nat) (w : World) (h : Fp.kn p = true) (hn : 4102 < n) :
    Calls Try.prog 35 #[.int .u64 p, .slice x n cap] w fun e w' => e = .returned (.int .i64 6) ∧ w = w' := by
  have H := Lib.hid h; clear h
  have hd : decide ((n : Int) ≤ 6) = false := by simp; omega
  have hd2 : decide ((4102 : Int) < (n : Int)) = true := by simp; omega
  go_enter Try.func35, Try.ntmps35
  go_wp2_with (go_at_call 21; refine (known_yes p _ H.out).mono ?_; rintro e w' ⟨rfl, rfl⟩)
  go_ret
  exact ⟨rfl, rfl⟩

theorem check_ok (p : Int) (x : Option Addr) (n cap : Nat) (w : World) (h : Fp.kn p = true) (h1 : 7 ≤ n) (h2 : n ≤ 4102) :
    Calls Try.prog 35 #[.int .u64 p, .slice x n cap] w fun e w' => e = .returned (.int .i64 0) ∧ w = w' := by
  have H := Lib.hid h; clear h
  have hd : decide ((n : Int) ≤ 6) = false := by simp; omega
  have hd2 : decide ((4102 : Int) < (n : Int)) = false := by simp; omega
  go_enter Try.func35, Try.ntmps35
  go_wp2_with (go_at_call 21; refine (known_yes p _ H.out).mono ?_; rintro e w' ⟨rfl, rfl⟩)
  go_ret
  exact ⟨rfl, rfl⟩

theorem ccheck_any (p : Int) (x : Option Addr) (n cap : Nat) (w : World) :
    Calls Try.prog 35 #[.int .u64 p, .slice x n cap] w fun e w' => e = .returned (.int .i64 (Cd.lnE p n)) ∧ w = w' := by
  unfold Cd.lnE
  cases h : Fp.kn p
  · rw [if_pos rfl]; exact check_no p x n cap w h
  · rw [if_neg (by decide)]
    by_cases h1 : n < 7 ∨ 4102 < n
    · rw [if_pos h1]
      rcases h1 with h1 | h1
      · exact check_few p x n cap w h h1
      · exact check_many p x n cap w h h1
    · rw [if_neg h1]; exact check_ok p x n cap w h (by omega) (by omega)

set_option maxHeartbeats 2000000 in
theorem kput_sums (p : Int) (x : Option Addr) (n cap : Nat) (w : World) (a b er : Int) (her : er = 1 ∨ er = 2) (hS : Calls Try.prog 11 #[.int .u64 p, .slice x n cap] w (RetAr w a b er)) :
    Calls Try.prog 13 #[.int .u64 p, .slice x n cap] w (RetP w [] er) := by
  have HS := Lib.hid hS; clear hS
  unfold RetAr arV at HS
  rcases her with rfl | rfl
  all_goals
    go_enter Try.func13, Try.ntmps13
    go_wp2_with (go_at_call 11; refine HS.out.mono ?_; rintro e w1 ⟨rfl, hB⟩; have B1 := Lib.hid hB; clear hB)
    go_ret2
    exact ⟨_, rfl, Owns.nil, below_al B1.out _⟩

set_option maxHeartbeats 2000000 in
theorem kput_none (p : Int) (x : Option Addr) (cap : Nat) (w : World) (a b : Int) (hS : Calls Try.prog 11 #[.int .u64 p, .slice x 0 cap] w (RetAr w a b 0)) :
    Calls Try.prog 13 #[.int .u64 p, .slice x 0 cap] w (RetP w [] 1) := by
  have HS := Lib.hid hS; clear hS
  unfold RetAr arV at HS
  go_enter Try.func13, Try.ntmps13
  go_wp2_with (go_at_call 11; refine HS.out.mono ?_; rintro e w1 ⟨rfl, hB⟩; have B1 := Lib.hid hB; clear hB)
  go_ret2
  exact ⟨_, rfl, Owns.nil, below_al B1.out _⟩

set_option maxHeartbeats 2000000 in
theorem kput_word (p : Int) (x : Option Addr) (n cap : Nat) (xs : List Int) (w : World) (a b : Int) (hx : Reads .u64 w w.heap.size x xs) (hn : xs.length = n) (h0 : 0 < n) (hl : n ≤ 4096) (hi : Cd.inp p xs = false) (hS : Calls Try.prog 11 #[.int .u64 p, .slice x n cap] w (RetAr w a b 0)) :
    Calls Try.prog 13 #[.int .u64 p, .slice x n cap] w (RetP w [] 7) := by
  have HS := Lib.hid hS; clear hS
  unfold RetAr arV at HS
  have HI := Lib.hid (fun W (hW : Below w.heap.size w W) => cin_any p x n cap xs W w.heap.size (hx.below hW) hn (by omega))
  rw [hi] at HI
  have hz : ((n : Int) == 0) = false := by rw [beq_eq_false_iff_ne]; omega
  clear hx hn hi
  go_enter Try.func13, Try.ntmps13
  go_wp2_with (first
    | (go_at_call 11; refine HS.out.mono ?_; rintro e w1 ⟨rfl, hB⟩; have B1 := Lib.hid hB; clear hB)
    | (go_at_call 22; refine (HI.out _ (below_al B1.out _)).mono ?_; rintro e w2 ⟨rfl, rfl⟩))
  go_ret2
  exact ⟨_, rfl, Owns.nil, below_al B1.out _⟩

theorem pair_cells (w : World) (v1 v2 : Value) (t : TypeId) : (w.alloc (.cells #[v1, v2] t)).cell? ⟨w.heap.size, 0, none⟩ = some v1 ∧ (w.alloc (.cells #[v1, v2] t)).cell? ⟨w.heap.size, 1, none⟩ = some v2 :=
  ⟨by rw [cell_of_row _ _ 0 _ _ _ (heap_alloc_new w _)]; rfl, by rw [cell_of_row _ _ 1 _ _ _ (heap_alloc_new w _)]; rfl⟩

set_option maxRecDepth 100000 in
set_option maxHeartbeats 4000000 in
theorem kput_ok (p : Int) (x : Option Addr) (n cap : Nat) (xs : List Int) (w : World) (a b : Int) (hx : Reads .u64 w w.heap.size x xs) (hn : xs.length = n) (h0 : 0 < n) (hl : n ≤ 4096) (hi : Cd.inp p xs = true) (hS : Calls Try.prog 11 #[.int .u64 p, .slice x n cap] w (RetAr w a b 0)) :
    Calls Try.prog 13 #[.int .u64 p, .slice x n cap] w (RetP w (xs ++ thrice [a, b]) 0) := by
  have HS := Lib.hid hS; clear hS
  unfold RetAr arV at HS
  have HI := Lib.hid (fun W (hW : Below w.heap.size w W) => cin_any p x n cap xs W w.heap.size (hx.below hW) hn (by omega))
  rw [hi] at HI
  have hz : ((n : Int) == 0) = false := by rw [beq_eq_false_iff_ne]; omega
  have HP := Lib.hid (fun W => put_any (some ⟨W.heap.size, 0, none⟩) 2 2 [a, b] (W.alloc (.cells #[.int .u64 a, .int .u64 b] 25)) ((Ar.new W a b).reads (by simp)) rfl)
  have e1 : ptL [a, b] = thrice [a, b] := rfl
  have e2 : ptE [a, b] = 0 := rfl
  rw [e1, e2] at HP
  have HX := Lib.hid (fun W (hW : Below w.heap.size w W) => (hx.below hW).toSrc (cap := cap) hn h0)
  have HC := Lib.hid (fun W B c c2 x2 h1 h2 s1 s2 => concatW_any B c n cap 6 c2 x x2 xs (thrice [a, b]) W h1 h2 s1 s2 h0 (by omega) (by omega))
  clear hx hn hi e1 e2
  go_enter Try.func13, Try.ntmps13
  go_wp2_with (first
    | (go_at_call 11; refine HS.out.mono ?_; rintro e w1 ⟨rfl, hB⟩; have B1 := Lib.hid hB; clear hB)
    | (go_at_call 22; refine (HI.out _ (below_al B1.out _)).mono ?_; rintro e w2 ⟨rfl, rfl⟩)
    | (go_at_call 31; refine (HP.out w1).mono ?_; rintro e w3 hr; obtain ⟨x3, c3, rfl, hO, -, -, hB⟩ := hr.open (n := 6) rfl; have B3 := Lib.hid (below_on' (below_al B1.out _) hB); have O3 := Lib.hid (hO.source rfl); clear hr hO hB)
    | (go_at_call 32; refine (HC.out (w3.alloc (.cells #[.slice x n cap, .slice x3 6 c3] 23)) w3.heap.size 2 c3 x3 (pair_cells _ _ _ _).1 (pair_cells _ _ _ _).2 (HX.out _ (below_al B3.out _)) (O3.out.keep (below_al (Below.refl _ _) _))).mono ?_; rintro e w4 ⟨v4, rfl, hO4, hB4⟩; have O4 := Lib.hid hO4; have B4 := Lib.hid hB4; clear hO4 hB4))
  go_ret2
  exact ⟨_, rfl, O4.out.mono (below_al B3.out _).size, below_on' (below_al B3.out _) B4.out⟩

/-- Put, of whatever words. -/
theorem kput_any (p : Int) (x : Option Addr) (n cap : Nat) (xs : List Int) (w : World) (hx : Reads .u64 w w.heap.size x xs) (hn : xs.length = n) (hw : Words xs) :
    Calls Try.prog 13 #[.int .u64 p, .slice x n cap] w (RetP w (Cd.kpL p xs) (Cd.kpE p xs)) := by
  have hS := csums_any p x n cap xs w hx hn hw
  subst hn
  have hL : Cd.kpE p xs ≠ 0 → Cd.kpL p xs = [] := fun e => by unfold Cd.kpL; rw [if_neg e]
  cases h : Fp.kn p
  · have e : Cd.smE p xs.length = 2 := by unfold Cd.smE; rw [if_pos h]
    have e1 : Cd.kpE p xs = 2 := by unfold Cd.kpE; rw [if_pos h]
    rw [e] at hS
    rw [hL (by rw [e1]; decide), e1]
    exact kput_sums p x _ cap w _ _ 2 (.inr rfl) hS
  · have h' : ¬ Fp.kn p = false := by rw [h]; decide
    by_cases h2 : 4096 < xs.length
    · have e : Cd.smE p xs.length = 1 := by unfold Cd.smE; rw [if_neg h', if_pos h2]
      have e1 : Cd.kpE p xs = 1 := by unfold Cd.kpE; rw [if_neg h', if_pos h2]
      rw [e] at hS
      rw [hL (by rw [e1]; decide), e1]
      exact kput_sums p x _ cap w _ _ 1 (.inl rfl) hS
    · have e : Cd.smE p xs.length = 0 := by unfold Cd.smE; rw [if_neg h', if_neg h2]
      have e2 : Cd.sm0 p xs = Cd.s0 p xs := by unfold Cd.sm0; rw [if_pos e]
      have e3 : Cd.sm1 p xs = Cd.s1 p xs := by unfold Cd.sm1; rw [if_pos e]
      rw [e, e2, e3] at hS
      by_cases h0 : xs.length = 0
      · have e1 : Cd.kpE p xs = 1 := by unfold Cd.kpE; rw [if_neg h', if_neg h2, if_pos h0]
        rw [hL (by rw [e1]; decide), e1]
        rw [h0] at hS ⊢
        exact kput_none p x cap w _ _ hS
      · cases hi : Cd.inp p xs
        · have e1 : Cd.kpE p xs = 7 := by unfold Cd.kpE; rw [if_neg h', if_neg h2, if_neg h0, if_neg (by rw [hi]; decide)]
          rw [hL (by rw [e1]; decide), e1]
          exact kput_word p x _ cap xs w _ _ hx rfl (by omega) (by omega) hi hS
        · have e1 : Cd.kpE p xs = 0 := by unfold Cd.kpE; rw [if_neg h', if_neg h2, if_neg h0, if_pos hi]
          have e4 : Cd.kpL p xs = xs ++ thrice [Cd.s0 p xs, Cd.s1 p xs] := by unfold Cd.kpL; rw [if_pos e1]; rfl
          rw [e4, e1]
          exact kput_ok p x _ cap xs w _ _ hx rfl (by omega) (by omega) hi hS

/-- What kpL is: a codeword, or nothing. -/
theorem kpL_len (p : Int) (xs : List Int) : (Cd.kpL p xs).length ≤ 4102 := by
  unfold Cd.kpL
  split
  · rename_i h
    obtain ⟨-, -, h2, -⟩ := Cd.kpE_zero.1 h
    rw [Cd.cw_len]; omega
  · simp

theorem klook_no (p : Int) (x : Option Addr) (n cap : Nat) (w : World) (er : Int) (her : er = 2 ∨ er = 6) (hC : Cd.lnE p n = er) :
    Calls Try.prog 15 #[.int .u64 p, .slice x n cap] w (RetB (.tuple #[.bool false, .int .i64 er]) w) := by
  have HC := Lib.hid (ccheck_any p x n cap w)
  rw [hC] at HC
  clear hC
  rcases her with rfl | rfl
  all_goals
    go_enter Try.func15, Try.ntmps15
    go_wp2_with (go_at_call 35; refine HC.out.mono ?_; rintro e w' ⟨rfl, rfl⟩)
    go_ret2
    exact ⟨rfl, Below.refl _ _⟩

set_option maxRecDepth 100000 in
set_option maxHeartbeats 4000000 in
theorem klook_ok (p : Int) (x : Option Addr) (n cap : Nat) (xs : List Int) (w : World) (hx : Reads .u64 w w.heap.size x xs) (hn : xs.length = n) (hc : n ≤ cap) (hcm : cap ≤ maxLen) (hw : Words xs) (hC : Cd.lnE p n = 0) :
    Calls Try.prog 15 #[.int .u64 p, .slice x n cap] w (RetB (.tuple #[.bool (Cd.lkB p xs), .int .i64 0]) w) := by
  obtain ⟨-, h7, h8⟩ := Cd.lnE_zero.1 hC
  have hcm' : cap ≤ 9223372036854775807 := hcm
  have HC := Lib.hid (ccheck_any p x n cap w)
  rw [hC] at HC
  obtain ⟨m, hm⟩ : ∃ m : Nat, m = n - 6 := ⟨_, rfl⟩
  have hz : (n : Int) - 6 = (m : Int) := by omega
  have hmn : m ≤ n := by omega
  have hmc : m ≤ cap := by omega
  have hhd : Cd.hd xs = xs.take m := by unfold Cd.hd; rw [hn, ← hm]
  have hwt : Words (xs.take m) := fun j => by
    by_cases hj : j < m
    · rw [List.getD_eq_getElem?_getD, List.getElem?_take, if_pos hj, ← List.getD_eq_getElem?_getD]; exact hw j
    · rw [List.getD_eq_getElem?_getD, List.getElem?_take, if_neg hj]; simp
  have HP := Lib.hid (kput_any p x m cap (xs.take m) w (hx.take m) (by rw [List.length_take]; omega) hwt)
  have hlk : Cd.lkB p xs = (decide (Cd.kpE p (xs.take m) = 0) && decide (xs = Cd.cw p (xs.take m))) := by
    unfold Cd.lkB; rw [hhd, decide_eq_true (by rw [hn]; exact hC)]; rfl
  rw [hlk]
  by_cases he : Cd.kpE p (xs.take m) = 0
  · have e4 : Cd.kpL p (xs.take m) = Cd.cw p (xs.take m) := by unfold Cd.kpL; rw [if_pos he]
    rw [he, e4] at HP
    have hlen : (Cd.cw p (xs.take m)).length = n := by rw [Cd.cw_len, List.length_take]; omega
    have HQ := Lib.hid (fun W y c (hW : Below w.heap.size w W) (hy : Reads .u64 W W.heap.size y (Cd.cw p (xs.take m))) => equalW_any x y n n cap c xs (Cd.cw p (xs.take m)) W W.heap.size (hx.later hW) hy hn hlen (by omega) (by omega))
    rw [decide_eq_true he]
    have HLen := Lib.hid hlen
    generalize Cd.cw p (xs.take m) = ys at HP HQ HLen ⊢
    clear hx hn hm hlk hw hwt hhd he e4 hlen hC
    go_enter Try.func15, Try.ntmps15
    go_wp2_with (first
      | (go_at_call 35; refine HC.out.mono ?_; rintro e w' ⟨rfl, rfl⟩)
      | (go_at_call 13; refine HP.out.mono ?_; rintro e w3 hr; obtain ⟨x3, c3, rfl, hO, -, -, hB⟩ := hr.open HLen.out; have B3 := Lib.hid hB; have R3 := Lib.hid hO.rd; clear hr hO hB)
      | (go_at_call 36; refine (HQ.out w3 x3 c3 B3.out R3.out).mono ?_; rintro e w4 ⟨rfl, nq, rfl⟩))
    go_ret2
    exact ⟨by simp, below_draws B3.out _⟩
  · rw [decide_eq_false he]
    have hne : (Cd.kpE p (xs.take m) == 0) = false := by rw [beq_eq_false_iff_ne]; exact he
    have HLen : Hid ((Cd.kpL p (xs.take m)).length = 0) := Lib.hid (by unfold Cd.kpL; rw [if_neg he]; rfl)
    generalize Cd.kpE p (xs.take m) = er at HP hne
    generalize Cd.kpL p (xs.take m) = ys at HP HLen
    clear hx hn hm hlk hw hwt hhd he hC
    go_enter Try.func15, Try.ntmps15
    go_wp2_with (first
      | (go_at_call 35; refine HC.out.mono ?_; rintro e w' ⟨rfl, rfl⟩)
      | (go_at_call 13; refine HP.out.mono ?_; rintro e w3 hr; obtain ⟨x3, c3, rfl, hO, -, -, hB⟩ := hr.open HLen.out; have B3 := Lib.hid hB; clear hr hO hB))
    go_ret2
    exact ⟨rfl, B3.out⟩

/-- Look, of whatever words. -/
theorem klook_any (p : Int) (x : Option Addr) (n cap : Nat) (xs : List Int) (w : World) (hx : Reads .u64 w w.heap.size x xs) (hn : xs.length = n) (hc : n ≤ cap) (hcm : cap ≤ maxLen) (hw : Words xs) :
    Calls Try.prog 15 #[.int .u64 p, .slice x n cap] w (RetB (.tuple #[.bool (Cd.lkB p xs), .int .i64 (Cd.lnE p n)]) w) := by
  rcases Cd.lnE_cases p n with h | h | h
  · rw [h]; exact klook_ok p x n cap xs w hx hn hc hcm hw h
  · rw [Cd.lk_no (by rw [hn, h]; decide), h]; exact klook_no p x n cap w 2 (.inl rfl) h
  · rw [Cd.lk_no (by rw [hn, h]; decide), h]; exact klook_no p x n cap w 6 (.inr rfl) h

end Go.Proofs.Ytpdiilfpbkmebaa
