/-
  The laws of layer 4, walked: FactorTimes.
-/
import Derived.Test.YtgiahljjdpbflaaCheckFac
namespace Go.Proofs.Ytgiahljjdpbflaa
open Go.RowKit

theorem i64_of {n : Int} (h : (Lit.int .i64 n).wf = true) : -9223372036854775808 ≤ n ∧ n < 9223372036854775808 := by
  have := bounds_i64 h
  omega
theorem u8_of {n : Int} (h : (Lit.int .u8 n).wf = true) : 0 ≤ n ∧ n < 256 := by
  have := bounds_u8 h
  omega

theorem sm_prod {n m : Int} (hn : 1 ≤ n) (hm : 1 ≤ m) (h : n * m ≤ 4096) : Fac.sm (n * m) = (Fac.sm n && Fac.sm m) := by
  obtain ⟨a, rfl⟩ : ∃ a : Nat, n = (a : Int) := ⟨n.toNat, by omega⟩
  obtain ⟨b, rfl⟩ : ∃ b : Nat, m = (b : Int) := ⟨m.toNat, by omega⟩
  rw [← Int.natCast_mul] at h ⊢
  exact Fac.sm_mul (by omega) (by omega) (by omega)
theorem prod_bd {n m : Int} (hn : 1 ≤ n) (hm : 1 ≤ m) (hn' : n ≤ 5000) (hm' : m ≤ 5000) : 1 ≤ n * m ∧ n * m ≤ 25000000 := by
  constructor
  · have := Int.mul_le_mul hn hm (by omega) (by omega); omega
  · have := Int.mul_le_mul hn' hm' (by omega) (by omega); omega

set_option maxHeartbeats 1000000 in
set_option maxRecDepth 100000 in
theorem walk_FactorTimes (n m : Int) (hn : (Lit.int .i64 n).wf = true) (hm : (Lit.int .i64 m).wf = true) (w : World) :
    Calls Try.prog 5 #[.int .i64 n, .int .i64 m] w fun e w' => e = .returned (.bool true) ∧ Below w.heap.size w w' := by
  have n1 := i64_of hn
  have m1 := i64_of hm
  clear hn hm
  by_cases ho : n < 1 ∨ m < 1 ∨ 5000 < n ∨ 5000 < m
  · rcases (by omega : n < 1 ∨ (1 ≤ n ∧ m < 1) ∨ (1 ≤ n ∧ 1 ≤ m ∧ 5000 < n) ∨ (1 ≤ n ∧ 1 ≤ m ∧ n ≤ 5000 ∧ 5000 < m)) with h | ⟨h0, h⟩ | ⟨h0, h1, h⟩ | ⟨h0, h1, h2, h⟩
    · have d1 : decide (n < 1) = true := decide_eq_true h
      clear ho
      go_enter Try.func5, Try.ntmps5
      go_wp2_with (first
        | (go_at_call 7; refine (live4_any _).mono ?_; rintro e w1 ⟨rfl, hb⟩)
        | (go_at_call 12; refine (smooth_out _ _ (by omega)).mono ?_; rintro e w' ⟨rfl, rfl⟩))
      all_goals
        go_ret
        exact ⟨rfl, hb⟩
    · have d1 : decide (n < 1) = false := decide_eq_false (by omega)
      have d2 : decide (m < 1) = true := decide_eq_true h
      clear ho
      go_enter Try.func5, Try.ntmps5
      go_wp2_with (first
        | (go_at_call 7; refine (live4_any _).mono ?_; rintro e w1 ⟨rfl, hb⟩)
        | (go_at_call 12; refine (smooth_out _ _ (by omega)).mono ?_; rintro e w' ⟨rfl, rfl⟩))
      all_goals
        go_ret
        exact ⟨rfl, hb⟩
    · have d1 : decide (n < 1) = false := decide_eq_false (by omega)
      have d2 : decide (m < 1) = false := decide_eq_false (by omega)
      have d3 : decide (5000 < n) = true := decide_eq_true h
      clear ho
      go_enter Try.func5, Try.ntmps5
      go_wp2_with (first
        | (go_at_call 7; refine (live4_any _).mono ?_; rintro e w1 ⟨rfl, hb⟩)
        | (go_at_call 12; refine (smooth_out _ _ (by omega)).mono ?_; rintro e w' ⟨rfl, rfl⟩))
      all_goals
        go_ret
        exact ⟨rfl, hb⟩
    · have d1 : decide (n < 1) = false := decide_eq_false (by omega)
      have d2 : decide (m < 1) = false := decide_eq_false (by omega)
      have d3 : decide (5000 < n) = false := decide_eq_false (by omega)
      have d4 : decide (5000 < m) = true := decide_eq_true h
      clear ho
      go_enter Try.func5, Try.ntmps5
      go_wp2_with (first
        | (go_at_call 7; refine (live4_any _).mono ?_; rintro e w1 ⟨rfl, hb⟩)
        | (go_at_call 12; refine (smooth_out _ _ (by omega)).mono ?_; rintro e w' ⟨rfl, rfl⟩))
      all_goals
        go_ret
        exact ⟨rfl, hb⟩
  · obtain ⟨p1, p2⟩ := prod_bd (n := n) (m := m) (by omega) (by omega) (by omega) (by omega)
    have d1 : decide (n < 1) = false := decide_eq_false (by omega)
    have d2 : decide (m < 1) = false := decide_eq_false (by omega)
    have d3 : decide (5000 < n) = false := decide_eq_false (by omega)
    have d4 : decide (5000 < m) = false := decide_eq_false (by omega)
    obtain ⟨u, hu⟩ : ∃ u, n * m = u := ⟨_, rfl⟩
    rw [hu] at p1 p2
    by_cases hb : 4096 < u
    · have d5 : decide (4096 < u) = true := decide_eq_true hb
      clear ho
      go_enter Try.func5, Try.ntmps5
      go_wp2_with (first
        | (go_at_call 7; refine (live4_any _).mono ?_; rintro e w1 ⟨rfl, hb⟩)
        | (go_at_call 12; refine (smooth_out _ _ (by omega)).mono ?_; rintro e w' ⟨rfl, rfl⟩))
      go_ret
      exact ⟨rfl, hb⟩
    · have d5 : decide (4096 < u) = false := decide_eq_false hb
      have hs : Fac.sm u = (Fac.sm n && Fac.sm m) := by rw [← hu]; exact sm_prod (by omega) (by omega) (by omega)
      have S1 := Lib.hid (smooth_any u)
      have S2 := Lib.hid (smooth_any n)
      have S3 := Lib.hid (smooth_any m)
      cases e1 : Fac.sm n with
      | false =>
        rw [e1, Bool.false_and] at hs
        rw [hs] at S1
        rw [e1] at S2
        clear ho hs e1
        go_enter Try.func5, Try.ntmps5
        go_wp2_with (first
          | (go_at_call 7; refine (live4_any _).mono ?_; rintro e w1 ⟨rfl, hb1⟩)
          | (go_at_call_of 12 (Value.int .i64 u); refine (S1.out _).mono ?_; rintro e w2 ⟨rfl, hb2⟩)
          | (go_at_call_of 12 (Value.int .i64 n); refine (S2.out _).mono ?_; rintro e w3 ⟨rfl, hb3⟩))
        go_ret
        exact ⟨rfl, (hb1.trans (hb2.mono hb1.size)).trans (hb3.mono (Nat.le_trans hb1.size hb2.size))⟩
      | true =>
        rw [e1, Bool.true_and] at hs
        rw [hs] at S1
        rw [e1] at S2
        cases e2 : Fac.sm m
        all_goals
          rw [e2] at S1 S3
          clear ho hs e1 e2
          go_enter Try.func5, Try.ntmps5
          go_wp2_with (first
            | (go_at_call 7; refine (live4_any _).mono ?_; rintro e w1 ⟨rfl, hb1⟩)
            | (go_at_call_of 12 (Value.int .i64 u); refine (S1.out _).mono ?_; rintro e w2 ⟨rfl, hb2⟩)
            | (go_at_call_of 12 (Value.int .i64 n); refine (S2.out _).mono ?_; rintro e w3 ⟨rfl, hb3⟩)
            | (go_at_call_of 12 (Value.int .i64 m); refine (S3.out _).mono ?_; rintro e w4 ⟨rfl, hb4⟩))
          go_ret
          exact ⟨rfl, ((hb1.trans (hb2.mono hb1.size)).trans (hb3.mono (Nat.le_trans hb1.size hb2.size))).trans (hb4.mono (Nat.le_trans (Nat.le_trans hb1.size hb2.size) hb3.size))⟩

end Go.Proofs.Ytgiahljjdpbflaa
