/-
  The walks of two laws over package field: FieldRing and FieldZero return true for every four words.
-/
import Derived.Test.YtlcndhonfihmiaaMul
import Derived.RowKit3
import Derived.OpenShut
namespace Go.Proofs.Ytlcndhonfihmiaa
open Go.RowKit

theorem live_any (w : World) : Calls Try.prog 7 #[] w (RetQ (.bool true) w) := by
  have t : (Fp.add 998244353 998244352 2 == 1) = true := by decide
  go_enter Try.func7, Try.ntmps7
  go_wp2_with (go_at_call 12; refine (add_any 998244353 998244352 2 _ (by omega) (by omega) (by omega) (by omega)).mono ?_; rintro e w' ⟨rfl, n, rfl⟩)
  go_ret
  exact ⟨rfl, n, rfl⟩

theorem word_of {a : Int} (h : (Lit.int .u64 a).wf = true) : 0 ≤ a ∧ a < 18446744073709551616 := by
  have := bounds_u64 h
  omega

theorem grown_draws (w : World) (n : Nat) : Grown w (w.drewN n) := Grown.refl w

set_option maxHeartbeats 1000000 in
set_option maxRecDepth 100000 in
theorem walk_FieldRing (p a b c : Int) (_hp : (Lit.int .u64 p).wf = true) (ha : (Lit.int .u64 a).wf = true) (hb : (Lit.int .u64 b).wf = true) (hc : (Lit.int .u64 c).wf = true) (w : World) :
    Calls Try.prog 4 #[.int .u64 p, .int .u64 a, .int .u64 b, .int .u64 c] w fun e w' => e = .returned (.bool true) ∧ Grown w w' := by
  obtain ⟨a0, a1⟩ := word_of ha
  obtain ⟨b0, b1⟩ := word_of hb
  obtain ⟨c0, c1⟩ := word_of hc
  clear ha hb hc
  obtain ⟨x0, x1, _⟩ := Fp.add_bd p a b
  obtain ⟨y0, y1, _⟩ := Fp.mul_bd p a b
  obtain ⟨z0, z1, _⟩ := Fp.add_bd p b c
  obtain ⟨u0, u1, _⟩ := Fp.mul_bd p b c
  obtain ⟨v0, v1, _⟩ := Fp.mul_bd p a c
  obtain ⟨n0, n1, _⟩ := Fp.neg_bd p a
  have t1 : (Fp.add p a b != Fp.add p b a) = false := by rw [Fp.add_comm p a b]; simp
  have t2 : (Fp.mul p a b != Fp.mul p b a) = false := by rw [Fp.mul_comm p a b]; simp
  have t3 : (Fp.add p (Fp.add p a b) c != Fp.add p a (Fp.add p b c)) = false := by rw [Fp.add_assoc]; simp
  have t4 : (Fp.mul p (Fp.mul p a b) c != Fp.mul p a (Fp.mul p b c)) = false := by rw [Fp.mul_assoc]; simp
  have t5 : (Fp.mul p a (Fp.add p b c) != Fp.add p (Fp.mul p a b) (Fp.mul p a c)) = false := by rw [Fp.mul_add]; simp
  have t6 : (Fp.sub p (Fp.add p a b) b == Fp.red p a) = true := by rw [Fp.sub_add]; simp
  have t7 : (Fp.mul p a 1 == Fp.red p a) = true := by rw [Fp.mul_one]; simp
  have t8 : (Fp.add p a (Fp.neg p a) == 0) = true := by rw [Fp.add_neg]; simp
  go_enter Try.func4, Try.ntmps4
  go_wp2_with (first
    | (go_at_call 7; refine (live_any _).mono ?_; rintro e w' ⟨rfl, n, rfl⟩)
    | (go_at_call 12; refine (add_any _ _ _ _ (by omega) (by omega) (by omega) (by omega)).mono ?_; rintro e w' ⟨rfl, n, rfl⟩)
    | (go_at_call 16; refine (mul_any _ _ _ _ (by omega) (by omega) (by omega) (by omega)).mono ?_; rintro e w' ⟨rfl, n, rfl⟩)
    | (go_at_call 14; refine (sub_any _ _ _ _ (by omega) (by omega) (by omega) (by omega)).mono ?_; rintro e w' ⟨rfl, n, rfl⟩)
    | (go_at_call 18; refine (neg_any _ _ _ (by omega) (by omega)).mono ?_; rintro e w' ⟨rfl, n, rfl⟩)
    | (go_at_call 20; refine (reduce_any _ _ _ (by omega) (by omega)).mono ?_; rintro e w' ⟨rfl, rfl⟩))
  go_ret
  exact ⟨rfl, grown_draws _ _⟩

set_option maxHeartbeats 1000000 in
theorem walk_FieldZero (p a b c : Int) (_hp : (Lit.int .u64 p).wf = true) (ha : (Lit.int .u64 a).wf = true) (hb : (Lit.int .u64 b).wf = true) (hc : (Lit.int .u64 c).wf = true) (w : World) :
    Calls Try.prog 6 #[.int .u64 p, .int .u64 a, .int .u64 b, .int .u64 c] w fun e w' => e = .returned (.bool true) ∧ Grown w w' := by
  obtain ⟨a0, a1⟩ := word_of ha
  obtain ⟨b0, b1⟩ := word_of hb
  obtain ⟨c0, c1⟩ := word_of hc
  clear ha hb hc
  cases h : Fp.kn p
  · have t : (Fp.mul p a b == 0) = true := by rw [show Fp.mul p a b = 0 from Fp.red_no (a * b) h]; rfl
    have H := Lib.hid h; clear h
    go_enter Try.func6, Try.ntmps6
    go_wp2_with (first
      | (go_at_call 7; refine (live_any _).mono ?_; rintro e w' ⟨rfl, n, rfl⟩)
      | (go_at_call 8; refine (known_no _ _ H.out).mono ?_; rintro e w' ⟨rfl, rfl⟩)
      | (go_at_call 16; refine (mul_any _ _ _ _ (by omega) (by omega) (by omega) (by omega)).mono ?_; rintro e w' ⟨rfl, n, rfl⟩))
    go_ret
    exact ⟨rfl, grown_draws _ _⟩
  · have hz := Fp.mul_zero h a b
    have hs := Fp.mul_same h a b c
    have H := Lib.hid h; clear h
    by_cases x0 : Fp.red p a = 0
    · have t1 : (Fp.mul p a b == 0) = true := by rw [hz.2 (.inl x0)]; rfl
      have t2 : (Fp.red p a == 0) = true := by rw [x0]; rfl
      clear hz hs x0
      go_enter Try.func6, Try.ntmps6
      go_wp2_with (first
        | (go_at_call 7; refine (live_any _).mono ?_; rintro e w' ⟨rfl, n, rfl⟩)
        | (go_at_call 8; refine (known_yes _ _ H.out).mono ?_; rintro e w' ⟨rfl, rfl⟩)
        | (go_at_call 20; refine (reduce_any _ _ _ (by omega) (by omega)).mono ?_; rintro e w' ⟨rfl, rfl⟩)
        | (go_at_call 16; refine (mul_any _ _ _ _ (by omega) (by omega) (by omega) (by omega)).mono ?_; rintro e w' ⟨rfl, n, rfl⟩))
      go_ret
      exact ⟨rfl, grown_draws _ _⟩
    · have t2 : (Fp.red p a == 0) = false := beq_eq_false_iff_ne.2 x0
      have hs' := hs x0
      have t3 : (Fp.mul p a b == 0) = (Fp.red p b == 0) := by
        rw [Bool.eq_iff_iff, beq_iff_eq, beq_iff_eq, hz]; exact ⟨fun e => e.resolve_left x0, .inr⟩
      have t4 : (Fp.mul p a b == Fp.mul p a c) = (Fp.red p b == Fp.red p c) := by
        rw [Bool.eq_iff_iff, beq_iff_eq, beq_iff_eq, hs']
      clear hz hs hs' x0
      cases t5 : (Fp.red p b == 0) <;> cases t6 : (Fp.red p b == Fp.red p c)
      all_goals
        rw [t5] at t3
        rw [t6] at t4
        go_enter Try.func6, Try.ntmps6
        go_wp2_with (first
          | (go_at_call 7; refine (live_any _).mono ?_; rintro e w' ⟨rfl, n, rfl⟩)
          | (go_at_call 8; refine (known_yes _ _ H.out).mono ?_; rintro e w' ⟨rfl, rfl⟩)
          | (go_at_call 20; refine (reduce_any _ _ _ (by omega) (by omega)).mono ?_; rintro e w' ⟨rfl, rfl⟩)
          | (go_at_call 16; refine (mul_any _ _ _ _ (by omega) (by omega) (by omega) (by omega)).mono ?_; rintro e w' ⟨rfl, n, rfl⟩))
        go_ret
        exact ⟨rfl, grown_draws _ _⟩

end Go.Proofs.Ytlcndhonfihmiaa
