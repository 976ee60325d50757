/-
  What field.Mul comes to: the product by a known prime, for every two words; 0 by what is no such prime.
-/
import Derived.Test.YtmcnamlgbkbiaaaDoorBits
namespace Go.Proofs.YtmcnamlgbkbiaaaDoor
open Go.RowKit

theorem mul64_int (x y : Int) (x0 : 0 ≤ x) (x1 : x < 18446744073709551616) (y0 : 0 ≤ y) (y1 : y < 18446744073709551616) (w : World) :
    Calls Tryd.prog 35 #[.int .u64 x, .int .u64 y] w fun e w' => e = .returned (.tuple #[.int .u64 (x * y / 18446744073709551616), .int .u64 (x * y % 18446744073709551616)]) ∧ w' = w := by
  obtain ⟨a, rfl⟩ := Int.eq_ofNat_of_zero_le x0
  obtain ⟨b, rfl⟩ := Int.eq_ofNat_of_zero_le y0
  refine (mul64_nat a b (by omega) (by omega) w).mono ?_
  rintro e w' ⟨rfl, rfl⟩
  exact ⟨tup_u64 (by simp) (by simp), rfl⟩

theorem mul_high {x y p : Int} (x0 : 0 ≤ x) (x1 : x < p) (y0 : 0 ≤ y) (y1 : y < p) (hp : p ≤ 18446744073709551616) :
    0 ≤ x * y ∧ 0 ≤ x * y / 18446744073709551616 ∧ x * y / 18446744073709551616 < p := by
  have h1 : 0 ≤ x * y := Int.mul_nonneg x0 y0
  have h2 : x * y ≤ x * 18446744073709551616 := Int.mul_le_mul_of_nonneg_left (by omega) x0
  refine ⟨h1, by omega, ?_⟩
  have : x * y / 18446744073709551616 ≤ x := by omega
  omega

theorem prod_back (p a b : Int) : (a % p * (b % p) / 18446744073709551616 * 18446744073709551616 + a % p * (b % p) % 18446744073709551616) % p = (a * b) % p := by
  rw [show a % p * (b % p) / 18446744073709551616 * 18446744073709551616 + a % p * (b % p) % 18446744073709551616 = a % p * (b % p) by omega]
  exact Fp.mul_md

theorem mul_yes (p a b : Int) (w : World) (h : Fp.kn p = true) (a0 : 0 ≤ a) (a1 : a < 18446744073709551616) (b0 : 0 ≤ b) (b1 : b < 18446744073709551616) :
    Calls Tryd.prog 19 #[.int .u64 p, .int .u64 a, .int .u64 b] w (RetQ (.int .u64 (Fp.mul p a b)) w) := by
  have hr : Hid (Fp.mul p a b = (a * b) % p) := Lib.hid (by unfold Fp.mul; rw [if_pos h])
  obtain ⟨p1, p2⟩ := Fp.kn_bd h
  have l1 := Fp.md_lo a (Fp.kn_pos h)
  have l2 := Fp.md_hi a (Fp.kn_pos h)
  have l3 := Fp.md_lo b (Fp.kn_pos h)
  have l4 := Fp.md_hi b (Fp.kn_pos h)
  have M := Lib.hid (mul_high l1 l2 l3 l4 (by omega))
  have H := Lib.hid h; clear h
  go_enter Tryd.func19, Tryd.ntmps19
  go_wp2_with (go_at_call 24; refine (known_yes p _ H.out).mono ?_; rintro e w' ⟨rfl, rfl⟩)
  go_quiet ((go_at_call 35; exact Calls.quiet_of_same (mul64_int _ _ l1 (by omega) l3 (by omega) _)))
  go_wp2_with fail
  obtain ⟨m0, m1, m2⟩ := M.out
  rcases Fp.kn_cases H.out with h | h | h
  · have e1 := prod_back p a b
    subst h
    refine (rem_P0 _ _ _ m1 m2 (by omega) (by omega)).mono ?_
    rintro e w' ⟨rfl, n, rfl⟩
    rw [e1]
    go_wp2
    go_ret
    exact ⟨ret_u64 hr.out.symm, _, rfl⟩
  all_goals
    have s1 : a % p * (b % p) ≤ 2013265921 * 2013265921 := Int.mul_le_mul (by omega) (by omega) l3 (by omega)
    have e1 := prod_back p a b
    have s2 : a % p * (b % p) / 18446744073709551616 = 0 := by omega
    rw [s2] at e1 ⊢
    rw [show (0 : Int) * 18446744073709551616 + a % p * (b % p) % 18446744073709551616 = a % p * (b % p) % 18446744073709551616 by omega] at e1
    have l5 : 0 ≤ a % p * (b % p) % 18446744073709551616 := by omega
    have l6 : a % p * (b % p) % 18446744073709551616 < 18446744073709551616 := by omega
    refine (rem_low _ p _ l5 l6 (by omega) (by omega)).mono ?_
    rintro e w' ⟨rfl, n, rfl⟩
    rw [e1]
    clear e1 s1 s2 l5 l6 m0 m1 m2 h
    go_wp2
    go_ret
    exact ⟨ret_u64 hr.out.symm, _, rfl⟩

theorem mul_any (p a b : Int) (w : World) (a0 : 0 ≤ a) (a1 : a < 18446744073709551616) (b0 : 0 ≤ b) (b1 : b < 18446744073709551616) :
    Calls Tryd.prog 19 #[.int .u64 p, .int .u64 a, .int .u64 b] w (RetQ (.int .u64 (Fp.mul p a b)) w) := by
  cases h : Fp.kn p
  · have he := Lib.hid (Fp.red_no (a * b) h)
    have H := Lib.hid h; clear h
    go_enter Tryd.func19, Tryd.ntmps19
    go_wp2_with (go_at_call 24; refine (known_no p _ H.out).mono ?_; rintro e w' ⟨rfl, rfl⟩)
    go_ret
    exact ⟨ret_u64 he.out.symm, 0, rfl⟩
  · exact mul_yes p a b w h a0 a1 b0 b1

end Go.Proofs.YtmcnamlgbkbiaaaDoor
