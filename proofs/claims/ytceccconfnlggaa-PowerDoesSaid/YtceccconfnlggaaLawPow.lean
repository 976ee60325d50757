/-
  The walks of two laws over package power: PowerSums and PowerBack return true for every words.
-/
import Derived.Test.YtceccconfnlggaaPower
import Derived.Test.YtceccconfnlggaaLawRing
namespace Go.Proofs.Ytceccconfnlggaa
open Go.RowKit

namespace Fp
theorem kn_one : kn 998244353 = true := by decide
theorem inv_two : inv 998244353 2 = 499122177 := by
  rw [inv_only (x := 499122177) kn_one (by decide) (by decide)]; decide
theorem red_two : red 998244353 2 ≠ 0 := by decide
end Fp

theorem plive_any (w : World) : Calls Try.prog 8 #[] w (RetQ (.bool true) w) := by
  have t : (Fp.inv 998244353 2 == 499122177) = true := by rw [Fp.inv_two]; rfl
  go_enter Try.func8, Try.ntmps8
  go_wp2_with (go_at_call 9; refine (inv_yes 998244353 2 _ Fp.kn_one (by omega) (by omega) Fp.red_two).mono ?_; rintro e w' ⟨rfl, n, rfl⟩)
  go_ret
  exact ⟨rfl, n, rfl⟩

theorem word32_of {a : Int} (h : (Lit.int .u32 a).wf = true) : 0 ≤ a ∧ a < 4294967296 := by
  have := bounds_u32 h
  omega
theorem prod32 {n m : Int} (n0 : 0 ≤ n) (n1 : n < 4294967296) (m0 : 0 ≤ m) (m1 : m < 4294967296) : 0 ≤ n * m ∧ n * m < 18446744073709551616 ∧ (n * m).toNat = n.toNat * m.toNat := by
  have h0 : 0 ≤ n * m := Int.mul_nonneg n0 m0
  have h1 : n * m ≤ 4294967295 * 4294967295 := Int.mul_le_mul (by omega) (by omega) m0 (by omega)
  refine ⟨h0, by omega, ?_⟩
  rw [Int.toNat_mul n0 m0]

set_option maxHeartbeats 1000000 in
theorem walk_PowerSums (p a b n m : Int) (_hp : (Lit.int .u64 p).wf = true) (ha : (Lit.int .u64 a).wf = true) (hb : (Lit.int .u64 b).wf = true) (hn : (Lit.int .u32 n).wf = true) (hm : (Lit.int .u32 m).wf = true) (w : World) :
    Calls Try.prog 4 #[.int .u64 p, .int .u64 a, .int .u64 b, .int .u32 n, .int .u32 m] w fun e w' => e = .returned (.bool true) ∧ Grown w w' := by
  obtain ⟨a0, a1⟩ := word_of ha
  obtain ⟨b0, b1⟩ := word_of hb
  obtain ⟨n0, n1⟩ := word32_of hn
  obtain ⟨m0, m1⟩ := word32_of hm
  clear ha hb hn hm
  obtain ⟨q0, q1, q2⟩ := prod32 n0 n1 m0 m1
  have Q2 := Lib.hid q2; clear q2
  obtain ⟨x0, x1, _⟩ := Fp.pw_bd p a n.toNat
  obtain ⟨y0, y1, _⟩ := Fp.pw_bd p a m.toNat
  obtain ⟨z0, z1, _⟩ := Fp.pw_bd p b n.toNat
  obtain ⟨u0, u1, _⟩ := Fp.mul_bd p a b
  have t1 : (Fp.pw p a (n + m).toNat != Fp.mul p (Fp.pw p a n.toNat) (Fp.pw p a m.toNat)) = false := by rw [← Fp.pw_add, Int.toNat_add n0 m0]; simp
  have t2 : (Fp.pw p a (n * m).toNat == Fp.pw p (Fp.pw p a n.toNat) m.toNat) = true := by rw [← Fp.pw_mul, Q2.out]; simp
  have t3 : (Fp.pw p (Fp.mul p a b) n.toNat == Fp.mul p (Fp.pw p a n.toNat) (Fp.pw p b n.toNat)) = true := by rw [Fp.pw_mulb]; simp
  go_enter Try.func4, Try.ntmps4
  go_wp2_with (first
    | (go_at_call 8; refine (plive_any _).mono ?_; rintro e w' ⟨rfl, n, rfl⟩)
    | (go_at_call 15; refine (pow_any _ _ _ _ (by omega) (by omega) (by omega) (by omega)).mono ?_; rintro e w' ⟨rfl, n, rfl⟩)
    | (go_at_call 18; refine (mul_any _ _ _ _ (by omega) (by omega) (by omega) (by omega)).mono ?_; rintro e w' ⟨rfl, n, rfl⟩))
  go_ret
  exact ⟨rfl, grown_draws _ _⟩

set_option maxHeartbeats 1000000 in
theorem walk_PowerBack (p a b : Int) (_hp : (Lit.int .u64 p).wf = true) (ha : (Lit.int .u64 a).wf = true) (hb : (Lit.int .u64 b).wf = true) (w : World) :
    Calls Try.prog 5 #[.int .u64 p, .int .u64 a, .int .u64 b] w fun e w' => e = .returned (.bool true) ∧ Grown w w' := by
  obtain ⟨a0, a1⟩ := word_of ha
  obtain ⟨b0, b1⟩ := word_of hb
  clear ha hb
  cases h : Fp.kn p
  · have t : (Fp.red p a == 0) = true := by rw [Fp.red_no a h]; rfl
    have H := Lib.hid h; clear h
    go_enter Try.func5, Try.ntmps5
    go_wp2_with (first
      | (go_at_call 8; refine (plive_any _).mono ?_; rintro e w' ⟨rfl, n, rfl⟩)
      | (go_at_call 9; refine (inv_noprime _ _ _ H.out).mono ?_; rintro e w' ⟨rfl, n, rfl⟩)
      | (go_at_call 19; refine (known_no _ _ H.out).mono ?_; rintro e w' ⟨rfl, rfl⟩)
      | (go_at_call 20; refine (reduce_any _ _ _ (by omega) (by omega)).mono ?_; rintro e w' ⟨rfl, rfl⟩))
    go_ret
    exact ⟨rfl, grown_draws _ _⟩
  · by_cases hz : Fp.red p a = 0
    · have t : (Fp.red p a == 0) = true := by rw [hz]; rfl
      have H := Lib.hid h; clear h
      have HZ := Lib.hid hz; clear hz
      go_enter Try.func5, Try.ntmps5
      go_wp2_with (first
        | (go_at_call 8; refine (plive_any _).mono ?_; rintro e w' ⟨rfl, n, rfl⟩)
        | (go_at_call 9; refine (inv_zero _ _ _ H.out a0 a1 HZ.out).mono ?_; rintro e w' ⟨rfl, n, rfl⟩)
        | (go_at_call 19; refine (known_yes _ _ H.out).mono ?_; rintro e w' ⟨rfl, rfl⟩)
        | (go_at_call 20; refine (reduce_any _ _ _ (by omega) (by omega)).mono ?_; rintro e w' ⟨rfl, rfl⟩))
      go_ret
      exact ⟨rfl, grown_draws _ _⟩
    · have h1 := Fp.mul_inv h hz
      have hx := (Fp.ne_of_mul_one h h1).2
      obtain ⟨p1, p2⟩ := Fp.kn_bd h
      obtain ⟨x0, x1, _⟩ := Fp.inv_bd p a
      obtain ⟨u0, u1, _⟩ := Fp.mul_bd p b a
      have t1 : (Fp.inv p (Fp.inv p a) == Fp.red p a) = true := by rw [Fp.inv_inv h hz]; simp
      have t2 : (Fp.mul p (Fp.mul p b a) (Fp.inv p a) == Fp.red p b) = true := by rw [Fp.mul_assoc, Fp.mul_comm p a, h1, Fp.mul_one]; simp
      have t3 : (Fp.pw p a (p.toNat - 1) == 1) = true := by rw [Fp.fermat h a hz]; rfl
      have H := Lib.hid h; clear h h1
      have HZ := Lib.hid hz; clear hz
      have HX := Lib.hid hx; clear hx
      go_enter Try.func5, Try.ntmps5
      go_wp2_with fail
      refine (plive_any _).mono ?_; rintro e w' ⟨rfl, n1, rfl⟩
      go_wp2_with fail
      refine (inv_yes _ _ _ H.out a0 a1 HZ.out).mono ?_; rintro e w' ⟨rfl, n2, rfl⟩
      go_wp2_with fail
      refine (inv_yes _ _ _ H.out x0 (by omega) HX.out).mono ?_; rintro e w' ⟨rfl, n3, rfl⟩
      go_wp2_with (first
        | (go_at_call 20; refine (reduce_any _ _ _ (by omega) (by omega)).mono ?_; rintro e w' ⟨rfl, rfl⟩)
        | (go_at_call 15; refine (pow_any _ _ _ _ (by omega) (by omega) (by omega) (by omega)).mono ?_; rintro e w' ⟨rfl, n, rfl⟩)
        | (go_at_call 18; refine (mul_any _ _ _ _ (by omega) (by omega) (by omega) (by omega)).mono ?_; rintro e w' ⟨rfl, n, rfl⟩))
      go_ret
      exact ⟨rfl, grown_draws _ _⟩

end Go.Proofs.Ytceccconfnlggaa
