/-
  Roots by the three primes, as plain integers: the root of order n has the order n, what undoes it too; the power m of the root of n times m is the root of n; all powers of a number other than 1 whose power n is 1 together are 0.
  No program is named here.
-/
import Derived.Test.YtmcnamlgbkbiaaaDoorMathPow
namespace Go.Proofs.YtmcnamlgbkbiaaaDoor.Fp

/-- The root of order n. -/
def rt (p : Int) (n : Nat) : Int := pw p (gen p) ((p.toNat - 1) / n)
theorem rt_bd (p : Int) (n : Nat) : 0 ≤ rt p n ∧ rt p n < 18446744069414584321 ∧ (kn p = true → rt p n < p) := pw_bd _ _ _
theorem gen_lt (p : Int) : gen p ≤ 31 := by unfold gen; split; omega; split; omega; split <;> omega
theorem gen_bd (p : Int) : 0 ≤ (gen p : Int) ∧ (gen p : Int) < 18446744073709551616 := by have := gen_lt p; omega

theorem gen_pw {p : Int} (h : kn p = true) (m : Nat) : pw p (gen p) m = 1 ↔ p.toNat - 1 ∣ m := by
  have hb := kn_bd h
  have hg := kn_gen h
  have hl := gen_lt p
  rw [pw_nat h (by omega) (by omega)]
  rw [show ((gen p : Int)).toNat = gen p by omega]
  constructor
  · intro e
    exact hg.least m (by omega)
  · rintro ⟨c, rfl⟩
    rw [Nat.pow_mul, Nat.pow_mod, hg.one, Nat.one_pow, Nat.mod_eq_of_lt (by omega)]
    rfl
theorem rt_pw {p : Int} (h : kn p = true) {n : Nat} (hd : n ∣ p.toNat - 1) (m : Nat) : pw p (rt p n) m = 1 ↔ n ∣ m := by
  have hb := kn_bd h
  unfold rt
  rw [← pw_mul, gen_pw h]
  obtain ⟨c, hc⟩ := hd
  have hn : 0 < n := by
    rcases Nat.eq_zero_or_pos n with e | e
    · subst e; simp at hc; omega
    · exact e
  have hc0 : 0 < c := by
    rcases Nat.eq_zero_or_pos c with e | e
    · subst e; simp at hc; omega
    · exact e
  rw [hc, Nat.mul_div_cancel_left _ hn, Nat.mul_comm n c]
  exact Nat.mul_dvd_mul_iff_left hc0
theorem rt_ne {p : Int} (h : kn p = true) {n : Nat} (hd : n ∣ p.toNat - 1) (hn : 0 < n) : red p (rt p n) ≠ 0 := by
  have h1 := (rt_pw h hd n).2 (Nat.dvd_refl n)
  obtain ⟨k, rfl⟩ : ∃ k, n = k + 1 := ⟨n - 1, by omega⟩
  rw [pw_succ] at h1
  exact (ne_of_mul_one h h1).1

theorem pw_one_base {p : Int} (h : kn p = true) : ∀ m, pw p 1 m = 1
  | 0 => by rw [pw_zero, red_one h]
  | m + 1 => by rw [pw_succ, pw_one_base h m, mul_one, red_one h]
theorem one_mul (p a : Int) : mul p 1 a = red p a := by rw [mul_comm, mul_one]
/-- What undoes a number comes around where it does. -/
theorem inv_pw {p : Int} (h : kn p = true) {a : Int} (ha : red p a ≠ 0) (m : Nat) : pw p (inv p a) m = 1 ↔ pw p a m = 1 := by
  have h1 : mul p (pw p (inv p a) m) (pw p a m) = 1 := by rw [← pw_mulb, mul_inv h ha, pw_one_base h]
  constructor
  · intro e; rw [e, one_mul, red_pw] at h1; exact h1
  · intro e; rw [e, mul_one, red_pw] at h1; exact h1

/-- Has a the order n: its power n is 1, and none ahead. -/
def ord (p a : Int) (n : Nat) : Bool := (List.range n).all (fun k => decide (k = 0) || decide (pw p a k ≠ 1)) && decide (pw p a n = 1)
theorem ord_yes {p a : Int} {n : Nat} (h1 : ∀ k, 0 < k → k < n → pw p a k ≠ 1) (h2 : pw p a n = 1) : ord p a n = true := by
  unfold ord
  rw [Bool.and_eq_true, List.all_eq_true]
  refine ⟨fun k hk => ?_, decide_eq_true h2⟩
  rw [List.mem_range] at hk
  by_cases e : k = 0
  · simp [e]
  · simp [e, h1 k (by omega) hk]
theorem ord_no {p a : Int} {n k : Nat} (h0 : 0 < k) (hk : k < n) (h1 : pw p a k = 1) : ord p a n = false := by
  unfold ord
  rw [Bool.and_eq_false_iff]
  left
  rw [List.all_eq_false]
  exact ⟨k, List.mem_range.2 hk, by simp [h1]; omega⟩
theorem ord_last {p a : Int} {n : Nat} (h1 : ∀ k, 0 < k → k < n → pw p a k ≠ 1) : ord p a n = (pw p a n == 1) := by
  by_cases h2 : pw p a n = 1
  · rw [ord_yes h1 h2, h2]; rfl
  · unfold ord
    rw [decide_eq_false h2, Bool.and_false]
    exact (beq_eq_false_iff_ne.2 h2).symm
theorem ord_of {p a : Int} {n : Nat} (hn : 0 < n) (h : ∀ m, pw p a m = 1 ↔ n ∣ m) {m : Nat} (hm : 0 < m) : ord p a m = decide (m = n) := by
  by_cases e : m = n
  · subst e
    rw [decide_eq_true rfl]
    exact ord_yes (fun k k0 hk e => by have := Nat.le_of_dvd k0 ((h k).1 e); omega) ((h m).2 (Nat.dvd_refl m))
  · rw [decide_eq_false e]
    by_cases hl : n < m
    · exact ord_no hn hl ((h n).2 (Nat.dvd_refl n))
    · unfold ord
      rw [Bool.and_eq_false_iff]
      right
      exact decide_eq_false (fun e' => by have := Nat.le_of_dvd hm ((h m).1 e'); omega)

/-- The sum of the powers 0 to n less 1 of a. -/
def psum (p a : Int) : Nat → Int
  | 0 => 0
  | n + 1 => add p (psum p a n) (pw p a n)
theorem psum_bd (p a : Int) (n : Nat) : 0 ≤ psum p a n ∧ psum p a n < 18446744069414584321 ∧ (kn p = true → psum p a n < p) := by
  cases n with
  | zero => exact ⟨by unfold psum; omega, by unfold psum; omega, fun h => by have := kn_bd h; unfold psum; omega⟩
  | succ n => exact add_bd p _ _
theorem psum_one {p : Int} (h : kn p = true) : ∀ n : Nat, (n : Int) < p → psum p 1 n = n
  | 0, _ => rfl
  | n + 1, hn => by
    rw [psum, psum_one h n (by omega), pw_one_base h]
    show red p ((n : Int) + 1) = _
    rw [red_lt h (by omega) (by omega)]; omega
theorem add_kn {p a b : Int} (h : kn p = true) : add p a b = (a + b) % p := if_pos h
/-- The number less 1, times the sum, is the power n less 1. -/
theorem psum_tele {p : Int} (h : kn p = true) (a : Int) : ∀ n : Nat, ((a - 1) * psum p a n) % p = (a ^ n - 1) % p
  | 0 => by simp [psum]
  | n + 1 => by
    have ih := psum_tele h a n
    rw [psum, add_kn h, pw_kn _ _ h, Int.add_emod_emod, mul_mdr, Int.mul_add, ← Int.emod_add_emod, ih, Int.emod_add_emod]
    congr 1
    rw [Int.pow_succ]; grind
theorem psum_zero {p : Int} (h : kn p = true) {a : Int} {n : Nat} (h1 : pw p a n = 1) (ha : red p a ≠ 1) : psum p a n = 0 := by
  have hb := kn_bd h
  have ht := psum_tele h a n
  have h2 : (a ^ n - 1) % p = 0 := by
    rw [pw_kn _ _ h] at h1
    rw [← Int.emod_sub_emod, h1]; rfl
  rw [h2, mul_zero_iff h] at ht
  rcases ht with e | e
  · exfalso; apply ha
    rw [red_kn _ h]
    have : a % p = 1 % p := Int.emod_eq_emod_iff_emod_sub_eq_zero.2 e
    rw [this, Int.emod_eq_of_lt (by omega) (by omega)]
  · obtain ⟨b0, -, b1⟩ := psum_bd p a n
    rwa [Int.emod_eq_of_lt b0 (b1 h)] at e

end Go.Proofs.YtmcnamlgbkbiaaaDoor.Fp
