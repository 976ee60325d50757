/-
  Powers by the three primes, as plain integers: powers of sums and products; each prime has a generator whose order is p less 1;
  so of what is not 0 the power p less 1 is 1, and the power p less 2 undoes it. No program is named here.
-/
import Derived.Test.YtmcnamlgbkbiaaaDoorMath
namespace Go.Proofs.YtmcnamlgbkbiaaaDoor.Fp

/-- The power n of a, by p; 0, if p is no prime. -/
def pw (p a : Int) (n : Nat) : Int := red p (a ^ n)
theorem pw_bd (p a : Int) (n : Nat) : 0 ≤ pw p a n ∧ pw p a n < 18446744069414584321 ∧ (kn p = true → pw p a n < p) := red_bd p (a ^ n)
theorem pw_no {p : Int} (a : Int) (n : Nat) (h : kn p = false) : pw p a n = 0 := red_no _ h
theorem pw_kn {p : Int} (a : Int) (n : Nat) (h : kn p = true) : pw p a n = a ^ n % p := by unfold pw red; rw [if_pos h]
theorem red_kn {p : Int} (a : Int) (h : kn p = true) : red p a = a % p := by unfold red; rw [if_pos h]
theorem mul_kn {p : Int} (a b : Int) (h : kn p = true) : mul p a b = (a * b) % p := by unfold mul; rw [if_pos h]
theorem mul_no {p : Int} (a b : Int) (h : kn p = false) : mul p a b = 0 := red_no _ h
theorem mul_red (p a b : Int) : mul p a b = red p (a * b) := rfl
theorem mul_redl (p a b : Int) : mul p (red p a) b = mul p a b := by
  cases h : kn p
  · rw [mul_no _ _ h, mul_no _ _ h]
  · rw [mul_kn _ _ h, mul_kn _ _ h, red_kn _ h, md_mul]
theorem mul_redr (p a b : Int) : mul p a (red p b) = mul p a b := by rw [mul_comm, mul_redl, mul_comm]
theorem red_mul (p a b : Int) : red p (mul p a b) = mul p a b := by rw [mul_red, red_red]
theorem red_pw (p a : Int) (n : Nat) : red p (pw p a n) = pw p a n := red_red _ _
theorem red_lt {p a : Int} (h : kn p = true) (a0 : 0 ≤ a) (a1 : a < p) : red p a = a := by rw [red_kn _ h, Int.emod_eq_of_lt a0 a1]
theorem red_one {p : Int} (h : kn p = true) : red p 1 = 1 := red_lt h (by omega) (by have := kn_bd h; omega)
theorem pw_zero (p a : Int) : pw p a 0 = red p 1 := by unfold pw; rw [Int.pow_zero]
theorem pw_one (p a : Int) : pw p a 1 = red p a := by unfold pw; rw [Int.pow_one]
theorem pw_succ (p a : Int) (n : Nat) : pw p a (n + 1) = mul p (pw p a n) a := by
  unfold pw; rw [mul_redl, mul_red, Int.pow_succ]
theorem pw_add (p a : Int) (n m : Nat) : pw p a (n + m) = mul p (pw p a n) (pw p a m) := by
  unfold pw; rw [mul_redl, mul_redr, mul_red, Int.pow_add]
theorem pw_redl (p a : Int) : ∀ n, pw p (red p a) n = pw p a n
  | 0 => by rw [pw_zero, pw_zero]
  | n + 1 => by rw [pw_succ, pw_succ, pw_redl p a n, mul_redr]
theorem pw_mul (p a : Int) (n m : Nat) : pw p a (n * m) = pw p (pw p a n) m := by
  show red p _ = pw p (red p (a ^ n)) m
  rw [pw_redl, Int.pow_mul]; rfl
theorem pw_mulb (p a b : Int) (n : Nat) : pw p (mul p a b) n = mul p (pw p a n) (pw p b n) := by
  rw [mul_red, pw_redl]; unfold pw; rw [mul_redl, mul_redr, mul_red, Int.mul_pow]

/-! One step of squaring. -/
theorem sq_even (p x y : Int) (m : Nat) (h : m % 2 = 0) : red p (x * mul p y y ^ (m / 2)) = red p (x * y ^ m) := by
  obtain ⟨k, rfl⟩ : ∃ k, m = 2 * k := ⟨m / 2, by omega⟩
  rw [show 2 * k / 2 = k by omega, ← mul_red, ← mul_red, ← mul_redr, ← mul_redr p x (y ^ (2 * k))]
  show mul p x (pw p _ k) = mul p x (pw p y (2 * k))
  rw [pw_mul, show mul p y y = pw p y 2 from by rw [mul_red]; unfold pw; rw [Int.pow_succ, Int.pow_one]]
theorem sq_odd (p x y : Int) (m : Nat) (h : m % 2 = 1) : red p (mul p x y * mul p y y ^ (m / 2)) = red p (x * y ^ m) := by
  obtain ⟨k, rfl⟩ : ∃ k, m = 2 * k + 1 := ⟨m / 2, by omega⟩
  have e := sq_even p (x * y) y (2 * k) (by omega)
  rw [show 2 * k / 2 = k by omega] at e
  rw [show (2 * k + 1) / 2 = k by omega, ← mul_red, mul_red p x y, mul_redl, mul_red, e, Int.pow_succ, Int.mul_assoc, Int.mul_comm y]

/-! Powers reckoned by squaring, for the kernel. -/
def pwf (p : Nat) : Nat → Nat → Nat → Nat
  | 0, _, _ => 1 % p
  | f + 1, a, n => if n = 0 then 1 % p else if n % 2 = 1 then a * pwf p f (a * a % p) (n / 2) % p else pwf p f (a * a % p) (n / 2)
theorem pwf_eq (p : Nat) : ∀ f a n, n < 2 ^ f → pwf p f a n = a ^ n % p
  | 0, a, n, h => by obtain rfl : n = 0 := by simpa using h
                     simp [pwf]
  | f + 1, a, n, h => by
    rw [pwf]
    by_cases h0 : n = 0
    · subst h0; simp
    · rw [if_neg h0]
      have hl : n / 2 < 2 ^ f := by rw [Nat.pow_succ] at h; omega
      rw [pwf_eq p f _ _ hl, ← Nat.pow_mod]
      by_cases h1 : n % 2 = 1
      · rw [if_pos h1]
        obtain ⟨k, rfl⟩ : ∃ k, n = 2 * k + 1 := ⟨n / 2, by omega⟩
        rw [show (2 * k + 1) / 2 = k by omega, Nat.mul_mod, Nat.mod_mod, ← Nat.mul_mod, Nat.pow_succ, Nat.pow_mul, Nat.pow_two, Nat.mul_comm]
      · rw [if_neg h1]
        obtain ⟨k, rfl⟩ : ∃ k, n = 2 * k := ⟨n / 2, by omega⟩
        rw [show 2 * k / 2 = k by omega, Nat.pow_mul, Nat.pow_two]

/-! ### A number's order, in plain naturals: g to the m is 1 by p just if n divides m -/
theorem one_gcd {p g : Nat} (m n : Nat) : g ^ m % p = 1 % p → g ^ n % p = 1 % p → g ^ Nat.gcd m n % p = 1 % p := by
  induction m, n using Nat.gcd.induction with
  | H0 n => intro _ h; simpa using h
  | H1 m n hm ih =>
    intro h1 h2
    rw [Nat.gcd_rec]
    refine ih ?_ h1
    have e : g ^ n = g ^ (n % m) * (g ^ m) ^ (n / m) := by rw [← Nat.pow_mul, ← Nat.pow_add, Nat.mod_add_div]
    rw [e, Nat.mul_mod, Nat.pow_mod (g ^ m), h1, ← Nat.pow_mod, Nat.one_pow, ← Nat.mul_mod, Nat.mul_one] at h2
    exact h2
theorem cop_of {q e : Nat} (hq : Whole q) (h : ¬ q ∣ e) : Nat.Coprime e q := by
  rcases hq (Nat.gcd e q) (Nat.gcd_dvd_right e q) with h1 | h1
  · exact h1
  · exact (h (h1 ▸ Nat.gcd_dvd_left e q)).elim
theorem cop_prod {e : Nat} : ∀ qs : List Nat, (∀ q ∈ qs, Nat.Coprime e q) → Nat.Coprime e (qs.foldr (· * ·) 1)
  | [], _ => Nat.coprime_one_right e
  | q :: qs, h => Nat.Coprime.mul_right (h q (by simp)) (cop_prod qs (fun x hx => h x (by simp [hx])))
/-- What divides n, and is not n, divides n by one of its primes. -/
theorem part_of {n d k : Nat} {qs : List Nat} (hq : ∀ q ∈ qs, Whole q) (hn : 0 < n) (hk : n ∣ (qs.foldr (· * ·) 1) ^ k) (hd : d ∣ n) (hne : d ≠ n) : ∃ q ∈ qs, q ∣ n ∧ d ∣ n / q := by
  obtain ⟨e, he⟩ := hd
  have hex : ∃ q ∈ qs, q ∣ e := by
    by_cases hx : ∃ q ∈ qs, q ∣ e
    · exact hx
    · exfalso
      have hc : Nat.Coprime e (qs.foldr (· * ·) 1) := cop_prod qs (fun q hqm => cop_of (hq q hqm) (fun h => hx ⟨q, hqm, h⟩))
      have hc2 : Nat.Coprime e ((qs.foldr (· * ·) 1) ^ k) := Nat.Coprime.pow_right k hc
      have h1 : e ∣ (qs.foldr (· * ·) 1) ^ k := Nat.dvd_trans ⟨d, by rw [he, Nat.mul_comm]⟩ hk
      have h2 : e = 1 := by
        have := Nat.gcd_eq_left h1
        rw [hc2] at this; exact this.symm
      subst h2; omega
  obtain ⟨q, hqm, f, hf⟩ := hex
  have hq0 : 0 < q := by
    rcases Nat.eq_zero_or_pos q with h | h
    · subst h; subst hf; simp at he; omega
    · exact h
  refine ⟨q, hqm, ⟨d * f, by rw [he, hf]; exact Nat.mul_left_comm _ _ _⟩, f, ?_⟩
  rw [he, hf, Nat.mul_left_comm, Nat.mul_div_cancel_left _ hq0]
theorem order_of {p g n k : Nat} {qs : List Nat} (hq : ∀ q ∈ qs, Whole q) (hn : 0 < n) (hk : n ∣ (qs.foldr (· * ·) 1) ^ k)
    (h1 : g ^ n % p = 1 % p) (h2 : ∀ q ∈ qs, g ^ (n / q) % p ≠ 1 % p) (m : Nat) (hm : g ^ m % p = 1 % p) : n ∣ m := by
  have hg := one_gcd (p := p) (g := g) m n hm h1
  by_cases he : Nat.gcd m n = n
  · rw [← he]; exact Nat.gcd_dvd_left m n
  · obtain ⟨q, hqm, -, c, hc⟩ := part_of hq hn hk (Nat.gcd_dvd_right m n) he
    refine (h2 q hqm ?_).elim
    rw [hc, Nat.pow_mul, Nat.pow_mod, hg, ← Nat.pow_mod, Nat.one_pow]

/-- g is a generator by p. -/
structure Gen (p g : Nat) : Prop where
  one : g ^ (p - 1) % p = 1
  least : ∀ m, g ^ m % p = 1 → p - 1 ∣ m
theorem gen_of {p g f k : Nat} {qs : List Nat} (hp : 1 < p) (hq : ∀ q ∈ qs, Whole q) (hk : p - 1 ∣ (qs.foldr (· * ·) 1) ^ k) (hf : p < 2 ^ f)
    (h1 : pwf p f g (p - 1) = 1) (h2 : qs.all (fun q => pwf p f g ((p - 1) / q) != 1) = true) : Gen p g := by
  have e1 : 1 % p = 1 := Nat.mod_eq_of_lt hp
  have a1 : g ^ (p - 1) % p = 1 := by rw [pwf_eq p f g _ (by omega)] at h1; exact h1
  refine ⟨a1, fun m hm => order_of hq (by omega) hk (by rw [e1]; exact a1) ?_ m (by rw [e1]; exact hm)⟩
  intro q hqm h
  rw [e1] at h
  have := List.all_eq_true.1 h2 q hqm
  rw [pwf_eq p f g _ (by have := Nat.div_le_self (p - 1) q; omega), h] at this
  simp at this

theorem whole_small {q : Nat} (h0 : 0 < q) (h : ((List.range (q + 1)).all fun d => d == 0 || d == 1 || d == q || q % d != 0) = true) : Whole q := by
  intro d hd
  have hl := Nat.le_of_dvd h0 hd
  have := List.all_eq_true.1 h d (List.mem_range.2 (by omega))
  simp only [Bool.or_eq_true, beq_iff_eq, bne_iff_ne] at this
  have hm := Nat.mod_eq_zero_of_dvd hd
  rcases this with ((h1 | h1) | h1) | h1
  · subst h1; rw [Nat.zero_dvd] at hd; omega
  · exact .inl h1
  · exact .inr h1
  · exact (h1 hm).elim
theorem whole_2 : Whole 2 := whole_small (by decide) (by decide +kernel)
theorem whole_3 : Whole 3 := whole_small (by decide) (by decide +kernel)
theorem whole_5 : Whole 5 := whole_small (by decide) (by decide +kernel)
theorem whole_7 : Whole 7 := whole_small (by decide) (by decide +kernel)
theorem whole_17 : Whole 17 := whole_small (by decide) (by decide +kernel)
theorem whole_257 : Whole 257 := whole_small (by decide) (by decide +kernel)
theorem whole_65537 : Whole 65537 := whole_of (k := 15) (b := 3) (by decide) (by decide +kernel) (by decide +kernel)
theorem gen0 : Gen 18446744069414584321 7 := gen_of (f := 64) (k := 32) (qs := [2, 3, 5, 17, 257, 65537]) (by decide)
  (by intro q hq; simp only [List.mem_cons, List.not_mem_nil, or_false] at hq
      rcases hq with h | h | h | h | h | h <;> subst h
      · exact whole_2
      · exact whole_3
      · exact whole_5
      · exact whole_17
      · exact whole_257
      · exact whole_65537)
  (Nat.dvd_of_mod_eq_zero (by decide +kernel)) (by decide +kernel) (by decide +kernel) (by decide +kernel)
theorem gen1 : Gen 998244353 3 := gen_of (f := 64) (k := 32) (qs := [2, 7, 17]) (by decide)
  (by intro q hq; simp only [List.mem_cons, List.not_mem_nil, or_false] at hq
      rcases hq with h | h | h <;> subst h
      · exact whole_2
      · exact whole_7
      · exact whole_17)
  (Nat.dvd_of_mod_eq_zero (by decide +kernel)) (by decide +kernel) (by decide +kernel) (by decide +kernel)
theorem gen2 : Gen 2013265921 31 := gen_of (f := 64) (k := 32) (qs := [2, 3, 5]) (by decide)
  (by intro q hq; simp only [List.mem_cons, List.not_mem_nil, or_false] at hq
      rcases hq with h | h | h <;> subst h
      · exact whole_2
      · exact whole_3
      · exact whole_5)
  (Nat.dvd_of_mod_eq_zero (by decide +kernel)) (by decide +kernel) (by decide +kernel) (by decide +kernel)

/-- The generator of a prime. -/
def gen (p : Int) : Nat := if p = 18446744069414584321 then 7 else if p = 998244353 then 3 else if p = 2013265921 then 31 else 0
theorem kn_gen {p : Int} (h : kn p = true) : Gen p.toNat (gen p) := by
  rcases kn_cases h with h | h | h <;> subst h
  · exact gen0
  · exact gen1
  · exact gen2

/-! ### Every number that is not 0 is a power of the generator -/
theorem nat_zero {p : Nat} (hw : Whole p) (hp : 1 < p) {g : Nat} (hg : ¬ p ∣ g) : ∀ n, ¬ p ∣ g ^ n
  | 0 => fun h => by rw [Nat.pow_zero] at h; have := Nat.le_of_dvd (by omega) h; omega
  | n + 1 => fun h => by
    rw [Nat.pow_succ] at h
    rcases whole_dvd hw h with h | h
    · exact nat_zero hw hp hg n h
    · exact hg h
theorem gen_ne {p g : Nat} (hp : 1 < p) (h : Gen p g) : ¬ p ∣ g := by
  intro hd
  have h1 := h.one
  have : p ∣ g ^ (p - 1) := by
    obtain ⟨k, hk⟩ : ∃ k, p - 1 = k + 1 := ⟨p - 2, by omega⟩
    rw [hk, Nat.pow_succ]; exact Nat.dvd_trans hd ⟨_, Nat.mul_comm _ _⟩
  rw [Nat.mod_eq_zero_of_dvd this] at h1; omega
theorem pow_inj {p g : Nat} (hw : Whole p) (hp : 1 < p) (h : Gen p g) {i j : Nat} (hj : j < p - 1) (hij : i ≤ j) (e : g ^ i % p = g ^ j % p) : i = j := by
  have h0 := nat_zero hw hp (gen_ne hp h) i
  have e1 : (g ^ i * g ^ (j - i)) % p = (g ^ i * 1) % p := by rw [← Nat.pow_add, show i + (j - i) = j by omega, Nat.mul_one]; exact e.symm
  have key : ∀ a : Nat, 0 < a → (g ^ i * a) % p = (g ^ i * 1) % p → a % p = 1 := by
    intro a ha e
    have hd : p ∣ g ^ i * (a - 1) := by
      rw [Nat.mul_sub]
      exact Nat.dvd_of_mod_eq_zero (Nat.sub_mod_eq_zero_of_mod_eq e)
    rcases whole_dvd hw hd with hd | hd
    · exact (h0 hd).elim
    · obtain ⟨c, hc⟩ := hd
      rw [show a = 1 + p * c by omega, Nat.add_mul_mod_self_left, Nat.mod_eq_of_lt hp]
  have hg0 : 0 < g := by
    rcases Nat.eq_zero_or_pos g with h' | h'
    · exact ((gen_ne hp h) (h' ▸ Nat.dvd_zero p)).elim
    · exact h'
  have := h.least _ (key _ (Nat.pow_pos hg0) e1)
  by_cases he : j - i = 0
  · omega
  · have := Nat.le_of_dvd (by omega) this; omega
theorem log_ex {p g : Nat} (hw : Whole p) (hp : 1 < p) (h : Gen p g) {a : Nat} (ha : ¬ p ∣ a) : ∃ k, k < p - 1 ∧ g ^ k % p = a % p := by
  by_cases hx : ∃ k, k < p - 1 ∧ g ^ k % p = a % p
  · exact hx
  · exfalso
    have nz : ∀ x, ¬ p ∣ x → 0 < x % p ∧ x % p < p := fun x hx => ⟨by
      rcases Nat.eq_zero_or_pos (x % p) with h0 | h0
      · exact (hx (Nat.dvd_of_mod_eq_zero h0)).elim
      · exact h0, Nat.mod_lt _ (by omega)⟩
    have b := pigeon (p - 1) p (fun i => if i < p - 1 then g ^ i % p - 1 else a % p - 1)
      (by
        intro i _
        have h1 := nz _ (nat_zero hw hp (gen_ne hp h) i); have h2 := nz _ ha
        by_cases hi : i < p - 1
        · simp only [if_pos hi]; omega
        · simp only [if_neg hi]; omega)
      (by
        intro i j hi hj e
        have h1 := nz _ (nat_zero hw hp (gen_ne hp h) i); have h2 := nz _ ha; have h3 := nz _ (nat_zero hw hp (gen_ne hp h) j)
        by_cases hi' : i < p - 1 <;> by_cases hj' : j < p - 1
        · simp only [if_pos hi', if_pos hj'] at e
          rcases Nat.le_total i j with hl | hl
          · exact pow_inj hw hp h hj' hl (by omega)
          · exact (pow_inj hw hp h hi' hl (by omega)).symm
        · simp only [if_pos hi', if_neg hj'] at e
          exact (hx ⟨i, hi', by omega⟩).elim
        · simp only [if_neg hi', if_pos hj'] at e
          exact (hx ⟨j, hj', by omega⟩).elim
        · omega)
    omega
theorem nat_fermat {p g : Nat} (hw : Whole p) (hp : 1 < p) (h : Gen p g) {a : Nat} (ha : ¬ p ∣ a) : a ^ (p - 1) % p = 1 := by
  obtain ⟨k, -, hk⟩ := log_ex hw hp h ha
  rw [Nat.pow_mod, ← hk, ← Nat.pow_mod, ← Nat.pow_mul, Nat.mul_comm, Nat.pow_mul, Nat.pow_mod, h.one, Nat.one_pow, Nat.mod_eq_of_lt hp]

/-- A number of a prime as a natural. -/
theorem red_nat {p a : Int} (h : kn p = true) (a0 : 0 ≤ a) (a1 : a < p) : ((a.toNat : Nat) : Int) = a ∧ ((p.toNat : Nat) : Int) = p ∧ 1 < p.toNat ∧ (a ≠ 0 → ¬ p.toNat ∣ a.toNat) := by
  have hb := kn_bd h
  refine ⟨by omega, by omega, by omega, fun hne hd => ?_⟩
  have := Nat.le_of_dvd (by omega) hd
  omega
theorem pw_nat {p a : Int} (h : kn p = true) (a0 : 0 ≤ a) (a1 : a < p) (n : Nat) : pw p a n = ((a.toNat ^ n % p.toNat : Nat) : Int) := by
  obtain ⟨e1, e2, -, -⟩ := red_nat h a0 a1
  rw [pw_kn _ _ h, Int.natCast_emod, Int.natCast_pow, e1, e2]
theorem fermat {p : Int} (h : kn p = true) (a : Int) (ha : red p a ≠ 0) : pw p a (p.toNat - 1) = 1 := by
  obtain ⟨b0, -, b1⟩ := red_bd p a
  obtain ⟨-, -, e3, e4⟩ := red_nat h b0 (b1 h)
  rw [← pw_redl, pw_nat h b0 (b1 h), nat_fermat (kn_whole h) e3 (kn_gen h) (e4 ha)]
  rfl

/-- What undoes a product with a. -/
def inv (p a : Int) : Int := pw p a (p.toNat - 2)
theorem inv_bd (p a : Int) : 0 ≤ inv p a ∧ inv p a < 18446744069414584321 ∧ (kn p = true → inv p a < p) := pw_bd _ _ _
theorem mul_inv {p : Int} (h : kn p = true) {a : Int} (ha : red p a ≠ 0) : mul p (inv p a) a = 1 := by
  unfold inv
  rw [← pw_succ, show p.toNat - 2 + 1 = p.toNat - 1 by have := kn_bd h; omega]
  exact fermat h a ha
/-- Only one number does so. -/
theorem inv_only {p : Int} (h : kn p = true) {a x : Int} (ha : red p a ≠ 0) (hx : mul p x a = 1) : inv p a = red p x := by
  have h1 := mul_inv h ha
  have := (mul_same h a (inv p a) x ha).1 (by rw [mul_comm p a, mul_comm p a, h1, hx])
  rw [show red p (inv p a) = inv p a from red_pw _ _ _] at this
  exact this
theorem ne_of_mul_one {p : Int} (h : kn p = true) {a x : Int} (hx : mul p x a = 1) : red p a ≠ 0 ∧ red p x ≠ 0 :=
  ⟨fun e => by rw [(mul_zero h x a).2 (.inr e)] at hx; omega, fun e => by rw [(mul_zero h x a).2 (.inl e)] at hx; omega⟩
theorem inv_inv {p : Int} (h : kn p = true) {a : Int} (ha : red p a ≠ 0) : inv p (inv p a) = red p a := by
  have h1 := mul_inv h ha
  exact inv_only h (ne_of_mul_one h h1).2 (by rw [mul_comm]; exact h1)
theorem inv_redl (p a : Int) : inv p (red p a) = inv p a := pw_redl _ _ _

end Go.Proofs.YtmcnamlgbkbiaaaDoor.Fp
