/-
  Several texts in one: Math, MathPow, MathRoot, MathFac, MathDft.
-/
import Derived.Test.YtlbfllaaabginaaDoorProg

/-!   The numbers of the three primes, as plain integers: sums, differences and products by a known prime, and that a product is 0 only if one of both is.
  No program is named here.
-/

namespace Go.Proofs.YtlbfllaaabginaaDoor.Fp

/-- Is it one of the three primes? -/
def kn (p : Int) : Bool := p == 18446744069414584321 || p == 998244353 || p == 2013265921
def red (p a : Int) : Int := if kn p = true then a % p else 0
def add (p a b : Int) : Int := if kn p = true then (a + b) % p else 0
def sub (p a b : Int) : Int := if kn p = true then (a - b) % p else 0
def mul (p a b : Int) : Int := if kn p = true then (a * b) % p else 0
def neg (p a : Int) : Int := sub p 0 a

theorem kn_cases {p : Int} (h : kn p = true) : p = 18446744069414584321 ∨ p = 998244353 ∨ p = 2013265921 := by
  simp only [kn, Bool.or_eq_true, beq_iff_eq] at h
  omega
theorem kn_bd {p : Int} (h : kn p = true) : 998244353 ≤ p ∧ p ≤ 18446744069414584321 := by
  rcases kn_cases h with h | h | h <;> omega
theorem kn_pos {p : Int} (h : kn p = true) : 0 < p := by have := kn_bd h; omega

theorem md_lo {p : Int} (a : Int) (h : 0 < p) : 0 ≤ a % p := Int.emod_nonneg a (by omega)
theorem md_hi {p : Int} (a : Int) (h : 0 < p) : a % p < p := Int.emod_lt_of_pos a h

/-- A number from 0 to p less 1 that differs by a multiple of p is the rest. -/
theorem md_eq {p a r q : Int} (h0 : 0 ≤ r) (h1 : r < p) (e : a = r + p * q) : a % p = r := by
  rw [e, Int.add_mul_emod_self_left, Int.emod_eq_of_lt h0 h1]

theorem md_split {p : Int} (a : Int) : ∃ q, a = a % p + p * q := ⟨a / p, (Int.emod_add_mul_ediv a p).symm⟩

theorem add_low {p a b : Int} (h : 0 < p) (hlt : a % p < p - b % p) : a % p + b % p = (a + b) % p := by
  obtain ⟨q, hq⟩ := md_split (p := p) a
  obtain ⟨r, hr⟩ := md_split (p := p) b
  have h1 := md_lo a h; have h2 := md_lo b h
  exact (md_eq (q := q + r) (by omega) (by omega) (by rw [Int.mul_add]; omega)).symm
theorem add_high {p a b : Int} (h : 0 < p) (hge : p - b % p ≤ a % p) : a % p - (p - b % p) = (a + b) % p := by
  obtain ⟨q, hq⟩ := md_split (p := p) a
  obtain ⟨r, hr⟩ := md_split (p := p) b
  have h1 := md_lo a h; have h2 := md_lo b h; have h3 := md_hi a h; have h4 := md_hi b h
  exact (md_eq (q := q + r + 1) (by omega) (by omega) (by rw [Int.mul_add, Int.mul_add]; omega)).symm
theorem sub_high {p a b : Int} (h : 0 < p) (hge : b % p ≤ a % p) : a % p - b % p = (a - b) % p := by
  obtain ⟨q, hq⟩ := md_split (p := p) a
  obtain ⟨r, hr⟩ := md_split (p := p) b
  have h1 := md_lo a h; have h2 := md_lo b h; have h3 := md_hi a h
  exact (md_eq (q := q - r) (by omega) (by omega) (by rw [Int.mul_sub]; omega)).symm
theorem sub_low {p a b : Int} (h : 0 < p) (hlt : a % p < b % p) : p - (b % p - a % p) = (a - b) % p := by
  obtain ⟨q, hq⟩ := md_split (p := p) a
  obtain ⟨r, hr⟩ := md_split (p := p) b
  have h1 := md_lo a h; have h2 := md_lo b h; have h3 := md_hi b h
  exact (md_eq (q := q - r - 1) (by omega) (by omega) (by rw [Int.mul_sub, Int.mul_sub]; omega)).symm
theorem md_mul (p a b : Int) : (a % p * b) % p = (a * b) % p := by rw [Int.mul_emod, Int.emod_emod, ← Int.mul_emod]
theorem mul_mdr (p a b : Int) : (a * (b % p)) % p = (a * b) % p := by rw [Int.mul_emod, Int.emod_emod, ← Int.mul_emod]
theorem mul_md {p a b : Int} : (a % p * (b % p)) % p = (a * b) % p := (Int.mul_emod a b p).symm

/-! What is told is from 0 to p less 1. -/
theorem red_bd (p a : Int) : 0 ≤ red p a ∧ red p a < 18446744069414584321 ∧ (kn p = true → red p a < p) := by
  unfold red
  by_cases h : kn p = true
  · have := kn_bd h; have h1 := md_lo a (kn_pos h); have h2 := md_hi a (kn_pos h)
    rw [if_pos h]; exact ⟨h1, by omega, fun _ => h2⟩
  · rw [if_neg h]; exact ⟨by omega, by omega, fun h' => absurd h' h⟩
theorem add_bd (p a b : Int) : 0 ≤ add p a b ∧ add p a b < 18446744069414584321 ∧ (kn p = true → add p a b < p) := red_bd p (a + b)
theorem sub_bd (p a b : Int) : 0 ≤ sub p a b ∧ sub p a b < 18446744069414584321 ∧ (kn p = true → sub p a b < p) := red_bd p (a - b)
theorem mul_bd (p a b : Int) : 0 ≤ mul p a b ∧ mul p a b < 18446744069414584321 ∧ (kn p = true → mul p a b < p) := red_bd p (a * b)
theorem neg_bd (p a : Int) : 0 ≤ neg p a ∧ neg p a < 18446744069414584321 ∧ (kn p = true → neg p a < p) := red_bd p (0 - a)
theorem red_no {p : Int} (a : Int) (h : kn p = false) : red p a = 0 := by unfold red; rw [if_neg (by simp [h])]

/-! ### The ring -/
theorem add_comm (p a b : Int) : add p a b = add p b a := by unfold add; rw [Int.add_comm]
theorem mul_comm (p a b : Int) : mul p a b = mul p b a := by unfold mul; rw [Int.mul_comm]
theorem add_assoc (p a b c : Int) : add p (add p a b) c = add p a (add p b c) := by
  unfold add; by_cases h : kn p = true
  · simp only [if_pos h]; rw [Int.emod_add_emod, Int.add_emod_emod, Int.add_assoc]
  · simp only [if_neg h]
theorem mul_assoc (p a b c : Int) : mul p (mul p a b) c = mul p a (mul p b c) := by
  unfold mul; by_cases h : kn p = true
  · simp only [if_pos h]; rw [md_mul, mul_mdr, Int.mul_assoc]
  · simp only [if_neg h]
theorem mul_add (p a b c : Int) : mul p a (add p b c) = add p (mul p a b) (mul p a c) := by
  unfold mul add; by_cases h : kn p = true
  · simp only [if_pos h]; rw [mul_mdr, Int.emod_add_emod, Int.add_emod_emod, Int.mul_add]
  · simp only [if_neg h]
theorem sub_add (p a b : Int) : sub p (add p a b) b = red p a := by
  unfold sub add red; by_cases h : kn p = true
  · simp only [if_pos h]; rw [Int.emod_sub_emod]; congr 1; omega
  · simp only [if_neg h]
theorem mul_one (p a : Int) : mul p a 1 = red p a := by
  unfold mul red; by_cases h : kn p = true
  · simp only [if_pos h]; rw [Int.mul_one]
  · simp only [if_neg h]
theorem add_neg (p a : Int) : add p a (neg p a) = 0 := by
  unfold add neg sub; by_cases h : kn p = true
  · simp only [if_pos h]; rw [Int.add_emod_emod]; have : a + (0 - a) = 0 := by omega
    rw [this]; simp
  · simp only [if_neg h]
theorem red_red (p a : Int) : red p (red p a) = red p a := by
  unfold red; by_cases h : kn p = true
  · simp only [if_pos h]; rw [Int.emod_emod]
  · simp only [if_neg h]

/-! ### The primes: no number between 1 and p divides p -/
theorem pigeon : ∀ (m n : Nat) (f : Nat → Nat), (∀ i, i < n → f i < m) → (∀ i j, i < n → j < n → f i = f j → i = j) → n ≤ m
  | 0, n, f, hb, _ => by
    cases n with
    | zero => exact Nat.le_refl _
    | succ n => have := hb 0 (by omega); omega
  | m + 1, n, f, hb, hi => by
    cases n with
    | zero => omega
    | succ n =>
      have h := pigeon m n (fun i => if f i = m then f n else f i)
        (by
          intro i hin
          have h1 := hb i (by omega); have h2 := hb n (by omega)
          by_cases e : f i = m
          · simp only [if_pos e]
            have : f n ≠ m := fun e' => by have := hi i n (by omega) (by omega) (by omega); omega
            omega
          · simp only [if_neg e]; omega)
        (by
          intro i j hin hjn e
          by_cases e1 : f i = m <;> by_cases e2 : f j = m
          · exact hi i j (by omega) (by omega) (by omega)
          · simp only [if_pos e1, if_neg e2] at e
            have := hi n j (by omega) (by omega) e; omega
          · simp only [if_neg e1, if_pos e2] at e
            have := hi i n (by omega) (by omega) e; omega
          · simp only [if_neg e1, if_neg e2] at e
            exact hi i j (by omega) (by omega) e)
      omega

theorem dvd_pow_one {d x : Int} (h : d ∣ x - 1) : ∀ n : Nat, d ∣ x ^ n - 1
  | 0 => ⟨0, by simp⟩
  | n + 1 => by
    obtain ⟨u, hu⟩ := h
    obtain ⟨v, hv⟩ := dvd_pow_one ⟨u, hu⟩ n
    exact ⟨x * v + u, by rw [Int.pow_succ]; grind⟩

theorem dvd_pow_odd {d x : Int} (h : d ∣ x + 1) (n : Nat) : d ∣ x ^ (2 * n + 1) + 1 := by
  obtain ⟨u, hu⟩ := h
  have h2 : d ∣ x ^ 2 - 1 := ⟨u * (x - 1), by grind⟩
  obtain ⟨v, hv⟩ := dvd_pow_one h2 n
  refine ⟨x * v + u, ?_⟩
  rw [Int.pow_succ, Int.pow_mul]; grind

/-- A power of b whose half is -1 has 2^(k+1) for its order. -/
theorem order_two {d : Int} (hd : ¬ d ∣ 2) : ∀ (k : Nat) (b : Int) (m : Nat), d ∣ b ^ (2 ^ k) + 1 → d ∣ b ^ m - 1 → 2 ^ (k + 1) ∣ m := by
  intro k
  induction k with
  | zero =>
    intro b m h1 h2
    by_cases e : m % 2 = 0
    · exact Nat.dvd_of_mod_eq_zero (by simpa using e)
    · exfalso
      obtain ⟨n, hn⟩ : ∃ n, m = 2 * n + 1 := ⟨m / 2, by omega⟩
      have h3 := dvd_pow_odd (x := b) (d := d) (by rw [Nat.pow_zero, Int.pow_one] at h1; exact h1) n
      rw [← hn] at h3
      obtain ⟨u, hu⟩ := h2; obtain ⟨v, hv⟩ := h3
      exact hd ⟨v - u, by grind⟩
  | succ k ih =>
    intro b m h1 h2
    by_cases e : m % 2 = 0
    · obtain ⟨n, hn⟩ : ∃ n, m = 2 * n := ⟨m / 2, by omega⟩
      subst hn
      have h3 := ih (b ^ 2) n (by rw [← Int.pow_mul]; rw [Nat.pow_succ, Nat.mul_comm] at h1; exact h1) (by rw [← Int.pow_mul]; exact h2)
      rw [Nat.pow_succ, Nat.mul_comm]
      exact Nat.mul_dvd_mul_left 2 h3
    · exfalso
      obtain ⟨n, hn⟩ : ∃ n, m = 2 * n + 1 := ⟨m / 2, by omega⟩
      have h3 := dvd_pow_odd h1 n
      rw [← hn, ← Int.pow_mul, Nat.mul_comm, Int.pow_mul] at h3
      have h4 := dvd_pow_one h2 (2 ^ (k + 1))
      obtain ⟨u, hu⟩ := h4; obtain ⟨v, hv⟩ := h3
      exact hd ⟨v - u, by grind⟩

theorem cancel_pow {d b u : Int} (hu : d ∣ b * u - 1) : ∀ (i : Nat) (x : Int), d ∣ b ^ i * x → d ∣ x
  | 0, x, h => by simpa using h
  | i + 1, x, h => by
    apply cancel_pow hu i
    obtain ⟨v, hv⟩ := h; obtain ⟨y, hy⟩ := hu
    rw [Int.pow_succ] at hv
    refine ⟨u * v - b ^ i * x * y, ?_⟩
    grind

theorem big_div {p b : Int} (k : Nat) (h : p ∣ b ^ (2 ^ k) + 1) {d : Nat} (hd : (d : Int) ∣ p) (h1 : 1 < d) (h2 : ¬ (d : Int) ∣ 2) : 2 ^ (k + 1) ≤ d := by
  have hb : (d : Int) ∣ b ^ (2 ^ k) + 1 := Int.dvd_trans hd h
  have hn : 2 ^ k = (2 ^ k - 1) + 1 := by have := Nat.two_pow_pos k; omega
  have hu : (d : Int) ∣ b * (- b ^ (2 ^ k - 1)) - 1 := by
    rw [hn, Int.pow_succ] at hb
    obtain ⟨v, hv⟩ := hb
    exact ⟨-v, by grind⟩
  have key : ∀ i j, i < j → j < 2 ^ (k + 1) → b ^ i % (d : Int) = b ^ j % (d : Int) → False := by
    intro i j hij hj e
    have e1 : (d : Int) ∣ b ^ i * (b ^ (j - i) - 1) := by
      have : b ^ j = b ^ i * b ^ (j - i) := by rw [← Int.pow_add]; congr 1; omega
      have e2 : (b ^ j - b ^ i) % (d : Int) = 0 := Int.emod_eq_emod_iff_emod_sub_eq_zero.1 e.symm
      have e3 := Int.dvd_of_emod_eq_zero e2
      rw [this] at e3
      rw [Int.mul_sub, Int.mul_one]; exact e3
    have e4 := order_two h2 k b (j - i) hb (cancel_pow hu i _ e1)
    have := Nat.le_of_dvd (by omega) e4
    omega
  refine pigeon d (2 ^ (k + 1)) (fun i => (b ^ i % (d : Int)).toNat) ?_ ?_
  · intro i _
    have := md_lo (p := (d : Int)) (b ^ i) (by omega); have := md_hi (p := (d : Int)) (b ^ i) (by omega)
    show (b ^ i % (d : Int)).toNat < d
    omega
  · intro i j hi hj e
    have a1 := md_lo (p := (d : Int)) (b ^ i) (by omega); have a2 := md_lo (p := (d : Int)) (b ^ j) (by omega)
    have e' : b ^ i % (d : Int) = b ^ j % (d : Int) := by
      have : (b ^ i % (d : Int)).toNat = (b ^ j % (d : Int)).toNat := e
      omega
    rcases Nat.lt_trichotomy i j with h | h | h
    · exact (key i j h hj e').elim
    · exact h
    · exact (key j i h hi e'.symm).elim

/-- Squared n times, by p. -/
def sqs (p : Nat) : Nat → Nat → Nat
  | 0, x => x
  | n + 1, x => sqs p n (x * x % p)
theorem sqs_pow (p : Nat) : ∀ n x, sqs p n x % p = x ^ (2 ^ n) % p
  | 0, x => by simp [sqs]
  | n + 1, x => by
    show sqs p n (x * x % p) % p = _
    rw [sqs_pow p n, ← Nat.pow_mod, Nat.pow_succ 2 n, Nat.mul_comm (2 ^ n) 2, Nat.pow_mul, Nat.pow_two]

theorem neg_one_of {p k b : Nat} (h : sqs p k b + 1 = p) : (p : Int) ∣ (b : Int) ^ (2 ^ k) + 1 := by
  have h1 := sqs_pow p k b
  have h2 : (b ^ (2 ^ k) + 1) % p = 0 := by
    rw [Nat.add_mod, ← h1, ← Nat.add_mod, h, Nat.mod_self]
  have := Nat.dvd_of_mod_eq_zero h2
  have h3 := Int.natCast_dvd_natCast.2 this
  simpa using h3

/-- p has no divisors but 1 and p. -/
def Whole (p : Nat) : Prop := ∀ d, d ∣ p → d = 1 ∨ d = p
theorem whole_of {p k b : Nat} (hp : p % 2 = 1) (h : sqs p k b + 1 = p) (hk : p < 2 ^ (k + 1) * 2 ^ (k + 1)) : Whole p := by
  intro d hd
  have hpos : 0 < p := by omega
  obtain ⟨e, he⟩ := hd
  have two : ∀ x : Nat, x ∣ p → 1 < x → ¬ (x : Int) ∣ 2 := by
    intro x hx h1 h2
    have h3 : x ∣ 2 := Int.natCast_dvd_natCast.1 h2
    have h4 := Nat.le_of_dvd (by omega) h3
    have : x = 2 := by omega
    subst this
    have := Nat.mod_eq_zero_of_dvd hx; omega
  have hn := neg_one_of h
  by_cases h1 : d = 1
  · exact .inl h1
  right
  have hd0 : d ≠ 0 := fun h0 => by subst h0; omega
  have he0 : e ≠ 0 := fun h0 => by subst h0; omega
  by_cases h2 : e = 1
  · subst h2; omega
  exfalso
  have hdp : d ∣ p := ⟨e, he⟩
  have hep : e ∣ p := ⟨d, by rw [he, Nat.mul_comm]⟩
  have a1 := big_div k hn (Int.natCast_dvd_natCast.2 hdp) (by omega) (two d hdp (by omega))
  have a2 := big_div k hn (Int.natCast_dvd_natCast.2 hep) (by omega) (two e hep (by omega))
  have := Nat.mul_le_mul a1 a2
  omega
theorem whole_dvd {p : Nat} (hw : Whole p) {a b : Nat} (h : p ∣ a * b) : p ∣ a ∨ p ∣ b := by
  by_cases ha : p ∣ a
  · exact .inl ha
  right
  rcases hw (Nat.gcd p a) (Nat.gcd_dvd_left p a) with h1 | h1
  · exact Nat.Coprime.dvd_of_dvd_mul_left h1 h
  · exact (ha (h1 ▸ Nat.gcd_dvd_right p a)).elim

theorem whole0 : Whole 18446744069414584321 := whole_of (k := 31) (b := 1753635133440165772) (by decide) (by decide +kernel) (by decide +kernel)
theorem whole1 : Whole 998244353 := whole_of (k := 14) (b := 968855178) (by decide) (by decide +kernel) (by decide +kernel)
theorem whole2 : Whole 2013265921 := whole_of (k := 15) (b := 1421947380) (by decide) (by decide +kernel) (by decide +kernel)
theorem kn_whole {p : Int} (h : kn p = true) : Whole p.toNat := by
  rcases kn_cases h with h | h | h <;> subst h
  · exact whole0
  · exact whole1
  · exact whole2

theorem mul_zero_iff {p : Int} (h : kn p = true) (a b : Int) : a * b % p = 0 ↔ a % p = 0 ∨ b % p = 0 := by
  have hp := kn_pos h
  have ep : ((p.toNat : Nat) : Int) = p := Int.toNat_of_nonneg (by omega)
  constructor
  · intro e
    have h1 := Int.dvd_of_emod_eq_zero e
    have h2 : p.toNat ∣ a.natAbs * b.natAbs := by
      rw [← Int.natAbs_mul]
      have := Int.natAbs_dvd_natAbs.2 h1
      have e2 : p.natAbs = p.toNat := by omega
      rwa [e2] at this
    have back : ∀ x : Int, p.toNat ∣ x.natAbs → x % p = 0 := by
      intro x hx
      apply Int.emod_eq_zero_of_dvd
      have := Int.natCast_dvd_natCast.2 hx
      rw [ep] at this
      exact Int.dvd_natAbs.1 this
    rcases whole_dvd (kn_whole h) h2 with h3 | h3
    · exact .inl (back a h3)
    · exact .inr (back b h3)
  · intro e
    rw [Int.mul_emod]
    rcases e with e | e <;> rw [e] <;> simp

theorem mul_zero {p : Int} (h : kn p = true) (a b : Int) : mul p a b = 0 ↔ red p a = 0 ∨ red p b = 0 := by
  unfold mul red; simp only [if_pos h]; exact mul_zero_iff h a b
theorem mul_same {p : Int} (h : kn p = true) (a b c : Int) (ha : red p a ≠ 0) : mul p a b = mul p a c ↔ red p b = red p c := by
  unfold red at ha; unfold mul red; simp only [if_pos h] at *
  rw [Int.emod_eq_emod_iff_emod_sub_eq_zero, ← Int.mul_sub, mul_zero_iff h, Int.emod_eq_emod_iff_emod_sub_eq_zero (m := b)]
  constructor
  · intro e; rcases e with e | e
    · exact absurd e ha
    · exact e
  · exact .inr

end Go.Proofs.YtlbfllaaabginaaDoor.Fp

/-!   Powers by the three primes, as plain integers: powers of sums and products; each prime has a generator whose order is p less 1;
  so of what is not 0 the power p less 1 is 1, and the power p less 2 undoes it. No program is named here.
-/

namespace Go.Proofs.YtlbfllaaabginaaDoor.Fp

/-- The power n of a, by p; 0, if p is no prime. -/
def pw (p a : Int) (n : Nat) : Int := red p (a ^ n)
theorem pw_bd (p a : Int) (n : Nat) : 0 ≤ pw p a n ∧ pw p a n < 18446744069414584321 ∧ (kn p = true → pw p a n < p) := red_bd p (a ^ n)
theorem pw_no {p : Int} (a : Int) (n : Nat) (h : kn p = false) : pw p a n = 0 := red_no _ h
theorem pw_kn {p : Int} (a : Int) (n : Nat) (h : kn p = true) : pw p a n = a ^ n % p := by unfold pw red; rw [if_pos h]
theorem red_kn {p : Int} (a : Int) (h : kn p = true) : red p a = a % p := by unfold red; rw [if_pos h]
theorem mul_kn {p : Int} (a b : Int) (h : kn p = true) : mul p a b = (a * b) % p := by unfold mul; rw [if_pos h]
theorem mul_no {p : Int} (a b : Int) (h : kn p = false) : mul p a b = 0 := red_no _ h
theorem mul_red (p a b : Int) : mul p a b = red p (a * b) := rfl
theorem mul_redl (p a b : Int) : mul p (red p a) b = mul p a b := by
  cases h : kn p
  · rw [mul_no _ _ h, mul_no _ _ h]
  · rw [mul_kn _ _ h, mul_kn _ _ h, red_kn _ h, md_mul]
theorem mul_redr (p a b : Int) : mul p a (red p b) = mul p a b := by rw [mul_comm, mul_redl, mul_comm]
theorem red_mul (p a b : Int) : red p (mul p a b) = mul p a b := by rw [mul_red, red_red]
theorem red_pw (p a : Int) (n : Nat) : red p (pw p a n) = pw p a n := red_red _ _
theorem red_lt {p a : Int} (h : kn p = true) (a0 : 0 ≤ a) (a1 : a < p) : red p a = a := by rw [red_kn _ h, Int.emod_eq_of_lt a0 a1]
theorem red_one {p : Int} (h : kn p = true) : red p 1 = 1 := red_lt h (by omega) (by have := kn_bd h; omega)
theorem pw_zero (p a : Int) : pw p a 0 = red p 1 := by unfold pw; rw [Int.pow_zero]
theorem pw_one (p a : Int) : pw p a 1 = red p a := by unfold pw; rw [Int.pow_one]
theorem pw_succ (p a : Int) (n : Nat) : pw p a (n + 1) = mul p (pw p a n) a := by
  unfold pw; rw [mul_redl, mul_red, Int.pow_succ]
theorem pw_add (p a : Int) (n m : Nat) : pw p a (n + m) = mul p (pw p a n) (pw p a m) := by
  unfold pw; rw [mul_redl, mul_redr, mul_red, Int.pow_add]
theorem pw_redl (p a : Int) : ∀ n, pw p (red p a) n = pw p a n
  | 0 => by rw [pw_zero, pw_zero]
  | n + 1 => by rw [pw_succ, pw_succ, pw_redl p a n, mul_redr]
theorem pw_mul (p a : Int) (n m : Nat) : pw p a (n * m) = pw p (pw p a n) m := by
  show red p _ = pw p (red p (a ^ n)) m
  rw [pw_redl, Int.pow_mul]; rfl
theorem pw_mulb (p a b : Int) (n : Nat) : pw p (mul p a b) n = mul p (pw p a n) (pw p b n) := by
  rw [mul_red, pw_redl]; unfold pw; rw [mul_redl, mul_redr, mul_red, Int.mul_pow]

/-! One step of squaring. -/
theorem sq_even (p x y : Int) (m : Nat) (h : m % 2 = 0) : red p (x * mul p y y ^ (m / 2)) = red p (x * y ^ m) := by
  obtain ⟨k, rfl⟩ : ∃ k, m = 2 * k := ⟨m / 2, by omega⟩
  rw [show 2 * k / 2 = k by omega, ← mul_red, ← mul_red, ← mul_redr, ← mul_redr p x (y ^ (2 * k))]
  show mul p x (pw p _ k) = mul p x (pw p y (2 * k))
  rw [pw_mul, show mul p y y = pw p y 2 from by rw [mul_red]; unfold pw; rw [Int.pow_succ, Int.pow_one]]
theorem sq_odd (p x y : Int) (m : Nat) (h : m % 2 = 1) : red p (mul p x y * mul p y y ^ (m / 2)) = red p (x * y ^ m) := by
  obtain ⟨k, rfl⟩ : ∃ k, m = 2 * k + 1 := ⟨m / 2, by omega⟩
  have e := sq_even p (x * y) y (2 * k) (by omega)
  rw [show 2 * k / 2 = k by omega] at e
  rw [show (2 * k + 1) / 2 = k by omega, ← mul_red, mul_red p x y, mul_redl, mul_red, e, Int.pow_succ, Int.mul_assoc, Int.mul_comm y]

/-! Powers reckoned by squaring, for the kernel. -/
def pwf (p : Nat) : Nat → Nat → Nat → Nat
  | 0, _, _ => 1 % p
  | f + 1, a, n => if n = 0 then 1 % p else if n % 2 = 1 then a * pwf p f (a * a % p) (n / 2) % p else pwf p f (a * a % p) (n / 2)
theorem pwf_eq (p : Nat) : ∀ f a n, n < 2 ^ f → pwf p f a n = a ^ n % p
  | 0, a, n, h => by obtain rfl : n = 0 := by simpa using h
                     simp [pwf]
  | f + 1, a, n, h => by
    rw [pwf]
    by_cases h0 : n = 0
    · subst h0; simp
    · rw [if_neg h0]
      have hl : n / 2 < 2 ^ f := by rw [Nat.pow_succ] at h; omega
      rw [pwf_eq p f _ _ hl, ← Nat.pow_mod]
      by_cases h1 : n % 2 = 1
      · rw [if_pos h1]
        obtain ⟨k, rfl⟩ : ∃ k, n = 2 * k + 1 := ⟨n / 2, by omega⟩
        rw [show (2 * k + 1) / 2 = k by omega, Nat.mul_mod, Nat.mod_mod, ← Nat.mul_mod, Nat.pow_succ, Nat.pow_mul, Nat.pow_two, Nat.mul_comm]
      · rw [if_neg h1]
        obtain ⟨k, rfl⟩ : ∃ k, n = 2 * k := ⟨n / 2, by omega⟩
        rw [show 2 * k / 2 = k by omega, Nat.pow_mul, Nat.pow_two]

/-! ### A number's order, in plain naturals: g to the m is 1 by p just if n divides m -/
theorem one_gcd {p g : Nat} (m n : Nat) : g ^ m % p = 1 % p → g ^ n % p = 1 % p → g ^ Nat.gcd m n % p = 1 % p := by
  induction m, n using Nat.gcd.induction with
  | H0 n => intro _ h; simpa using h
  | H1 m n hm ih =>
    intro h1 h2
    rw [Nat.gcd_rec]
    refine ih ?_ h1
    have e : g ^ n = g ^ (n % m) * (g ^ m) ^ (n / m) := by rw [← Nat.pow_mul, ← Nat.pow_add, Nat.mod_add_div]
    rw [e, Nat.mul_mod, Nat.pow_mod (g ^ m), h1, ← Nat.pow_mod, Nat.one_pow, ← Nat.mul_mod, Nat.mul_one] at h2
    exact h2
theorem cop_of {q e : Nat} (hq : Whole q) (h : ¬ q ∣ e) : Nat.Coprime e q := by
  rcases hq (Nat.gcd e q) (Nat.gcd_dvd_right e q) with h1 | h1
  · exact h1
  · exact (h (h1 ▸ Nat.gcd_dvd_left e q)).elim
theorem cop_prod {e : Nat} : ∀ qs : List Nat, (∀ q ∈ qs, Nat.Coprime e q) → Nat.Coprime e (qs.foldr (· * ·) 1)
  | [], _ => Nat.coprime_one_right e
  | q :: qs, h => Nat.Coprime.mul_right (h q (by simp)) (cop_prod qs (fun x hx => h x (by simp [hx])))
/-- What divides n, and is not n, divides n by one of its primes. -/
theorem part_of {n d k : Nat} {qs : List Nat} (hq : ∀ q ∈ qs, Whole q) (hn : 0 < n) (hk : n ∣ (qs.foldr (· * ·) 1) ^ k) (hd : d ∣ n) (hne : d ≠ n) : ∃ q ∈ qs, q ∣ n ∧ d ∣ n / q := by
  obtain ⟨e, he⟩ := hd
  have hex : ∃ q ∈ qs, q ∣ e := by
    by_cases hx : ∃ q ∈ qs, q ∣ e
    · exact hx
    · exfalso
      have hc : Nat.Coprime e (qs.foldr (· * ·) 1) := cop_prod qs (fun q hqm => cop_of (hq q hqm) (fun h => hx ⟨q, hqm, h⟩))
      have hc2 : Nat.Coprime e ((qs.foldr (· * ·) 1) ^ k) := Nat.Coprime.pow_right k hc
      have h1 : e ∣ (qs.foldr (· * ·) 1) ^ k := Nat.dvd_trans ⟨d, by rw [he, Nat.mul_comm]⟩ hk
      have h2 : e = 1 := by
        have := Nat.gcd_eq_left h1
        rw [hc2] at this; exact this.symm
      subst h2; omega
  obtain ⟨q, hqm, f, hf⟩ := hex
  have hq0 : 0 < q := by
    rcases Nat.eq_zero_or_pos q with h | h
    · subst h; subst hf; simp at he; omega
    · exact h
  refine ⟨q, hqm, ⟨d * f, by rw [he, hf]; exact Nat.mul_left_comm _ _ _⟩, f, ?_⟩
  rw [he, hf, Nat.mul_left_comm, Nat.mul_div_cancel_left _ hq0]
theorem order_of {p g n k : Nat} {qs : List Nat} (hq : ∀ q ∈ qs, Whole q) (hn : 0 < n) (hk : n ∣ (qs.foldr (· * ·) 1) ^ k)
    (h1 : g ^ n % p = 1 % p) (h2 : ∀ q ∈ qs, g ^ (n / q) % p ≠ 1 % p) (m : Nat) (hm : g ^ m % p = 1 % p) : n ∣ m := by
  have hg := one_gcd (p := p) (g := g) m n hm h1
  by_cases he : Nat.gcd m n = n
  · rw [← he]; exact Nat.gcd_dvd_left m n
  · obtain ⟨q, hqm, -, c, hc⟩ := part_of hq hn hk (Nat.gcd_dvd_right m n) he
    refine (h2 q hqm ?_).elim
    rw [hc, Nat.pow_mul, Nat.pow_mod, hg, ← Nat.pow_mod, Nat.one_pow]

/-- g is a generator by p. -/
structure Gen (p g : Nat) : Prop where
  one : g ^ (p - 1) % p = 1
  least : ∀ m, g ^ m % p = 1 → p - 1 ∣ m
theorem gen_of {p g f k : Nat} {qs : List Nat} (hp : 1 < p) (hq : ∀ q ∈ qs, Whole q) (hk : p - 1 ∣ (qs.foldr (· * ·) 1) ^ k) (hf : p < 2 ^ f)
    (h1 : pwf p f g (p - 1) = 1) (h2 : qs.all (fun q => pwf p f g ((p - 1) / q) != 1) = true) : Gen p g := by
  have e1 : 1 % p = 1 := Nat.mod_eq_of_lt hp
  have a1 : g ^ (p - 1) % p = 1 := by rw [pwf_eq p f g _ (by omega)] at h1; exact h1
  refine ⟨a1, fun m hm => order_of hq (by omega) hk (by rw [e1]; exact a1) ?_ m (by rw [e1]; exact hm)⟩
  intro q hqm h
  rw [e1] at h
  have := List.all_eq_true.1 h2 q hqm
  rw [pwf_eq p f g _ (by have := Nat.div_le_self (p - 1) q; omega), h] at this
  simp at this

theorem whole_small {q : Nat} (h0 : 0 < q) (h : ((List.range (q + 1)).all fun d => d == 0 || d == 1 || d == q || q % d != 0) = true) : Whole q := by
  intro d hd
  have hl := Nat.le_of_dvd h0 hd
  have := List.all_eq_true.1 h d (List.mem_range.2 (by omega))
  simp only [Bool.or_eq_true, beq_iff_eq, bne_iff_ne] at this
  have hm := Nat.mod_eq_zero_of_dvd hd
  rcases this with ((h1 | h1) | h1) | h1
  · subst h1; rw [Nat.zero_dvd] at hd; omega
  · exact .inl h1
  · exact .inr h1
  · exact (h1 hm).elim
theorem whole_2 : Whole 2 := whole_small (by decide) (by decide +kernel)
theorem whole_3 : Whole 3 := whole_small (by decide) (by decide +kernel)
theorem whole_5 : Whole 5 := whole_small (by decide) (by decide +kernel)
theorem whole_7 : Whole 7 := whole_small (by decide) (by decide +kernel)
theorem whole_17 : Whole 17 := whole_small (by decide) (by decide +kernel)
theorem whole_257 : Whole 257 := whole_small (by decide) (by decide +kernel)
theorem whole_65537 : Whole 65537 := whole_of (k := 15) (b := 3) (by decide) (by decide +kernel) (by decide +kernel)
theorem gen0 : Gen 18446744069414584321 7 := gen_of (f := 64) (k := 32) (qs := [2, 3, 5, 17, 257, 65537]) (by decide)
  (by intro q hq; simp only [List.mem_cons, List.not_mem_nil, or_false] at hq
      rcases hq with h | h | h | h | h | h <;> subst h
      · exact whole_2
      · exact whole_3
      · exact whole_5
      · exact whole_17
      · exact whole_257
      · exact whole_65537)
  (Nat.dvd_of_mod_eq_zero (by decide +kernel)) (by decide +kernel) (by decide +kernel) (by decide +kernel)
theorem gen1 : Gen 998244353 3 := gen_of (f := 64) (k := 32) (qs := [2, 7, 17]) (by decide)
  (by intro q hq; simp only [List.mem_cons, List.not_mem_nil, or_false] at hq
      rcases hq with h | h | h <;> subst h
      · exact whole_2
      · exact whole_7
      · exact whole_17)
  (Nat.dvd_of_mod_eq_zero (by decide +kernel)) (by decide +kernel) (by decide +kernel) (by decide +kernel)
theorem gen2 : Gen 2013265921 31 := gen_of (f := 64) (k := 32) (qs := [2, 3, 5]) (by decide)
  (by intro q hq; simp only [List.mem_cons, List.not_mem_nil, or_false] at hq
      rcases hq with h | h | h <;> subst h
      · exact whole_2
      · exact whole_3
      · exact whole_5)
  (Nat.dvd_of_mod_eq_zero (by decide +kernel)) (by decide +kernel) (by decide +kernel) (by decide +kernel)

/-- The generator of a prime. -/
def gen (p : Int) : Nat := if p = 18446744069414584321 then 7 else if p = 998244353 then 3 else if p = 2013265921 then 31 else 0
theorem kn_gen {p : Int} (h : kn p = true) : Gen p.toNat (gen p) := by
  rcases kn_cases h with h | h | h <;> subst h
  · exact gen0
  · exact gen1
  · exact gen2

/-! ### Every number that is not 0 is a power of the generator -/
theorem nat_zero {p : Nat} (hw : Whole p) (hp : 1 < p) {g : Nat} (hg : ¬ p ∣ g) : ∀ n, ¬ p ∣ g ^ n
  | 0 => fun h => by rw [Nat.pow_zero] at h; have := Nat.le_of_dvd (by omega) h; omega
  | n + 1 => fun h => by
    rw [Nat.pow_succ] at h
    rcases whole_dvd hw h with h | h
    · exact nat_zero hw hp hg n h
    · exact hg h
theorem gen_ne {p g : Nat} (hp : 1 < p) (h : Gen p g) : ¬ p ∣ g := by
  intro hd
  have h1 := h.one
  have : p ∣ g ^ (p - 1) := by
    obtain ⟨k, hk⟩ : ∃ k, p - 1 = k + 1 := ⟨p - 2, by omega⟩
    rw [hk, Nat.pow_succ]; exact Nat.dvd_trans hd ⟨_, Nat.mul_comm _ _⟩
  rw [Nat.mod_eq_zero_of_dvd this] at h1; omega
theorem pow_inj {p g : Nat} (hw : Whole p) (hp : 1 < p) (h : Gen p g) {i j : Nat} (hj : j < p - 1) (hij : i ≤ j) (e : g ^ i % p = g ^ j % p) : i = j := by
  have h0 := nat_zero hw hp (gen_ne hp h) i
  have e1 : (g ^ i * g ^ (j - i)) % p = (g ^ i * 1) % p := by rw [← Nat.pow_add, show i + (j - i) = j by omega, Nat.mul_one]; exact e.symm
  have key : ∀ a : Nat, 0 < a → (g ^ i * a) % p = (g ^ i * 1) % p → a % p = 1 := by
    intro a ha e
    have hd : p ∣ g ^ i * (a - 1) := by
      rw [Nat.mul_sub]
      exact Nat.dvd_of_mod_eq_zero (Nat.sub_mod_eq_zero_of_mod_eq e)
    rcases whole_dvd hw hd with hd | hd
    · exact (h0 hd).elim
    · obtain ⟨c, hc⟩ := hd
      rw [show a = 1 + p * c by omega, Nat.add_mul_mod_self_left, Nat.mod_eq_of_lt hp]
  have hg0 : 0 < g := by
    rcases Nat.eq_zero_or_pos g with h' | h'
    · exact ((gen_ne hp h) (h' ▸ Nat.dvd_zero p)).elim
    · exact h'
  have := h.least _ (key _ (Nat.pow_pos hg0) e1)
  by_cases he : j - i = 0
  · omega
  · have := Nat.le_of_dvd (by omega) this; omega
theorem log_ex {p g : Nat} (hw : Whole p) (hp : 1 < p) (h : Gen p g) {a : Nat} (ha : ¬ p ∣ a) : ∃ k, k < p - 1 ∧ g ^ k % p = a % p := by
  by_cases hx : ∃ k, k < p - 1 ∧ g ^ k % p = a % p
  · exact hx
  · exfalso
    have nz : ∀ x, ¬ p ∣ x → 0 < x % p ∧ x % p < p := fun x hx => ⟨by
      rcases Nat.eq_zero_or_pos (x % p) with h0 | h0
      · exact (hx (Nat.dvd_of_mod_eq_zero h0)).elim
      · exact h0, Nat.mod_lt _ (by omega)⟩
    have b := pigeon (p - 1) p (fun i => if i < p - 1 then g ^ i % p - 1 else a % p - 1)
      (by
        intro i _
        have h1 := nz _ (nat_zero hw hp (gen_ne hp h) i); have h2 := nz _ ha
        by_cases hi : i < p - 1
        · simp only [if_pos hi]; omega
        · simp only [if_neg hi]; omega)
      (by
        intro i j hi hj e
        have h1 := nz _ (nat_zero hw hp (gen_ne hp h) i); have h2 := nz _ ha; have h3 := nz _ (nat_zero hw hp (gen_ne hp h) j)
        by_cases hi' : i < p - 1 <;> by_cases hj' : j < p - 1
        · simp only [if_pos hi', if_pos hj'] at e
          rcases Nat.le_total i j with hl | hl
          · exact pow_inj hw hp h hj' hl (by omega)
          · exact (pow_inj hw hp h hi' hl (by omega)).symm
        · simp only [if_pos hi', if_neg hj'] at e
          exact (hx ⟨i, hi', by omega⟩).elim
        · simp only [if_neg hi', if_pos hj'] at e
          exact (hx ⟨j, hj', by omega⟩).elim
        · omega)
    omega
theorem nat_fermat {p g : Nat} (hw : Whole p) (hp : 1 < p) (h : Gen p g) {a : Nat} (ha : ¬ p ∣ a) : a ^ (p - 1) % p = 1 := by
  obtain ⟨k, -, hk⟩ := log_ex hw hp h ha
  rw [Nat.pow_mod, ← hk, ← Nat.pow_mod, ← Nat.pow_mul, Nat.mul_comm, Nat.pow_mul, Nat.pow_mod, h.one, Nat.one_pow, Nat.mod_eq_of_lt hp]

/-- A number of a prime as a natural. -/
theorem red_nat {p a : Int} (h : kn p = true) (a0 : 0 ≤ a) (a1 : a < p) : ((a.toNat : Nat) : Int) = a ∧ ((p.toNat : Nat) : Int) = p ∧ 1 < p.toNat ∧ (a ≠ 0 → ¬ p.toNat ∣ a.toNat) := by
  have hb := kn_bd h
  refine ⟨by omega, by omega, by omega, fun hne hd => ?_⟩
  have := Nat.le_of_dvd (by omega) hd
  omega
theorem pw_nat {p a : Int} (h : kn p = true) (a0 : 0 ≤ a) (a1 : a < p) (n : Nat) : pw p a n = ((a.toNat ^ n % p.toNat : Nat) : Int) := by
  obtain ⟨e1, e2, -, -⟩ := red_nat h a0 a1
  rw [pw_kn _ _ h, Int.natCast_emod, Int.natCast_pow, e1, e2]
theorem fermat {p : Int} (h : kn p = true) (a : Int) (ha : red p a ≠ 0) : pw p a (p.toNat - 1) = 1 := by
  obtain ⟨b0, -, b1⟩ := red_bd p a
  obtain ⟨-, -, e3, e4⟩ := red_nat h b0 (b1 h)
  rw [← pw_redl, pw_nat h b0 (b1 h), nat_fermat (kn_whole h) e3 (kn_gen h) (e4 ha)]
  rfl

/-- What undoes a product with a. -/
def inv (p a : Int) : Int := pw p a (p.toNat - 2)
theorem inv_bd (p a : Int) : 0 ≤ inv p a ∧ inv p a < 18446744069414584321 ∧ (kn p = true → inv p a < p) := pw_bd _ _ _
theorem mul_inv {p : Int} (h : kn p = true) {a : Int} (ha : red p a ≠ 0) : mul p (inv p a) a = 1 := by
  unfold inv
  rw [← pw_succ, show p.toNat - 2 + 1 = p.toNat - 1 by have := kn_bd h; omega]
  exact fermat h a ha
/-- Only one number does so. -/
theorem inv_only {p : Int} (h : kn p = true) {a x : Int} (ha : red p a ≠ 0) (hx : mul p x a = 1) : inv p a = red p x := by
  have h1 := mul_inv h ha
  have := (mul_same h a (inv p a) x ha).1 (by rw [mul_comm p a, mul_comm p a, h1, hx])
  rw [show red p (inv p a) = inv p a from red_pw _ _ _] at this
  exact this
theorem ne_of_mul_one {p : Int} (h : kn p = true) {a x : Int} (hx : mul p x a = 1) : red p a ≠ 0 ∧ red p x ≠ 0 :=
  ⟨fun e => by rw [(mul_zero h x a).2 (.inr e)] at hx; omega, fun e => by rw [(mul_zero h x a).2 (.inl e)] at hx; omega⟩
theorem inv_inv {p : Int} (h : kn p = true) {a : Int} (ha : red p a ≠ 0) : inv p (inv p a) = red p a := by
  have h1 := mul_inv h ha
  exact inv_only h (ne_of_mul_one h h1).2 (by rw [mul_comm]; exact h1)
theorem inv_redl (p a : Int) : inv p (red p a) = inv p a := pw_redl _ _ _

end Go.Proofs.YtlbfllaaabginaaDoor.Fp

/-!   Roots by the three primes, as plain integers: the root of order n has the order n, what undoes it too; the power m of the root of n times m is the root of n; all powers of a number other than 1 whose power n is 1 together are 0.
  No program is named here.
-/

namespace Go.Proofs.YtlbfllaaabginaaDoor.Fp

/-- The root of order n. -/
def rt (p : Int) (n : Nat) : Int := pw p (gen p) ((p.toNat - 1) / n)
theorem rt_bd (p : Int) (n : Nat) : 0 ≤ rt p n ∧ rt p n < 18446744069414584321 ∧ (kn p = true → rt p n < p) := pw_bd _ _ _
theorem gen_lt (p : Int) : gen p ≤ 31 := by unfold gen; split; omega; split; omega; split <;> omega
theorem gen_bd (p : Int) : 0 ≤ (gen p : Int) ∧ (gen p : Int) < 18446744073709551616 := by have := gen_lt p; omega

theorem gen_pw {p : Int} (h : kn p = true) (m : Nat) : pw p (gen p) m = 1 ↔ p.toNat - 1 ∣ m := by
  have hb := kn_bd h
  have hg := kn_gen h
  have hl := gen_lt p
  rw [pw_nat h (by omega) (by omega)]
  rw [show ((gen p : Int)).toNat = gen p by omega]
  constructor
  · intro e
    exact hg.least m (by omega)
  · rintro ⟨c, rfl⟩
    rw [Nat.pow_mul, Nat.pow_mod, hg.one, Nat.one_pow, Nat.mod_eq_of_lt (by omega)]
    rfl
theorem rt_pw {p : Int} (h : kn p = true) {n : Nat} (hd : n ∣ p.toNat - 1) (m : Nat) : pw p (rt p n) m = 1 ↔ n ∣ m := by
  have hb := kn_bd h
  unfold rt
  rw [← pw_mul, gen_pw h]
  obtain ⟨c, hc⟩ := hd
  have hn : 0 < n := by
    rcases Nat.eq_zero_or_pos n with e | e
    · subst e; simp at hc; omega
    · exact e
  have hc0 : 0 < c := by
    rcases Nat.eq_zero_or_pos c with e | e
    · subst e; simp at hc; omega
    · exact e
  rw [hc, Nat.mul_div_cancel_left _ hn, Nat.mul_comm n c]
  exact Nat.mul_dvd_mul_iff_left hc0
theorem rt_ne {p : Int} (h : kn p = true) {n : Nat} (hd : n ∣ p.toNat - 1) (hn : 0 < n) : red p (rt p n) ≠ 0 := by
  have h1 := (rt_pw h hd n).2 (Nat.dvd_refl n)
  obtain ⟨k, rfl⟩ : ∃ k, n = k + 1 := ⟨n - 1, by omega⟩
  rw [pw_succ] at h1
  exact (ne_of_mul_one h h1).1

theorem pw_one_base {p : Int} (h : kn p = true) : ∀ m, pw p 1 m = 1
  | 0 => by rw [pw_zero, red_one h]
  | m + 1 => by rw [pw_succ, pw_one_base h m, mul_one, red_one h]
theorem one_mul (p a : Int) : mul p 1 a = red p a := by rw [mul_comm, mul_one]
/-- What undoes a number comes around where it does. -/
theorem inv_pw {p : Int} (h : kn p = true) {a : Int} (ha : red p a ≠ 0) (m : Nat) : pw p (inv p a) m = 1 ↔ pw p a m = 1 := by
  have h1 : mul p (pw p (inv p a) m) (pw p a m) = 1 := by rw [← pw_mulb, mul_inv h ha, pw_one_base h]
  constructor
  · intro e; rw [e, one_mul, red_pw] at h1; exact h1
  · intro e; rw [e, mul_one, red_pw] at h1; exact h1

/-- Has a the order n: its power n is 1, and none ahead. -/
def ord (p a : Int) (n : Nat) : Bool := (List.range n).all (fun k => decide (k = 0) || decide (pw p a k ≠ 1)) && decide (pw p a n = 1)
theorem ord_yes {p a : Int} {n : Nat} (h1 : ∀ k, 0 < k → k < n → pw p a k ≠ 1) (h2 : pw p a n = 1) : ord p a n = true := by
  unfold ord
  rw [Bool.and_eq_true, List.all_eq_true]
  refine ⟨fun k hk => ?_, decide_eq_true h2⟩
  rw [List.mem_range] at hk
  by_cases e : k = 0
  · simp [e]
  · simp [e, h1 k (by omega) hk]
theorem ord_no {p a : Int} {n k : Nat} (h0 : 0 < k) (hk : k < n) (h1 : pw p a k = 1) : ord p a n = false := by
  unfold ord
  rw [Bool.and_eq_false_iff]
  left
  rw [List.all_eq_false]
  exact ⟨k, List.mem_range.2 hk, by simp [h1]; omega⟩
theorem ord_last {p a : Int} {n : Nat} (h1 : ∀ k, 0 < k → k < n → pw p a k ≠ 1) : ord p a n = (pw p a n == 1) := by
  by_cases h2 : pw p a n = 1
  · rw [ord_yes h1 h2, h2]; rfl
  · unfold ord
    rw [decide_eq_false h2, Bool.and_false]
    exact (beq_eq_false_iff_ne.2 h2).symm
theorem ord_of {p a : Int} {n : Nat} (hn : 0 < n) (h : ∀ m, pw p a m = 1 ↔ n ∣ m) {m : Nat} (hm : 0 < m) : ord p a m = decide (m = n) := by
  by_cases e : m = n
  · subst e
    rw [decide_eq_true rfl]
    exact ord_yes (fun k k0 hk e => by have := Nat.le_of_dvd k0 ((h k).1 e); omega) ((h m).2 (Nat.dvd_refl m))
  · rw [decide_eq_false e]
    by_cases hl : n < m
    · exact ord_no hn hl ((h n).2 (Nat.dvd_refl n))
    · unfold ord
      rw [Bool.and_eq_false_iff]
      right
      exact decide_eq_false (fun e' => by have := Nat.le_of_dvd hm ((h m).1 e'); omega)

/-- The sum of the powers 0 to n less 1 of a. -/
def psum (p a : Int) : Nat → Int
  | 0 => 0
  | n + 1 => add p (psum p a n) (pw p a n)
theorem psum_bd (p a : Int) (n : Nat) : 0 ≤ psum p a n ∧ psum p a n < 18446744069414584321 ∧ (kn p = true → psum p a n < p) := by
  cases n with
  | zero => exact ⟨by unfold psum; omega, by unfold psum; omega, fun h => by have := kn_bd h; unfold psum; omega⟩
  | succ n => exact add_bd p _ _
theorem psum_one {p : Int} (h : kn p = true) : ∀ n : Nat, (n : Int) < p → psum p 1 n = n
  | 0, _ => rfl
  | n + 1, hn => by
    rw [psum, psum_one h n (by omega), pw_one_base h]
    show red p ((n : Int) + 1) = _
    rw [red_lt h (by omega) (by omega)]; omega
theorem add_kn {p a b : Int} (h : kn p = true) : add p a b = (a + b) % p := if_pos h
/-- The number less 1, times the sum, is the power n less 1. -/
theorem psum_tele {p : Int} (h : kn p = true) (a : Int) : ∀ n : Nat, ((a - 1) * psum p a n) % p = (a ^ n - 1) % p
  | 0 => by simp [psum]
  | n + 1 => by
    have ih := psum_tele h a n
    rw [psum, add_kn h, pw_kn _ _ h, Int.add_emod_emod, mul_mdr, Int.mul_add, ← Int.emod_add_emod, ih, Int.emod_add_emod]
    congr 1
    rw [Int.pow_succ]; grind
theorem psum_zero {p : Int} (h : kn p = true) {a : Int} {n : Nat} (h1 : pw p a n = 1) (ha : red p a ≠ 1) : psum p a n = 0 := by
  have hb := kn_bd h
  have ht := psum_tele h a n
  have h2 : (a ^ n - 1) % p = 0 := by
    rw [pw_kn _ _ h] at h1
    rw [← Int.emod_sub_emod, h1]; rfl
  rw [h2, mul_zero_iff h] at ht
  rcases ht with e | e
  · exfalso; apply ha
    rw [red_kn _ h]
    have : a % p = 1 % p := Int.emod_eq_emod_iff_emod_sub_eq_zero.2 e
    rw [this, Int.emod_eq_of_lt (by omega) (by omega)]
  · obtain ⟨b0, -, b1⟩ := psum_bd p a n
    rwa [Int.emod_eq_of_lt b0 (b1 h)] at e

end Go.Proofs.YtlbfllaaabginaaDoor.Fp

/-!   Plain mathematics of layer 4: the radices of a size, what is left over, their product, and which sizes may be. No program is named here.
-/

namespace Go.Proofs.YtlbfllaaabginaaDoor.Fac

/-- A radix: a number of 2 to 5. -/
abbrev Rad := { r : Nat // 2 ≤ r ∧ r ≤ 5 }
def four : List Rad := [⟨4, by decide⟩, ⟨2, by decide⟩, ⟨3, by decide⟩, ⟨5, by decide⟩]

/-- The radices of m that are told, of those in rs, each as often as may be (fuel ahead). -/
def tell : Nat → List Rad → Nat → List Rad
  | 0, _, _ => []
  | _ + 1, [], _ => []
  | f + 1, r :: rs, m => if m % r.1 = 0 then r :: tell f (r :: rs) (m / r.1) else tell f rs m
/-- What is left of m. -/
def left : Nat → List Rad → Nat → Nat
  | 0, _, m => m
  | _ + 1, [], m => m
  | f + 1, r :: rs, m => if m % r.1 = 0 then left f (r :: rs) (m / r.1) else left f rs m
def Enough (f : Nat) (rs : List Rad) (m : Nat) : Prop := rs.length ≤ f ∧ m < 2 ^ (f - rs.length + 1) ∧ 1 ≤ m

theorem tell_nil (f m : Nat) : tell f [] m = [] := by cases f <;> rfl
theorem left_nil (f m : Nat) : left f [] m = m := by cases f <;> rfl
theorem tell_yes {f m : Nat} {r : Rad} {rs : List Rad} (h : m % r.1 = 0) : tell (f + 1) (r :: rs) m = r :: tell f (r :: rs) (m / r.1) := by simp [tell, h]
theorem tell_no {f m : Nat} {r : Rad} {rs : List Rad} (h : m % r.1 ≠ 0) : tell (f + 1) (r :: rs) m = tell f rs m := by simp [tell, h]
theorem left_yes {f m : Nat} {r : Rad} {rs : List Rad} (h : m % r.1 = 0) : left (f + 1) (r :: rs) m = left f (r :: rs) (m / r.1) := by simp [left, h]
theorem left_no {f m : Nat} {r : Rad} {rs : List Rad} (h : m % r.1 ≠ 0) : left (f + 1) (r :: rs) m = left f rs m := by simp [left, h]

theorem div_pos {m : Nat} {r : Rad} (h : m % r.1 = 0) (hm : 1 ≤ m) : 1 ≤ m / r.1 := by
  have hr := r.2
  have := Nat.div_add_mod m r.1
  rcases Nat.eq_zero_or_pos (m / r.1) with h0 | h0
  · rw [h0] at this; omega
  · exact h0
theorem div_half (m : Nat) (r : Rad) : 2 * (m / r.1) ≤ m := by
  have hr := r.2
  have h1 : r.1 * (m / r.1) ≤ m := Nat.mul_div_le m r.1
  have h2 : 2 * (m / r.1) ≤ r.1 * (m / r.1) := Nat.mul_le_mul_right _ hr.1
  omega
theorem Enough.pos {f m : Nat} {r : Rad} {rs : List Rad} (h : Enough f (r :: rs) m) : ∃ g, f = g + 1 := by
  obtain ⟨h1, _, _⟩ := h
  simp at h1
  exact ⟨f - 1, by omega⟩
theorem Enough.yes {f m : Nat} {r : Rad} {rs : List Rad} (h : Enough (f + 1) (r :: rs) m) (hd : m % r.1 = 0) : Enough f (r :: rs) (m / r.1) := by
  obtain ⟨h1, h2, h3⟩ := h
  simp only [List.length_cons] at h1 h2
  have hp := div_pos hd h3
  have hh := div_half m r
  have hk : rs.length + 1 ≤ f := by
    rcases Nat.lt_or_ge rs.length f with h | h
    · exact h
    · have : f + 1 - (rs.length + 1) + 1 = 1 := by omega
      rw [this] at h2
      omega
  refine ⟨by simpa using hk, ?_, hp⟩
  simp only [List.length_cons]
  have e : f + 1 - (rs.length + 1) + 1 = (f - (rs.length + 1) + 1) + 1 := by omega
  rw [e, Nat.pow_succ] at h2
  omega
theorem Enough.no {f m : Nat} {r : Rad} {rs : List Rad} (h : Enough (f + 1) (r :: rs) m) : Enough f rs m := by
  obtain ⟨h1, h2, h3⟩ := h
  simp only [List.length_cons] at h1 h2
  exact ⟨by omega, by rwa [show f + 1 - (rs.length + 1) + 1 = f - rs.length + 1 by omega] at h2, h3⟩

theorem tell_fuel : ∀ (f f' : Nat) (rs : List Rad) (m : Nat), Enough f rs m → Enough f' rs m → tell f rs m = tell f' rs m ∧ left f rs m = left f' rs m := by
  intro f
  induction f with
  | zero =>
    intro f' rs m h h'
    have : rs = [] := List.length_eq_zero_iff.1 (by have := h.1; omega)
    subst this
    simp [tell_nil, left_nil]
  | succ f ih =>
    intro f' rs m h h'
    cases rs with
    | nil => simp [tell_nil, left_nil]
    | cons r rs =>
      obtain ⟨g, rfl⟩ := h'.pos
      by_cases hd : m % r.1 = 0
      · rw [tell_yes hd, tell_yes hd, left_yes hd, left_yes hd]
        obtain ⟨e1, e2⟩ := ih g (r :: rs) (m / r.1) (h.yes hd) (h'.yes hd)
        rw [e1, e2]; exact ⟨rfl, rfl⟩
      · rw [tell_no hd, tell_no hd, left_no hd, left_no hd]
        exact ih g rs m h.no h'.no

/-- The product of radices. -/
def prod : List Rad → Nat
  | [] => 1
  | r :: l => r.1 * prod l
theorem prod_append : ∀ (k l : List Rad), prod (k ++ l) = prod k * prod l
  | [], l => by simp [prod]
  | r :: k, l => by simp [prod, prod_append k l, Nat.mul_assoc]
theorem prod_one (r : Rad) : prod [r] = r.1 := by simp [prod]
theorem prod_pos : ∀ l : List Rad, 1 ≤ prod l
  | [] => Nat.le_refl _
  | r :: l => Nat.mul_pos (by have := r.2; omega) (prod_pos l)
theorem prod_le : ∀ l : List Rad, prod l ≤ 5 ^ l.length
  | [] => Nat.le_refl _
  | r :: l => by
    rw [List.length_cons, Nat.pow_succ, Nat.mul_comm]
    exact Nat.mul_le_mul r.2.2 (prod_le l)
theorem prod_ge : ∀ l : List Rad, 2 ^ l.length ≤ prod l
  | [] => Nat.le_refl _
  | r :: l => by
    rw [List.length_cons, Nat.pow_succ, Nat.mul_comm]
    exact Nat.mul_le_mul r.2.1 (prod_ge l)
theorem prod_short {l : List Rad} (h : l.length ≤ 12) : prod l ≤ 244140625 :=
  Nat.le_trans (prod_le l) (Nat.le_trans (Nat.pow_le_pow_right (by decide) h) (by decide))

theorem prod_left : ∀ (f : Nat) (rs : List Rad) (m : Nat), prod (tell f rs m) * left f rs m = m
  | 0, _, m => by simp [tell, left, prod]
  | f + 1, [], m => by simp [tell, left, prod]
  | f + 1, r :: rs, m => by
    by_cases hd : m % r.1 = 0
    · rw [tell_yes hd, left_yes hd, prod, Nat.mul_assoc, prod_left f (r :: rs) (m / r.1)]
      have := Nat.div_add_mod m r.1
      omega
    · rw [tell_no hd, left_no hd]; exact prod_left f rs m
theorem left_pos : ∀ (f : Nat) (rs : List Rad) (m : Nat), 1 ≤ m → 1 ≤ left f rs m := by
  intro f rs m h
  have := prod_left f rs m
  rcases Nat.eq_zero_or_pos (left f rs m) with h0 | h0
  · rw [h0] at this; omega
  · exact h0
/-- Nothing is left over that a radix takes. -/
theorem left_none : ∀ (f : Nat) (rs : List Rad) (m : Nat), Enough f rs m → ∀ r ∈ rs, left f rs m % r.1 ≠ 0 := by
  intro f
  induction f with
  | zero =>
    intro rs m h r hr
    have : rs = [] := List.length_eq_zero_iff.1 (by have := h.1; omega)
    subst this; cases hr
  | succ f ih =>
    intro rs m h r hr
    cases rs with
    | nil => cases hr
    | cons s rs =>
      by_cases hd : m % s.1 = 0
      · rw [left_yes hd]; exact ih _ _ (h.yes hd) r hr
      · rw [left_no hd]
        rcases List.mem_cons.1 hr with rfl | hr'
        · intro h0
          apply hd
          have e := prod_left f rs m
          exact Nat.mod_eq_zero_of_dvd (Nat.dvd_trans (Nat.dvd_of_mod_eq_zero h0) ⟨prod (tell f rs m), by rw [Nat.mul_comm]; exact e.symm⟩)
        · exact ih _ _ h.no r hr'

theorem left_le (f : Nat) (rs : List Rad) (m : Nat) : left f rs m ≤ m := by
  have h := prod_left f rs m
  have hp := prod_pos (tell f rs m)
  calc left f rs m = 1 * left f rs m := (Nat.one_mul _).symm
    _ ≤ prod (tell f rs m) * left f rs m := Nat.mul_le_mul_right _ hp
    _ = m := h
/-- One radix taken out as often as may be, then the others. -/
theorem tell_split {r : Rad} {rs : List Rad} : ∀ (g f m : Nat), Enough f (r :: rs) m → Enough g [r] m →
    ∃ f', Enough f' rs (left g [r] m) ∧ tell f (r :: rs) m = tell g [r] m ++ tell f' rs (left g [r] m) ∧ left f (r :: rs) m = left f' rs (left g [r] m) := by
  intro g
  induction g with
  | zero => intro f m _ h; have := h.1; simp at this
  | succ g ih =>
    intro f m h h'
    obtain ⟨f1, rfl⟩ := h.pos
    by_cases hd : m % r.1 = 0
    · obtain ⟨f', h1, h2, h3⟩ := ih f1 (m / r.1) (h.yes hd) (h'.yes hd)
      rw [tell_yes hd, tell_yes hd, left_yes hd, left_yes hd]
      exact ⟨f', h1, by rw [h2]; rfl, h3⟩
    · rw [tell_no hd, tell_no hd, left_no hd, left_no hd, tell_nil, left_nil]
      exact ⟨f1, h.no, rfl, rfl⟩
theorem tell_len (f : Nat) (rs : List Rad) (m : Nat) (h1 : 1 ≤ m) (h2 : m ≤ 4096) : (tell f rs m).length ≤ 12 := by
  have h := prod_left f rs m
  have hl := left_pos f rs m h1
  have hp : prod (tell f rs m) ≤ m := calc prod (tell f rs m) = prod (tell f rs m) * 1 := (Nat.mul_one _).symm
    _ ≤ prod (tell f rs m) * left f rs m := Nat.mul_le_mul_left _ hl
    _ = m := h
  have hg := Nat.le_trans (prod_ge (tell f rs m)) (Nat.le_trans hp h2)
  rcases Nat.lt_or_ge 12 (tell f rs m).length with hk | hk
  · have : 2 ^ 13 ≤ 2 ^ (tell f rs m).length := Nat.pow_le_pow_right (by decide) hk
    omega
  · exact hk

/-! Of a size up to 4096. -/
def rads (n : Nat) : List Rad := tell 16 four n
def over (n : Nat) : Nat := left 16 four n
theorem enough (n : Nat) (h1 : 1 ≤ n) (h2 : n ≤ 4096) : Enough 16 four n := ⟨by decide, by show n < 8192; omega, h1⟩
theorem rads_over (n : Nat) : prod (rads n) * over n = n := prod_left _ _ _
theorem rads_le (n : Nat) (h1 : 1 ≤ n) : prod (rads n) ≤ n := by
  have := rads_over n
  have h := left_pos 16 four n h1
  calc prod (rads n) = prod (rads n) * 1 := (Nat.mul_one _).symm
    _ ≤ prod (rads n) * over n := Nat.mul_le_mul_left _ h
    _ = n := this
theorem rads_len (n : Nat) (h1 : 1 ≤ n) (h2 : n ≤ 4096) : (rads n).length ≤ 12 := by
  have h := Nat.le_trans (prod_ge (rads n)) (Nat.le_trans (rads_le n h1) h2)
  rcases Nat.lt_or_ge 12 (rads n).length with hl | hl
  · have : 2 ^ 13 ≤ 2 ^ (rads n).length := Nat.pow_le_pow_right (by decide) hl
    omega
  · exact hl
theorem over_one (n : Nat) (h1 : 1 ≤ n) : prod (rads n) = n ↔ over n = 1 := by
  have h := rads_over n
  have hp := prod_pos (rads n)
  constructor
  · intro e
    rw [e] at h
    have : n * over n = n * 1 := by omega
    exact Nat.eq_of_mul_eq_mul_left h1 this
  · intro e; rw [e] at h; omega

/-- May the size be? -/
def sm (n : Int) : Bool := decide (1 ≤ n) && decide (n ≤ 4096) && decide (prod (rads n.toNat) = n.toNat)
theorem sm_of {n : Int} (h : sm n = true) : 1 ≤ n ∧ n ≤ 4096 ∧ prod (rads n.toNat) = n.toNat := by simpa [sm, and_assoc] using h
theorem sm_no {n : Int} (h : ¬ (1 ≤ n ∧ n ≤ 4096)) : sm n = false := by
  rcases Bool.eq_false_or_eq_true (sm n) with h' | h'
  · exact absurd ⟨(sm_of h').1, (sm_of h').2.1⟩ h
  · exact h'

theorem sm_over {n : Nat} (h1 : 1 ≤ n) (h2 : n ≤ 4096) : sm (n : Int) = decide (over n = 1) := by
  rw [Bool.eq_iff_iff, decide_eq_true_iff, ← over_one n h1]
  simp [sm]
  omega

/-! A size may be just if it divides a power of 30. -/
theorem rads_dvd : ∀ l : List Rad, prod l ∣ 60 ^ l.length
  | [] => Nat.dvd_refl _
  | r :: l => by
    rw [List.length_cons, Nat.pow_succ, Nat.mul_comm (60 ^ l.length)]
    refine Nat.mul_dvd_mul ?_ (rads_dvd l)
    obtain ⟨r, h1, h2⟩ := r
    show r ∣ 60
    have : r = 2 ∨ r = 3 ∨ r = 4 ∨ r = 5 := by omega
    rcases this with rfl | rfl | rfl | rfl <;> decide
theorem cop_pow {u k : Nat} (h : Nat.Coprime u 60) : Nat.Coprime u (60 ^ k) := Nat.Coprime.pow_right k h
theorem cop60 {u : Nat} (h2 : u % 2 ≠ 0) (h3 : u % 3 ≠ 0) (h5 : u % 5 ≠ 0) : Nat.Coprime u 60 := by
  have e2 : Nat.Coprime u 2 := by unfold Nat.Coprime; rw [Nat.gcd_comm, Nat.gcd_rec, show u % 2 = 1 by omega]; decide
  have e3 : Nat.Coprime u 3 := by
    unfold Nat.Coprime
    rw [Nat.gcd_comm, Nat.gcd_rec]
    have : u % 3 = 1 ∨ u % 3 = 2 := by omega
    rcases this with h | h <;> rw [h] <;> decide
  have e5 : Nat.Coprime u 5 := by
    unfold Nat.Coprime
    rw [Nat.gcd_comm, Nat.gcd_rec]
    have : u % 5 = 1 ∨ u % 5 = 2 ∨ u % 5 = 3 ∨ u % 5 = 4 := by omega
    rcases this with h | h | h | h <;> rw [h] <;> decide
  have : Nat.Coprime u (2 * 2 * (3 * 5)) := Nat.Coprime.mul_right (Nat.Coprime.mul_right e2 e2) (Nat.Coprime.mul_right e3 e5)
  exact this
theorem over_of_dvd {n k : Nat} (h1 : 1 ≤ n) (h2 : n ≤ 4096) (h : n ∣ 60 ^ k) : over n = 1 := by
  have hn := left_none 16 four n (enough n h1 h2)
  have c : Nat.Coprime (over n) 60 := cop60 (hn ⟨2, by decide⟩ (by simp [four])) (hn ⟨3, by decide⟩ (by simp [four])) (hn ⟨5, by decide⟩ (by simp [four]))
  have d : over n ∣ 60 ^ k := Nat.dvd_trans ⟨prod (rads n), by rw [Nat.mul_comm]; exact (rads_over n).symm⟩ h
  have := Nat.Coprime.eq_one_of_dvd (cop_pow (k := k) c) d
  exact this
theorem sm_dvd {n : Nat} (h1 : 1 ≤ n) (h2 : n ≤ 4096) : sm (n : Int) = true ↔ ∃ k, n ∣ 60 ^ k := by
  constructor
  · intro h
    obtain ⟨_, _, e⟩ := sm_of h
    rw [Int.toNat_natCast] at e
    refine ⟨(rads n).length, ?_⟩
    have := rads_dvd (rads n)
    rwa [e] at this
  · rintro ⟨k, hk⟩
    have e := (over_one n h1).2 (over_of_dvd h1 h2 hk)
    simp [sm, e]; omega
theorem sm_mul {n m : Nat} (hn : 1 ≤ n) (hm : 1 ≤ m) (h : n * m ≤ 4096) : sm ((n * m : Nat) : Int) = (sm (n : Int) && sm (m : Int)) := by
  have hn' : n ≤ 4096 := Nat.le_trans (Nat.le_mul_of_pos_right n hm) h
  have hm' : m ≤ 4096 := Nat.le_trans (Nat.le_mul_of_pos_left m hn) h
  rw [Bool.eq_iff_iff, Bool.and_eq_true, sm_dvd (Nat.mul_pos hn hm) h, sm_dvd hn hn', sm_dvd hm hm']
  constructor
  · rintro ⟨k, hk⟩
    exact ⟨⟨k, Nat.dvd_trans (Nat.dvd_mul_right n m) hk⟩, ⟨k, Nat.dvd_trans (Nat.dvd_mul_left m n) hk⟩⟩
  · rintro ⟨⟨k, hk⟩, ⟨j, hj⟩⟩
    exact ⟨k + j, by rw [Nat.pow_add]; exact Nat.mul_dvd_mul hk hj⟩

/-- As integers. -/
def ints (l : List Rad) : List Int := l.map fun r => (r.1 : Int)
theorem ints_len (l : List Rad) : (ints l).length = l.length := by simp [ints]
theorem ints_snoc (l : List Rad) (r : Rad) : ints (l ++ [r]) = ints l ++ [(r.1 : Int)] := by simp [ints]
theorem ints_append (k l : List Rad) : ints (k ++ l) = ints k ++ ints l := by simp [ints]
theorem prod_take (l : List Rad) (k : Nat) (h : k < l.length) : prod (l.take k) * l[k].1 = prod (l.take (k + 1)) := by
  rw [List.take_succ_eq_append_getElem h, prod_append, prod_one]
theorem ints_get (l : List Rad) (j : Nat) (h : j < l.length) : (ints l).getD j 0 = (l[j].1 : Int) := by simp [ints, h]

/-- A stage: R, L, M. -/
structure Stg where
  r : Int
  l : Int
  m : Int
deriving DecidableEq
/-- The stages of m, of radices of whose product with those ahead m is. -/
def stages (m : Nat) : List Rad → Nat → List Stg
  | [], _ => []
  | r :: l, a => ⟨r.1, a, (m / (a * r.1) : Nat)⟩ :: stages m l (a * r.1)
theorem stages_len (m : Nat) : ∀ (l : List Rad) (a : Nat), (stages m l a).length = l.length
  | [], _ => rfl
  | _ :: l, a => by simp [stages, stages_len m l]
theorem stages_snoc (m : Nat) : ∀ (l : List Rad) (a : Nat) (r : Rad), stages m (l ++ [r]) a = stages m l a ++ [⟨r.1, (a * prod l : Nat), (m / (a * prod l * r.1) : Nat)⟩]
  | [], a, r => by simp [stages, prod]
  | s :: l, a, r => by simp [stages, prod, stages_snoc m l (a * s.1) r, Nat.mul_assoc]
theorem stages_get (m : Nat) (l : List Rad) (j : Nat) (h : j < l.length) : (stages m l 1)[j]'(by rw [stages_len]; exact h) = ⟨l[j].1, (prod (l.take j) : Nat), (m / (prod (l.take j) * l[j].1) : Nat)⟩ := by
  have key : ∀ (l : List Rad) (a j : Nat) (h : j < l.length), (stages m l a)[j]'(by rw [stages_len]; exact h) = ⟨l[j].1, (a * prod (l.take j) : Nat), (m / (a * prod (l.take j) * l[j].1) : Nat)⟩ := by
    intro l
    induction l with
    | nil => intro a j h; simp at h
    | cons r l ih =>
      intro a j h
      cases j with
      | zero => simp [stages, prod]
      | succ j =>
        have := ih (a * r.1) j (by simpa using h)
        simp [stages, prod, this, Nat.mul_assoc]
  have := key l 1 j h
  simpa using this
/-- What is behind. -/
theorem behind {n : Nat} {l : List Rad} (e : prod l = n) (j : Nat) (h : j < l.length) : n / (prod (l.take j) * l[j].1) = prod (l.drop (j + 1)) := by
  have e1 : l = l.take j ++ (l[j] :: l.drop (j + 1)) := by rw [← List.drop_eq_getElem_cons h, List.take_append_drop]
  have e2 : prod l = prod (l.take j) * l[j].1 * prod (l.drop (j + 1)) := by
    conv => lhs; rw [e1]
    rw [prod_append, prod, Nat.mul_assoc]
  rw [← e, e2]
  exact Nat.mul_div_cancel_left _ (Nat.mul_pos (prod_pos _) (by have := l[j].2; omega))

end Go.Proofs.YtlbfllaaabginaaDoor.Fac

/-!   Plain mathematics of layer 6: finite sums by a prime, sums of powers of roots, transforms and products that go around. No program is named here.
-/

namespace Go.Proofs.YtlbfllaaabginaaDoor.Fp

/-- Two numbers leave the same rest. -/
def eqm (p a b : Int) : Prop := a % p = b % p
section
variable {p a b c d : Int}
theorem eqm.rfl : eqm p a a := Eq.refl _
theorem eqm.of (h : a = b) : eqm p a b := by rw [h]; exact eqm.rfl
theorem eqm.symm (h : eqm p a b) : eqm p b a := Eq.symm h
theorem eqm.trans (h : eqm p a b) (k : eqm p b c) : eqm p a c := Eq.trans h k
theorem eqm.add (h : eqm p a b) (k : eqm p c d) : eqm p (a + c) (b + d) := by unfold eqm at *; rw [Int.add_emod, h, k, ← Int.add_emod]
theorem eqm.mul (h : eqm p a b) (k : eqm p c d) : eqm p (a * c) (b * d) := by unfold eqm at *; rw [Int.mul_emod, h, k, ← Int.mul_emod]
theorem eqm.neg (h : eqm p a b) : eqm p (-a) (-b) := by
  have := (eqm.rfl (p := p) (a := -1)).mul h
  rwa [Int.neg_mul, Int.one_mul, Int.neg_mul, Int.one_mul] at this
theorem eqm.pow (h : eqm p a b) : ∀ n : Nat, eqm p (a ^ n) (b ^ n)
  | 0 => by rw [Int.pow_zero, Int.pow_zero]; exact eqm.rfl
  | n + 1 => by rw [Int.pow_succ, Int.pow_succ]; exact (eqm.pow h n).mul h
theorem eqm_md (p a : Int) : eqm p (a % p) a := Int.emod_emod_of_dvd a (Int.dvd_refl p)
theorem eqm_zero_sub (h : eqm p (a - b) 0) : eqm p a b := by
  have := h.add (eqm.rfl (a := b))
  rwa [Int.sub_add_cancel, Int.zero_add] at this
theorem eqm_sub_zero (h : eqm p a b) : eqm p (a - b) 0 := by
  have := h.add (eqm.rfl (a := -b))
  rwa [Int.add_right_neg, ← Int.sub_eq_add_neg] at this
/-- A product leaves no rest just if one of both does. -/
theorem eqm_mul_zero (h : kn p = true) (hm : eqm p (a * b) 0) : eqm p a 0 ∨ eqm p b 0 := by
  have := (mul_zero_iff h a b).1 (by unfold eqm at hm; rw [hm]; simp)
  rcases this with e | e
  · left; unfold eqm; rw [e]; simp
  · right; unfold eqm; rw [e]; simp
end

/-- The sum of f j, j from 0 to n less 1. -/
def sum (f : Nat → Int) : Nat → Int
  | 0 => 0
  | n + 1 => sum f n + f n
section
variable {p : Int} {f g : Nat → Int}
theorem sum_congr {n : Nat} (h : ∀ j, j < n → f j = g j) : sum f n = sum g n := by
  induction n with
  | zero => rfl
  | succ n ih => rw [sum, sum, ih (fun j hj => h j (by omega)), h n (by omega)]
theorem sum_mod {n : Nat} (h : ∀ j, j < n → eqm p (f j) (g j)) : eqm p (sum f n) (sum g n) := by
  induction n with
  | zero => exact eqm.rfl
  | succ n ih => exact (ih (fun j hj => h j (by omega))).add (h n (by omega))
theorem sum_zero (n : Nat) : sum (fun _ => 0) n = 0 := by
  induction n with
  | zero => rfl
  | succ n ih => rw [sum, ih]; rfl
theorem sum_add (f g : Nat → Int) (n : Nat) : sum (fun j => f j + g j) n = sum f n + sum g n := by
  induction n with
  | zero => rfl
  | succ n ih => rw [sum, sum, sum, ih]; omega
theorem sum_mul (c : Int) (f : Nat → Int) (n : Nat) : sum (fun j => c * f j) n = c * sum f n := by
  induction n with
  | zero => simp [sum]
  | succ n ih => rw [sum, sum, ih, Int.mul_add]
theorem sum_mulr (c : Int) (f : Nat → Int) (n : Nat) : sum (fun j => f j * c) n = sum f n * c := by
  rw [Int.mul_comm, ← sum_mul]; exact sum_congr fun j _ => Int.mul_comm _ _
theorem sum_swap (f : Nat → Nat → Int) (m : Nat) : ∀ n : Nat, sum (fun i => sum (fun j => f i j) m) n = sum (fun j => sum (fun i => f i j) n) m
  | 0 => by rw [sum]; exact (sum_zero m).symm
  | n + 1 => by
    rw [sum, sum_swap f m n, ← sum_add]
    exact sum_congr fun j _ => (by rw [sum])
theorem sum_one {n k : Nat} (hk : k < n) (h : ∀ j, j < n → j ≠ k → eqm p (f j) 0) : eqm p (sum f n) (f k) := by
  induction n with
  | zero => omega
  | succ n ih =>
    rw [sum]
    by_cases e : k = n
    · subst e
      have h0 : eqm p (sum f k) 0 := (sum_mod (g := fun _ => 0) (fun j hj => h j (by omega) (by omega))).trans (eqm.of (sum_zero k))
      have := h0.add (eqm.rfl (a := f k))
      rwa [Int.zero_add] at this
    · have := (ih (by omega) (fun j hj hne => h j (by omega) hne)).add (h n (by omega) (Ne.symm e))
      rwa [Int.add_zero] at this
theorem sum_const (c : Int) (n : Nat) : sum (fun _ => c) n = n * c := by
  induction n with
  | zero => simp [sum]
  | succ n ih => rw [sum, ih, Int.natCast_add, Int.add_mul, Int.natCast_one, Int.one_mul]
/-- Powers, one behind the other. -/
theorem geo_tele (a : Int) (n : Nat) : (a - 1) * sum (fun k => a ^ k) n = a ^ n - 1 := by
  induction n with
  | zero => simp [sum]
  | succ n ih => rw [sum, Int.mul_add, ih, Int.pow_succ, Int.sub_mul, Int.mul_comm a]; omega
theorem geo_zero (h : kn p = true) {a : Int} {n : Nat} (h1 : eqm p (a ^ n) 1) (h2 : ¬ eqm p a 1) : eqm p (sum (fun k => a ^ k) n) 0 := by
  have h3 : eqm p ((a - 1) * sum (fun k => a ^ k) n) 0 := by rw [geo_tele]; exact eqm_sub_zero h1
  rcases eqm_mul_zero h h3 with h4 | h4
  · exact absurd (eqm_zero_sub h4) h2
  · exact h4
end

/-- w goes around in just N steps, v undoes it. -/
structure Turns (p w v : Int) (N : Nat) : Prop where
  kn : kn p = true
  pos : 0 < N
  pw : ∀ m : Nat, eqm p (w ^ m) 1 ↔ N ∣ m
  undo : eqm p (w * v) 1
section
variable {p w v : Int} {N : Nat}
theorem Turns.undo_pow (h : Turns p w v N) (m : Nat) : eqm p (w ^ m * v ^ m) 1 := by
  have := h.undo.pow m
  rwa [Int.mul_pow, Int.one_pow] at this
theorem Turns.flip (h : Turns p w v N) : Turns p v w N := by
  refine ⟨h.kn, h.pos, fun m => ?_, by rw [Int.mul_comm]; exact h.undo⟩
  rw [← h.pw m]
  constructor
  · intro e
    have := (eqm.rfl (p := p) (a := w ^ m)).mul e
    rw [Int.mul_one] at this
    exact this.symm.trans (h.undo_pow m)
  · intro e
    have := e.mul (eqm.rfl (p := p) (a := v ^ m))
    rw [Int.one_mul] at this
    exact this.symm.trans (h.undo_pow m)
/-- What a power of w and one of v together are. -/
theorem Turns.ratio (h : Turns p w v N) {i j : Nat} (hij : j ≤ i) : eqm p (w ^ i * v ^ j) (w ^ (i - j)) := by
  have e : w ^ i * v ^ j = w ^ (i - j) * (w ^ j * v ^ j) := by
    rw [← Int.mul_assoc, ← Int.pow_add, Nat.sub_add_cancel hij]
  rw [e]
  have := (eqm.rfl (p := p) (a := w ^ (i - j))).mul (h.undo_pow j)
  rwa [Int.mul_one] at this
theorem Turns.one_iff (h : Turns p w v N) (i j : Nat) : eqm p (w ^ i * v ^ j) 1 ↔ N ∣ (i - j) ∧ N ∣ (j - i) := by
  rcases Nat.le_total j i with hij | hij
  · rw [show j - i = 0 by omega]
    constructor
    · intro e; exact ⟨(h.pw _).1 ((h.ratio hij).symm.trans e), Nat.dvd_zero _⟩
    · intro e; exact (h.ratio hij).trans ((h.pw _).2 e.1)
  · rw [show i - j = 0 by omega, Int.mul_comm]
    constructor
    · intro e; exact ⟨Nat.dvd_zero _, (h.flip.pw _).1 ((h.flip.ratio hij).symm.trans e)⟩
    · intro e; exact (h.flip.ratio hij).trans ((h.flip.pw _).2 e.2)
theorem Turns.pow_one (h : Turns p w v N) {i j m : Nat} (hi : N ∣ i * m) (hj : N ∣ j * m) : eqm p ((w ^ i * v ^ j) ^ m) 1 := by
  rw [Int.mul_pow, ← Int.pow_mul, ← Int.pow_mul]
  have := ((h.pw _).2 hi).mul ((h.flip.pw _).2 hj)
  rwa [Int.one_mul] at this
/-- A sum of powers of such a number is 0, or it is 1 itself. -/
theorem Turns.sum (h : Turns p w v N) {i j n : Nat} (hi : N ∣ i * n) (hj : N ∣ j * n) (hne : ¬ (N ∣ (i - j) ∧ N ∣ (j - i))) : eqm p (Fp.sum (fun k => (w ^ i * v ^ j) ^ k) n) 0 :=
  geo_zero h.kn (h.pow_one hi hj) (fun e => hne ((h.one_iff i j).1 e))
end

/-- To which power of its root word j goes in word k. -/
def ex (neg : Bool) (j k : Nat) : Nat := if neg then j * (2 * k + 1) else j * k
/-- The order of the root. -/
def od (neg : Bool) (n : Nat) : Nat := if neg then 2 * n else n
theorem ex_add (neg : Bool) (i j k : Nat) : ex neg (i + j) k = ex neg i k + ex neg j k := by
  unfold ex; split <;> rw [Nat.add_mul]
section
variable {p w v : Int} {neg : Bool} {n : Nat}

/-- Over k: two words j and l. -/
theorem orth1 (h : Turns p w v (od neg n)) {j l : Nat} (hj : j < n) (hl : l < n) : eqm p (sum (fun k => w ^ ex neg j k * v ^ ex neg l k) n) (if j = l then (n : Int) else 0) := by
  by_cases e : j = l
  · subst e
    rw [if_pos rfl]
    refine (sum_mod (g := fun _ => 1) fun k _ => h.undo_pow _).trans (eqm.of ?_)
    rw [sum_const, Int.mul_one]
  · rw [if_neg e]
    cases neg with
    | false =>
      have e1 : sum (fun k => w ^ ex false j k * v ^ ex false l k) n = sum (fun k => (w ^ j * v ^ l) ^ k) n := sum_congr fun k _ => by
        simp only [ex, Bool.false_eq_true, if_false]
        rw [Int.mul_pow, ← Int.pow_mul, ← Int.pow_mul]
      rw [e1]
      have ho : od false n = n := by simp [od]
      rw [ho] at h
      refine h.sum (Nat.dvd_mul_left _ _) (Nat.dvd_mul_left _ _) fun hd => ?_
      have h1 := hd.1
      have h2 := hd.2
      rcases Nat.lt_or_gt_of_ne e with hlt | hlt
      · exact absurd (Nat.le_of_dvd (by omega) h2) (by omega)
      · exact absurd (Nat.le_of_dvd (by omega) h1) (by omega)
    | true =>
      have ho : od true n = 2 * n := by simp [od]
      rw [ho] at h
      have e1 : sum (fun k => w ^ ex true j k * v ^ ex true l k) n = w ^ j * v ^ l * sum (fun k => (w ^ (j * 2) * v ^ (l * 2)) ^ k) n := by
        rw [← sum_mul]
        refine sum_congr fun k _ => ?_
        simp only [ex, if_true]
        rw [Int.mul_pow, ← Int.pow_mul, ← Int.pow_mul]
        have a1 : w ^ (j * (2 * k + 1)) = w ^ j * w ^ (j * 2 * k) := by rw [← Int.pow_add]; congr 1; rw [Nat.mul_add, Nat.mul_one, Nat.add_comm, Nat.mul_assoc]
        have a2 : v ^ (l * (2 * k + 1)) = v ^ l * v ^ (l * 2 * k) := by rw [← Int.pow_add]; congr 1; rw [Nat.mul_add, Nat.mul_one, Nat.add_comm, Nat.mul_assoc]
        rw [a1, a2, Int.mul_assoc, Int.mul_assoc, Int.mul_left_comm (w ^ (j * 2 * k))]
      rw [e1]
      have hz : eqm p (sum (fun k => (w ^ (j * 2) * v ^ (l * 2)) ^ k) n) 0 := by
        refine h.sum (by rw [Nat.mul_assoc]; exact Nat.dvd_mul_left _ _) (by rw [Nat.mul_assoc]; exact Nat.dvd_mul_left _ _) fun hd => ?_
        have h1 := hd.1
        have h2 := hd.2
        rcases Nat.lt_or_gt_of_ne e with hlt | hlt
        · exact absurd (Nat.le_of_dvd (by omega) h2) (by omega)
        · exact absurd (Nat.le_of_dvd (by omega) h1) (by omega)
      have := (eqm.rfl (p := p) (a := w ^ j * v ^ l)).mul hz
      rwa [Int.mul_zero] at this

/-- Over j: two words k and m. -/
theorem orth2 (h : Turns p w v (od neg n)) {k m : Nat} (hk : k < n) (hm : m < n) : eqm p (sum (fun j => w ^ ex neg j k * v ^ ex neg j m) n) (if k = m then (n : Int) else 0) := by
  by_cases e : k = m
  · subst e
    rw [if_pos rfl]
    refine (sum_mod (g := fun _ => 1) fun k _ => h.undo_pow _).trans (eqm.of ?_)
    rw [sum_const, Int.mul_one]
  · rw [if_neg e]
    obtain ⟨s, hs⟩ : ∃ s : Nat → Nat, ∀ k j, ex neg j k = j * s k := by
      cases neg with
      | false => exact ⟨fun k => k, fun k j => by simp [ex]⟩
      | true => exact ⟨fun k => 2 * k + 1, fun k j => by simp [ex]⟩
    have hs1 : ∀ k, s k = if neg then 2 * k + 1 else k := fun k => by
      have := hs k 1
      rw [Nat.one_mul] at this
      rw [← this]
      unfold ex
      split <;> rw [Nat.one_mul]
    have e1 : sum (fun j => w ^ ex neg j k * v ^ ex neg j m) n = sum (fun j => (w ^ s k * v ^ s m) ^ j) n := sum_congr fun j _ => by
      rw [hs, hs, Int.mul_pow, ← Int.pow_mul, ← Int.pow_mul, Nat.mul_comm j, Nat.mul_comm j]
    rw [e1]
    refine geo_zero h.kn ?_ fun hd => ?_
    · rcases Nat.le_total m k with hmk | hmk
      · refine ((h.ratio (i := s k) (j := s m) (by rw [hs1, hs1]; split <;> omega)).pow n).trans ?_
        rw [← Int.pow_mul]
        refine (h.pw _).2 ?_
        rw [hs1, hs1]
        unfold od
        cases neg with
        | false => simp only [Bool.false_eq_true, if_false]; exact Nat.dvd_mul_left _ _
        | true => simp only [if_true]; rw [show 2 * k + 1 - (2 * m + 1) = 2 * (k - m) by omega, Nat.mul_assoc, Nat.mul_comm (k - m), ← Nat.mul_assoc]; exact Nat.dvd_mul_right _ _
      · rw [Int.mul_comm]
        refine ((h.flip.ratio (i := s m) (j := s k) (by rw [hs1, hs1]; split <;> omega)).pow n).trans ?_
        rw [← Int.pow_mul]
        refine (h.flip.pw _).2 ?_
        rw [hs1, hs1]
        unfold od
        cases neg with
        | false => simp only [Bool.false_eq_true, if_false]; exact Nat.dvd_mul_left _ _
        | true => simp only [if_true]; rw [show 2 * m + 1 - (2 * k + 1) = 2 * (m - k) by omega, Nat.mul_assoc, Nat.mul_comm (m - k), ← Nat.mul_assoc]; exact Nat.dvd_mul_right _ _
    · obtain ⟨h1, h2⟩ := (h.one_iff _ _).1 hd
      rw [hs1, hs1] at h1 h2
      unfold od at h1 h2
      rcases Nat.lt_or_gt_of_ne e with hlt | hlt
      · have := Nat.le_of_dvd (by split <;> omega) h2
        split at this <;> omega
      · have := Nat.le_of_dvd (by split <;> omega) h1
        split at this <;> omega
end

/-- The root of an order that there is turns so. -/
theorem rt_turns {p : Int} (h : kn p = true) {N : Nat} (hd : N ∣ p.toNat - 1) (hN : 0 < N) : Turns p (rt p N) (inv p (rt p N)) N := by
  have hb := kn_bd h
  have h1 : (1 : Int) % p = 1 := Int.emod_eq_of_lt (by omega) (by omega)
  refine ⟨h, hN, fun m => ?_, ?_⟩
  · rw [← rt_pw h hd m, pw_kn _ _ h]
    unfold eqm
    rw [h1]
  · have := mul_inv h (rt_ne h hd hN)
    rw [mul_kn _ _ h, Int.mul_comm] at this
    unfold eqm
    rw [this, h1]

/-- A line transformed, and back, before the rest is taken: x and y by their places. -/
def fw (w : Int) (neg : Bool) (n : Nat) (x : Nat → Int) (k : Nat) : Int := sum (fun j => x j * w ^ ex neg j k) n
def bw (v : Int) (neg : Bool) (n : Nat) (y : Nat → Int) (j : Nat) : Int := sum (fun k => y k * v ^ ex neg j k) n
section
variable {p w v : Int} {neg : Bool} {n : Nat} {x y : Nat → Int}
theorem fw_mod (h : ∀ j, j < n → eqm p (x j) (y j)) (k : Nat) : eqm p (fw w neg n x k) (fw w neg n y k) := sum_mod fun j hj => (h j hj).mul eqm.rfl
theorem bw_mod (h : ∀ j, j < n → eqm p (x j) (y j)) (k : Nat) : eqm p (bw v neg n x k) (bw v neg n y k) := sum_mod fun j hj => (h j hj).mul eqm.rfl
theorem fw_add (x y : Nat → Int) (k : Nat) : fw w neg n (fun j => x j + y j) k = fw w neg n x k + fw w neg n y k := by
  unfold fw; rw [← sum_add]; exact sum_congr fun j _ => Int.add_mul _ _ _
theorem fw_mul (c : Int) (x : Nat → Int) (k : Nat) : fw w neg n (fun j => c * x j) k = c * fw w neg n x k := by
  unfold fw; rw [← sum_mul]; exact sum_congr fun j _ => Int.mul_assoc _ _ _
theorem bw_add (x y : Nat → Int) (k : Nat) : bw v neg n (fun j => x j + y j) k = bw v neg n x k + bw v neg n y k := by
  unfold bw; rw [← sum_add]; exact sum_congr fun j _ => Int.add_mul _ _ _
theorem bw_mul (c : Int) (x : Nat → Int) (k : Nat) : bw v neg n (fun j => c * x j) k = c * bw v neg n x k := by
  unfold bw; rw [← sum_mul]; exact sum_congr fun j _ => Int.mul_assoc _ _ _

/-- Back from a transform, n times what it was. -/
theorem bw_fw (h : Turns p w v (od neg n)) {j : Nat} (hj : j < n) : eqm p (bw v neg n (fw w neg n x) j) (n * x j) := by
  have e : bw v neg n (fw w neg n x) j = sum (fun i => x i * sum (fun k => w ^ ex neg i k * v ^ ex neg j k) n) n := by
    unfold bw fw
    have e1 : sum (fun k => sum (fun i => x i * w ^ ex neg i k) n * v ^ ex neg j k) n = sum (fun k => sum (fun i => x i * w ^ ex neg i k * v ^ ex neg j k) n) n := sum_congr fun k _ => (sum_mulr _ _ _).symm
    rw [e1, sum_swap]
    refine sum_congr fun i _ => ?_
    rw [← sum_mul]
    exact sum_congr fun k _ => Int.mul_assoc _ _ _
  rw [e]
  refine (sum_one (k := j) hj fun i hi hne => ?_).trans ?_
  · have := (eqm.rfl (p := p) (a := x i)).mul (orth1 h hi hj)
    rwa [if_neg hne, Int.mul_zero] at this
  · have := (eqm.rfl (p := p) (a := x j)).mul (orth1 h hj hj)
    rw [if_pos rfl, Int.mul_comm _ (n : Int)] at this
    exact this
theorem fw_bw (h : Turns p w v (od neg n)) {k : Nat} (hk : k < n) : eqm p (fw w neg n (bw v neg n y) k) (n * y k) := by
  have e : fw w neg n (bw v neg n y) k = sum (fun m => y m * sum (fun j => w ^ ex neg j k * v ^ ex neg j m) n) n := by
    unfold bw fw
    have e1 : sum (fun j => sum (fun m => y m * v ^ ex neg j m) n * w ^ ex neg j k) n = sum (fun j => sum (fun m => y m * (w ^ ex neg j k * v ^ ex neg j m)) n) n := sum_congr fun j _ => by
      rw [← sum_mulr]
      exact sum_congr fun m _ => by rw [Int.mul_assoc, Int.mul_comm (v ^ _)]
    rw [e1, sum_swap]
    exact sum_congr fun m _ => sum_mul _ _ _
  rw [e]
  refine (sum_one (k := k) hk fun m hm hne => ?_).trans ?_
  · have := (eqm.rfl (p := p) (a := y m)).mul (orth2 h hk hm)
    rwa [if_neg (Ne.symm hne), Int.mul_zero] at this
  · have := (eqm.rfl (p := p) (a := y k)).mul (orth2 h hk hk)
    rw [if_pos rfl, Int.mul_comm _ (n : Int)] at this
    exact this

/-- What goes around, or is taken away, if neg. -/
def sg (neg : Bool) (n i j : Nat) : Int := if neg = true ∧ n ≤ i + j then -1 else 1
/-- The product that goes around, before the rest is taken. -/
def wr (neg : Bool) (n : Nat) (a b : Nat → Int) (t : Nat) : Int := sum (fun i => sum (fun j => if (i + j) % n = t then sg neg n i j * (a i * b j) else 0) n) n
theorem wr_comm (a b : Nat → Int) (t : Nat) : wr neg n a b t = wr neg n b a t := by
  unfold wr
  rw [sum_swap]
  refine sum_congr fun j _ => sum_congr fun i _ => ?_
  rw [Nat.add_comm i j, Int.mul_comm (a i)]
  unfold sg
  rw [Nat.add_comm i j]

/-- Half of all steps of a root of even order: less 1. -/
theorem Turns.half {m : Nat} (h : Turns p w v (2 * m)) : eqm p (w ^ m) (-1) := by
  have hm : 0 < m := by have := h.pos; omega
  have h1 : eqm p ((w ^ m - 1) * (w ^ m + 1)) 0 := by
    have e : (w ^ m - 1) * (w ^ m + 1) = w ^ (2 * m) - 1 := by
      rw [Nat.two_mul, Int.pow_add, Int.sub_mul, Int.mul_add, Int.one_mul, Int.mul_one]
      omega
    rw [e]
    exact eqm_sub_zero ((h.pw _).2 (Nat.dvd_refl _))
  rcases eqm_mul_zero h.kn h1 with h2 | h2
  · have h3 := (h.pw m).1 (eqm_zero_sub h2)
    exact absurd (Nat.le_of_dvd hm h3) (by omega)
  · refine eqm_zero_sub ?_
    rwa [Int.sub_neg]
theorem odd_neg (k : Nat) : (-1 : Int) ^ (2 * k + 1) = -1 := by
  rw [Int.pow_add, Int.pow_mul, show ((-1 : Int) ^ 2) = 1 from rfl, Int.one_pow, Int.one_mul, Int.pow_one]
theorem Turns.around (h : Turns p w v (od neg n)) (k : Nat) : eqm p (w ^ ex neg n k) (if neg = true then -1 else 1) := by
  cases neg with
  | false =>
    simp only [Bool.false_eq_true, if_false]
    refine (h.pw _).2 ?_
    simp only [od, ex, Bool.false_eq_true, if_false]
    exact Nat.dvd_mul_right _ _
  | true =>
    simp only [if_true]
    have ho : od true n = 2 * n := by simp [od]
    rw [ho] at h
    have he : ex true n k = n * (2 * k + 1) := by simp [ex]
    rw [he, Int.pow_mul]
    refine (h.half.pow _).trans (eqm.of (odd_neg k))
/-- The power of two words together is, but for its sign, that of where they come to. -/
theorem Turns.join (h : Turns p w v (od neg n)) {i j : Nat} (hi : i < n) (hj : j < n) (k : Nat) : eqm p (sg neg n i j * w ^ ex neg ((i + j) % n) k) (w ^ ex neg i k * w ^ ex neg j k) := by
  rw [← Int.pow_add, ← ex_add]
  rcases Nat.lt_or_ge (i + j) n with hlt | hge
  · rw [Nat.mod_eq_of_lt hlt]
    unfold sg
    rw [if_neg (by omega), Int.one_mul]
    exact eqm.rfl
  · have e1 : (i + j) % n = i + j - n := by rw [Nat.mod_eq_sub_mod hge, Nat.mod_eq_of_lt (by omega)]
    have e2 : ex neg (i + j) k = ex neg n k + ex neg (i + j - n) k := by rw [← ex_add]; congr 1; omega
    rw [e1, e2, Int.pow_add]
    have hs : sg neg n i j = if neg = true then -1 else 1 := by
      unfold sg
      cases neg with
      | false => simp
      | true => simp [hge]
    rw [hs]
    exact (h.around k).symm.mul eqm.rfl
/-- The transform of a product that goes around is the product of both transforms. -/
theorem fw_wr (h : Turns p w v (od neg n)) (a b : Nat → Int) (k : Nat) : eqm p (fw w neg n (wr neg n a b) k) (fw w neg n a k * fw w neg n b k) := by
  have e1 : fw w neg n (wr neg n a b) k = sum (fun i => sum (fun j => sum (fun t => (if (i + j) % n = t then sg neg n i j * (a i * b j) else 0) * w ^ ex neg t k) n) n) n := by
    unfold fw wr
    have e2 : sum (fun t => sum (fun i => sum (fun j => if (i + j) % n = t then sg neg n i j * (a i * b j) else 0) n) n * w ^ ex neg t k) n
        = sum (fun t => sum (fun i => sum (fun j => (if (i + j) % n = t then sg neg n i j * (a i * b j) else 0) * w ^ ex neg t k) n) n) n := sum_congr fun t _ => by
      rw [← sum_mulr]
      exact sum_congr fun i _ => (sum_mulr _ _ _).symm
    rw [e2, sum_swap]
    exact sum_congr fun i _ => sum_swap _ _ _
  have e3 : fw w neg n a k * fw w neg n b k = sum (fun i => sum (fun j => a i * b j * (w ^ ex neg i k * w ^ ex neg j k)) n) n := by
    unfold fw
    rw [← sum_mulr]
    refine sum_congr fun i _ => ?_
    rw [← sum_mul]
    refine sum_congr fun j _ => ?_
    rw [Int.mul_assoc, Int.mul_assoc, Int.mul_left_comm (w ^ ex neg i k)]
  rw [e1, e3]
  refine sum_mod fun i hi => sum_mod fun j hj => ?_
  refine (sum_one (k := (i + j) % n) (Nat.mod_lt _ (by omega)) fun t _ hne => ?_).trans ?_
  · rw [if_neg (Ne.symm hne), Int.zero_mul]; exact eqm.rfl
  · rw [if_pos rfl, Int.mul_comm (sg neg n i j), Int.mul_assoc]
    exact eqm.rfl.mul (h.join hi hj k)
end

end Go.Proofs.YtlbfllaaabginaaDoor.Fp
