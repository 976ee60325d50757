/-
  The numbers of the three primes, as plain integers: sums, differences and products by a known prime, and that a product is 0 only if one of both is.
  No program is named here.
-/
namespace Go.Proofs.YtmcnamlgbkbiaaaDoor.Fp

/-- Is it one of the three primes? -/
def kn (p : Int) : Bool := p == 18446744069414584321 || p == 998244353 || p == 2013265921
def red (p a : Int) : Int := if kn p = true then a % p else 0
def add (p a b : Int) : Int := if kn p = true then (a + b) % p else 0
def sub (p a b : Int) : Int := if kn p = true then (a - b) % p else 0
def mul (p a b : Int) : Int := if kn p = true then (a * b) % p else 0
def neg (p a : Int) : Int := sub p 0 a

theorem kn_cases {p : Int} (h : kn p = true) : p = 18446744069414584321 ∨ p = 998244353 ∨ p = 2013265921 := by
  simp only [kn, Bool.or_eq_true, beq_iff_eq] at h
  omega
theorem kn_bd {p : Int} (h : kn p = true) : 998244353 ≤ p ∧ p ≤ 18446744069414584321 := by
  rcases kn_cases h with h | h | h <;> omega
theorem kn_pos {p : Int} (h : kn p = true) : 0 < p := by have := kn_bd h; omega

theorem md_lo {p : Int} (a : Int) (h : 0 < p) : 0 ≤ a % p := Int.emod_nonneg a (by omega)
theorem md_hi {p : Int} (a : Int) (h : 0 < p) : a % p < p := Int.emod_lt_of_pos a h

/-- A number from 0 to p less 1 that differs by a multiple of p is the rest. -/
theorem md_eq {p a r q : Int} (h0 : 0 ≤ r) (h1 : r < p) (e : a = r + p * q) : a % p = r := by
  rw [e, Int.add_mul_emod_self_left, Int.emod_eq_of_lt h0 h1]

theorem md_split {p : Int} (a : Int) : ∃ q, a = a % p + p * q := ⟨a / p, (Int.emod_add_mul_ediv a p).symm⟩

theorem add_low {p a b : Int} (h : 0 < p) (hlt : a % p < p - b % p) : a % p + b % p = (a + b) % p := by
  obtain ⟨q, hq⟩ := md_split (p := p) a
  obtain ⟨r, hr⟩ := md_split (p := p) b
  have h1 := md_lo a h; have h2 := md_lo b h
  exact (md_eq (q := q + r) (by omega) (by omega) (by rw [Int.mul_add]; omega)).symm
theorem add_high {p a b : Int} (h : 0 < p) (hge : p - b % p ≤ a % p) : a % p - (p - b % p) = (a + b) % p := by
  obtain ⟨q, hq⟩ := md_split (p := p) a
  obtain ⟨r, hr⟩ := md_split (p := p) b
  have h1 := md_lo a h; have h2 := md_lo b h; have h3 := md_hi a h; have h4 := md_hi b h
  exact (md_eq (q := q + r + 1) (by omega) (by omega) (by rw [Int.mul_add, Int.mul_add]; omega)).symm
theorem sub_high {p a b : Int} (h : 0 < p) (hge : b % p ≤ a % p) : a % p - b % p = (a - b) % p := by
  obtain ⟨q, hq⟩ := md_split (p := p) a
  obtain ⟨r, hr⟩ := md_split (p := p) b
  have h1 := md_lo a h; have h2 := md_lo b h; have h3 := md_hi a h
  exact (md_eq (q := q - r) (by omega) (by omega) (by rw [Int.mul_sub]; omega)).symm
theorem sub_low {p a b : Int} (h : 0 < p) (hlt : a % p < b % p) : p - (b % p - a % p) = (a - b) % p := by
  obtain ⟨q, hq⟩ := md_split (p := p) a
  obtain ⟨r, hr⟩ := md_split (p := p) b
  have h1 := md_lo a h; have h2 := md_lo b h; have h3 := md_hi b h
  exact (md_eq (q := q - r - 1) (by omega) (by omega) (by rw [Int.mul_sub, Int.mul_sub]; omega)).symm
theorem md_mul (p a b : Int) : (a % p * b) % p = (a * b) % p := by rw [Int.mul_emod, Int.emod_emod, ← Int.mul_emod]
theorem mul_mdr (p a b : Int) : (a * (b % p)) % p = (a * b) % p := by rw [Int.mul_emod, Int.emod_emod, ← Int.mul_emod]
theorem mul_md {p a b : Int} : (a % p * (b % p)) % p = (a * b) % p := (Int.mul_emod a b p).symm

/-! What is told is from 0 to p less 1. -/
theorem red_bd (p a : Int) : 0 ≤ red p a ∧ red p a < 18446744069414584321 ∧ (kn p = true → red p a < p) := by
  unfold red
  by_cases h : kn p = true
  · have := kn_bd h; have h1 := md_lo a (kn_pos h); have h2 := md_hi a (kn_pos h)
    rw [if_pos h]; exact ⟨h1, by omega, fun _ => h2⟩
  · rw [if_neg h]; exact ⟨by omega, by omega, fun h' => absurd h' h⟩
theorem add_bd (p a b : Int) : 0 ≤ add p a b ∧ add p a b < 18446744069414584321 ∧ (kn p = true → add p a b < p) := red_bd p (a + b)
theorem sub_bd (p a b : Int) : 0 ≤ sub p a b ∧ sub p a b < 18446744069414584321 ∧ (kn p = true → sub p a b < p) := red_bd p (a - b)
theorem mul_bd (p a b : Int) : 0 ≤ mul p a b ∧ mul p a b < 18446744069414584321 ∧ (kn p = true → mul p a b < p) := red_bd p (a * b)
theorem neg_bd (p a : Int) : 0 ≤ neg p a ∧ neg p a < 18446744069414584321 ∧ (kn p = true → neg p a < p) := red_bd p (0 - a)
theorem red_no {p : Int} (a : Int) (h : kn p = false) : red p a = 0 := by unfold red; rw [if_neg (by simp [h])]

/-! ### The ring -/
theorem add_comm (p a b : Int) : add p a b = add p b a := by unfold add; rw [Int.add_comm]
theorem mul_comm (p a b : Int) : mul p a b = mul p b a := by unfold mul; rw [Int.mul_comm]
theorem add_assoc (p a b c : Int) : add p (add p a b) c = add p a (add p b c) := by
  unfold add; by_cases h : kn p = true
  · simp only [if_pos h]; rw [Int.emod_add_emod, Int.add_emod_emod, Int.add_assoc]
  · simp only [if_neg h]
theorem mul_assoc (p a b c : Int) : mul p (mul p a b) c = mul p a (mul p b c) := by
  unfold mul; by_cases h : kn p = true
  · simp only [if_pos h]; rw [md_mul, mul_mdr, Int.mul_assoc]
  · simp only [if_neg h]
theorem mul_add (p a b c : Int) : mul p a (add p b c) = add p (mul p a b) (mul p a c) := by
  unfold mul add; by_cases h : kn p = true
  · simp only [if_pos h]; rw [mul_mdr, Int.emod_add_emod, Int.add_emod_emod, Int.mul_add]
  · simp only [if_neg h]
theorem sub_add (p a b : Int) : sub p (add p a b) b = red p a := by
  unfold sub add red; by_cases h : kn p = true
  · simp only [if_pos h]; rw [Int.emod_sub_emod]; congr 1; omega
  · simp only [if_neg h]
theorem mul_one (p a : Int) : mul p a 1 = red p a := by
  unfold mul red; by_cases h : kn p = true
  · simp only [if_pos h]; rw [Int.mul_one]
  · simp only [if_neg h]
theorem add_neg (p a : Int) : add p a (neg p a) = 0 := by
  unfold add neg sub; by_cases h : kn p = true
  · simp only [if_pos h]; rw [Int.add_emod_emod]; have : a + (0 - a) = 0 := by omega
    rw [this]; simp
  · simp only [if_neg h]
theorem red_red (p a : Int) : red p (red p a) = red p a := by
  unfold red; by_cases h : kn p = true
  · simp only [if_pos h]; rw [Int.emod_emod]
  · simp only [if_neg h]

/-! ### The primes: no number between 1 and p divides p -/
theorem pigeon : ∀ (m n : Nat) (f : Nat → Nat), (∀ i, i < n → f i < m) → (∀ i j, i < n → j < n → f i = f j → i = j) → n ≤ m
  | 0, n, f, hb, _ => by
    cases n with
    | zero => exact Nat.le_refl _
    | succ n => have := hb 0 (by omega); omega
  | m + 1, n, f, hb, hi => by
    cases n with
    | zero => omega
    | succ n =>
      have h := pigeon m n (fun i => if f i = m then f n else f i)
        (by
          intro i hin
          have h1 := hb i (by omega); have h2 := hb n (by omega)
          by_cases e : f i = m
          · simp only [if_pos e]
            have : f n ≠ m := fun e' => by have := hi i n (by omega) (by omega) (by omega); omega
            omega
          · simp only [if_neg e]; omega)
        (by
          intro i j hin hjn e
          by_cases e1 : f i = m <;> by_cases e2 : f j = m
          · exact hi i j (by omega) (by omega) (by omega)
          · simp only [if_pos e1, if_neg e2] at e
            have := hi n j (by omega) (by omega) e; omega
          · simp only [if_neg e1, if_pos e2] at e
            have := hi i n (by omega) (by omega) e; omega
          · simp only [if_neg e1, if_neg e2] at e
            exact hi i j (by omega) (by omega) e)
      omega

theorem dvd_pow_one {d x : Int} (h : d ∣ x - 1) : ∀ n : Nat, d ∣ x ^ n - 1
  | 0 => ⟨0, by simp⟩
  | n + 1 => by
    obtain ⟨u, hu⟩ := h
    obtain ⟨v, hv⟩ := dvd_pow_one ⟨u, hu⟩ n
    exact ⟨x * v + u, by rw [Int.pow_succ]; grind⟩

theorem dvd_pow_odd {d x : Int} (h : d ∣ x + 1) (n : Nat) : d ∣ x ^ (2 * n + 1) + 1 := by
  obtain ⟨u, hu⟩ := h
  have h2 : d ∣ x ^ 2 - 1 := ⟨u * (x - 1), by grind⟩
  obtain ⟨v, hv⟩ := dvd_pow_one h2 n
  refine ⟨x * v + u, ?_⟩
  rw [Int.pow_succ, Int.pow_mul]; grind

/-- A power of b whose half is -1 has 2^(k+1) for its order. -/
theorem order_two {d : Int} (hd : ¬ d ∣ 2) : ∀ (k : Nat) (b : Int) (m : Nat), d ∣ b ^ (2 ^ k) + 1 → d ∣ b ^ m - 1 → 2 ^ (k + 1) ∣ m := by
  intro k
  induction k with
  | zero =>
    intro b m h1 h2
    by_cases e : m % 2 = 0
    · exact Nat.dvd_of_mod_eq_zero (by simpa using e)
    · exfalso
      obtain ⟨n, hn⟩ : ∃ n, m = 2 * n + 1 := ⟨m / 2, by omega⟩
      have h3 := dvd_pow_odd (x := b) (d := d) (by rw [Nat.pow_zero, Int.pow_one] at h1; exact h1) n
      rw [← hn] at h3
      obtain ⟨u, hu⟩ := h2; obtain ⟨v, hv⟩ := h3
      exact hd ⟨v - u, by grind⟩
  | succ k ih =>
    intro b m h1 h2
    by_cases e : m % 2 = 0
    · obtain ⟨n, hn⟩ : ∃ n, m = 2 * n := ⟨m / 2, by omega⟩
      subst hn
      have h3 := ih (b ^ 2) n (by rw [← Int.pow_mul]; rw [Nat.pow_succ, Nat.mul_comm] at h1; exact h1) (by rw [← Int.pow_mul]; exact h2)
      rw [Nat.pow_succ, Nat.mul_comm]
      exact Nat.mul_dvd_mul_left 2 h3
    · exfalso
      obtain ⟨n, hn⟩ : ∃ n, m = 2 * n + 1 := ⟨m / 2, by omega⟩
      have h3 := dvd_pow_odd h1 n
      rw [← hn, ← Int.pow_mul, Nat.mul_comm, Int.pow_mul] at h3
      have h4 := dvd_pow_one h2 (2 ^ (k + 1))
      obtain ⟨u, hu⟩ := h4; obtain ⟨v, hv⟩ := h3
      exact hd ⟨v - u, by grind⟩

theorem cancel_pow {d b u : Int} (hu : d ∣ b * u - 1) : ∀ (i : Nat) (x : Int), d ∣ b ^ i * x → d ∣ x
  | 0, x, h => by simpa using h
  | i + 1, x, h => by
    apply cancel_pow hu i
    obtain ⟨v, hv⟩ := h; obtain ⟨y, hy⟩ := hu
    rw [Int.pow_succ] at hv
    refine ⟨u * v - b ^ i * x * y, ?_⟩
    grind

theorem big_div {p b : Int} (k : Nat) (h : p ∣ b ^ (2 ^ k) + 1) {d : Nat} (hd : (d : Int) ∣ p) (h1 : 1 < d) (h2 : ¬ (d : Int) ∣ 2) : 2 ^ (k + 1) ≤ d := by
  have hb : (d : Int) ∣ b ^ (2 ^ k) + 1 := Int.dvd_trans hd h
  have hn : 2 ^ k = (2 ^ k - 1) + 1 := by have := Nat.two_pow_pos k; omega
  have hu : (d : Int) ∣ b * (- b ^ (2 ^ k - 1)) - 1 := by
    rw [hn, Int.pow_succ] at hb
    obtain ⟨v, hv⟩ := hb
    exact ⟨-v, by grind⟩
  have key : ∀ i j, i < j → j < 2 ^ (k + 1) → b ^ i % (d : Int) = b ^ j % (d : Int) → False := by
    intro i j hij hj e
    have e1 : (d : Int) ∣ b ^ i * (b ^ (j - i) - 1) := by
      have : b ^ j = b ^ i * b ^ (j - i) := by rw [← Int.pow_add]; congr 1; omega
      have e2 : (b ^ j - b ^ i) % (d : Int) = 0 := Int.emod_eq_emod_iff_emod_sub_eq_zero.1 e.symm
      have e3 := Int.dvd_of_emod_eq_zero e2
      rw [this] at e3
      rw [Int.mul_sub, Int.mul_one]; exact e3
    have e4 := order_two h2 k b (j - i) hb (cancel_pow hu i _ e1)
    have := Nat.le_of_dvd (by omega) e4
    omega
  refine pigeon d (2 ^ (k + 1)) (fun i => (b ^ i % (d : Int)).toNat) ?_ ?_
  · intro i _
    have := md_lo (p := (d : Int)) (b ^ i) (by omega); have := md_hi (p := (d : Int)) (b ^ i) (by omega)
    show (b ^ i % (d : Int)).toNat < d
    omega
  · intro i j hi hj e
    have a1 := md_lo (p := (d : Int)) (b ^ i) (by omega); have a2 := md_lo (p := (d : Int)) (b ^ j) (by omega)
    have e' : b ^ i % (d : Int) = b ^ j % (d : Int) := by
      have : (b ^ i % (d : Int)).toNat = (b ^ j % (d : Int)).toNat := e
      omega
    rcases Nat.lt_trichotomy i j with h | h | h
    · exact (key i j h hj e').elim
    · exact h
    · exact (key j i h hi e'.symm).elim

/-- Squared n times, by p. -/
def sqs (p : Nat) : Nat → Nat → Nat
  | 0, x => x
  | n + 1, x => sqs p n (x * x % p)
theorem sqs_pow (p : Nat) : ∀ n x, sqs p n x % p = x ^ (2 ^ n) % p
  | 0, x => by simp [sqs]
  | n + 1, x => by
    show sqs p n (x * x % p) % p = _
    rw [sqs_pow p n, ← Nat.pow_mod, Nat.pow_succ 2 n, Nat.mul_comm (2 ^ n) 2, Nat.pow_mul, Nat.pow_two]

theorem neg_one_of {p k b : Nat} (h : sqs p k b + 1 = p) : (p : Int) ∣ (b : Int) ^ (2 ^ k) + 1 := by
  have h1 := sqs_pow p k b
  have h2 : (b ^ (2 ^ k) + 1) % p = 0 := by
    rw [Nat.add_mod, ← h1, ← Nat.add_mod, h, Nat.mod_self]
  have := Nat.dvd_of_mod_eq_zero h2
  have h3 := Int.natCast_dvd_natCast.2 this
  simpa using h3

/-- p has no divisors but 1 and p. -/
def Whole (p : Nat) : Prop := ∀ d, d ∣ p → d = 1 ∨ d = p
theorem whole_of {p k b : Nat} (hp : p % 2 = 1) (h : sqs p k b + 1 = p) (hk : p < 2 ^ (k + 1) * 2 ^ (k + 1)) : Whole p := by
  intro d hd
  have hpos : 0 < p := by omega
  obtain ⟨e, he⟩ := hd
  have two : ∀ x : Nat, x ∣ p → 1 < x → ¬ (x : Int) ∣ 2 := by
    intro x hx h1 h2
    have h3 : x ∣ 2 := Int.natCast_dvd_natCast.1 h2
    have h4 := Nat.le_of_dvd (by omega) h3
    have : x = 2 := by omega
    subst this
    have := Nat.mod_eq_zero_of_dvd hx; omega
  have hn := neg_one_of h
  by_cases h1 : d = 1
  · exact .inl h1
  right
  have hd0 : d ≠ 0 := fun h0 => by subst h0; omega
  have he0 : e ≠ 0 := fun h0 => by subst h0; omega
  by_cases h2 : e = 1
  · subst h2; omega
  exfalso
  have hdp : d ∣ p := ⟨e, he⟩
  have hep : e ∣ p := ⟨d, by rw [he, Nat.mul_comm]⟩
  have a1 := big_div k hn (Int.natCast_dvd_natCast.2 hdp) (by omega) (two d hdp (by omega))
  have a2 := big_div k hn (Int.natCast_dvd_natCast.2 hep) (by omega) (two e hep (by omega))
  have := Nat.mul_le_mul a1 a2
  omega
theorem whole_dvd {p : Nat} (hw : Whole p) {a b : Nat} (h : p ∣ a * b) : p ∣ a ∨ p ∣ b := by
  by_cases ha : p ∣ a
  · exact .inl ha
  right
  rcases hw (Nat.gcd p a) (Nat.gcd_dvd_left p a) with h1 | h1
  · exact Nat.Coprime.dvd_of_dvd_mul_left h1 h
  · exact (ha (h1 ▸ Nat.gcd_dvd_right p a)).elim

theorem whole0 : Whole 18446744069414584321 := whole_of (k := 31) (b := 1753635133440165772) (by decide) (by decide +kernel) (by decide +kernel)
theorem whole1 : Whole 998244353 := whole_of (k := 14) (b := 968855178) (by decide) (by decide +kernel) (by decide +kernel)
theorem whole2 : Whole 2013265921 := whole_of (k := 15) (b := 1421947380) (by decide) (by decide +kernel) (by decide +kernel)
theorem kn_whole {p : Int} (h : kn p = true) : Whole p.toNat := by
  rcases kn_cases h with h | h | h <;> subst h
  · exact whole0
  · exact whole1
  · exact whole2

theorem mul_zero_iff {p : Int} (h : kn p = true) (a b : Int) : a * b % p = 0 ↔ a % p = 0 ∨ b % p = 0 := by
  have hp := kn_pos h
  have ep : ((p.toNat : Nat) : Int) = p := Int.toNat_of_nonneg (by omega)
  constructor
  · intro e
    have h1 := Int.dvd_of_emod_eq_zero e
    have h2 : p.toNat ∣ a.natAbs * b.natAbs := by
      rw [← Int.natAbs_mul]
      have := Int.natAbs_dvd_natAbs.2 h1
      have e2 : p.natAbs = p.toNat := by omega
      rwa [e2] at this
    have back : ∀ x : Int, p.toNat ∣ x.natAbs → x % p = 0 := by
      intro x hx
      apply Int.emod_eq_zero_of_dvd
      have := Int.natCast_dvd_natCast.2 hx
      rw [ep] at this
      exact Int.dvd_natAbs.1 this
    rcases whole_dvd (kn_whole h) h2 with h3 | h3
    · exact .inl (back a h3)
    · exact .inr (back b h3)
  · intro e
    rw [Int.mul_emod]
    rcases e with e | e <;> rw [e] <;> simp

theorem mul_zero {p : Int} (h : kn p = true) (a b : Int) : mul p a b = 0 ↔ red p a = 0 ∨ red p b = 0 := by
  unfold mul red; simp only [if_pos h]; exact mul_zero_iff h a b
theorem mul_same {p : Int} (h : kn p = true) (a b c : Int) (ha : red p a ≠ 0) : mul p a b = mul p a c ↔ red p b = red p c := by
  unfold red at ha; unfold mul red; simp only [if_pos h] at *
  rw [Int.emod_eq_emod_iff_emod_sub_eq_zero, ← Int.mul_sub, mul_zero_iff h, Int.emod_eq_emod_iff_emod_sub_eq_zero (m := b)]
  constructor
  · intro e; rcases e with e | e
    · exact absurd e ha
    · exact e
  · exact .inr

end Go.Proofs.YtmcnamlgbkbiaaaDoor.Fp
