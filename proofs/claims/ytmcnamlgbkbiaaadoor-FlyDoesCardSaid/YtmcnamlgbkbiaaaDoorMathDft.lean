/-
  Plain mathematics of layer 6: finite sums by a prime, sums of powers of roots, transforms and products that go around. No program is named here.
-/
import Derived.Test.YtmcnamlgbkbiaaaDoorMathRoot
namespace Go.Proofs.YtmcnamlgbkbiaaaDoor.Fp

/-- Two numbers leave the same rest. -/
def eqm (p a b : Int) : Prop := a % p = b % p
section
variable {p a b c d : Int}
theorem eqm.rfl : eqm p a a := Eq.refl _
theorem eqm.of (h : a = b) : eqm p a b := by rw [h]; exact eqm.rfl
theorem eqm.symm (h : eqm p a b) : eqm p b a := Eq.symm h
theorem eqm.trans (h : eqm p a b) (k : eqm p b c) : eqm p a c := Eq.trans h k
theorem eqm.add (h : eqm p a b) (k : eqm p c d) : eqm p (a + c) (b + d) := by unfold eqm at *; rw [Int.add_emod, h, k, ← Int.add_emod]
theorem eqm.mul (h : eqm p a b) (k : eqm p c d) : eqm p (a * c) (b * d) := by unfold eqm at *; rw [Int.mul_emod, h, k, ← Int.mul_emod]
theorem eqm.neg (h : eqm p a b) : eqm p (-a) (-b) := by
  have := (eqm.rfl (p := p) (a := -1)).mul h
  rwa [Int.neg_mul, Int.one_mul, Int.neg_mul, Int.one_mul] at this
theorem eqm.pow (h : eqm p a b) : ∀ n : Nat, eqm p (a ^ n) (b ^ n)
  | 0 => by rw [Int.pow_zero, Int.pow_zero]; exact eqm.rfl
  | n + 1 => by rw [Int.pow_succ, Int.pow_succ]; exact (eqm.pow h n).mul h
theorem eqm_md (p a : Int) : eqm p (a % p) a := Int.emod_emod_of_dvd a (Int.dvd_refl p)
theorem eqm_zero_sub (h : eqm p (a - b) 0) : eqm p a b := by
  have := h.add (eqm.rfl (a := b))
  rwa [Int.sub_add_cancel, Int.zero_add] at this
theorem eqm_sub_zero (h : eqm p a b) : eqm p (a - b) 0 := by
  have := h.add (eqm.rfl (a := -b))
  rwa [Int.add_right_neg, ← Int.sub_eq_add_neg] at this
/-- A product leaves no rest just if one of both does. -/
theorem eqm_mul_zero (h : kn p = true) (hm : eqm p (a * b) 0) : eqm p a 0 ∨ eqm p b 0 := by
  have := (mul_zero_iff h a b).1 (by unfold eqm at hm; rw [hm]; simp)
  rcases this with e | e
  · left; unfold eqm; rw [e]; simp
  · right; unfold eqm; rw [e]; simp
end

/-- The sum of f j, j from 0 to n less 1. -/
def sum (f : Nat → Int) : Nat → Int
  | 0 => 0
  | n + 1 => sum f n + f n
section
variable {p : Int} {f g : Nat → Int}
theorem sum_congr {n : Nat} (h : ∀ j, j < n → f j = g j) : sum f n = sum g n := by
  induction n with
  | zero => rfl
  | succ n ih => rw [sum, sum, ih (fun j hj => h j (by omega)), h n (by omega)]
theorem sum_mod {n : Nat} (h : ∀ j, j < n → eqm p (f j) (g j)) : eqm p (sum f n) (sum g n) := by
  induction n with
  | zero => exact eqm.rfl
  | succ n ih => exact (ih (fun j hj => h j (by omega))).add (h n (by omega))
theorem sum_zero (n : Nat) : sum (fun _ => 0) n = 0 := by
  induction n with
  | zero => rfl
  | succ n ih => rw [sum, ih]; rfl
theorem sum_add (f g : Nat → Int) (n : Nat) : sum (fun j => f j + g j) n = sum f n + sum g n := by
  induction n with
  | zero => rfl
  | succ n ih => rw [sum, sum, sum, ih]; omega
theorem sum_mul (c : Int) (f : Nat → Int) (n : Nat) : sum (fun j => c * f j) n = c * sum f n := by
  induction n with
  | zero => simp [sum]
  | succ n ih => rw [sum, sum, ih, Int.mul_add]
theorem sum_mulr (c : Int) (f : Nat → Int) (n : Nat) : sum (fun j => f j * c) n = sum f n * c := by
  rw [Int.mul_comm, ← sum_mul]; exact sum_congr fun j _ => Int.mul_comm _ _
theorem sum_swap (f : Nat → Nat → Int) (m : Nat) : ∀ n : Nat, sum (fun i => sum (fun j => f i j) m) n = sum (fun j => sum (fun i => f i j) n) m
  | 0 => by rw [sum]; exact (sum_zero m).symm
  | n + 1 => by
    rw [sum, sum_swap f m n, ← sum_add]
    exact sum_congr fun j _ => (by rw [sum])
theorem sum_one {n k : Nat} (hk : k < n) (h : ∀ j, j < n → j ≠ k → eqm p (f j) 0) : eqm p (sum f n) (f k) := by
  induction n with
  | zero => omega
  | succ n ih =>
    rw [sum]
    by_cases e : k = n
    · subst e
      have h0 : eqm p (sum f k) 0 := (sum_mod (g := fun _ => 0) (fun j hj => h j (by omega) (by omega))).trans (eqm.of (sum_zero k))
      have := h0.add (eqm.rfl (a := f k))
      rwa [Int.zero_add] at this
    · have := (ih (by omega) (fun j hj hne => h j (by omega) hne)).add (h n (by omega) (Ne.symm e))
      rwa [Int.add_zero] at this
theorem sum_const (c : Int) (n : Nat) : sum (fun _ => c) n = n * c := by
  induction n with
  | zero => simp [sum]
  | succ n ih => rw [sum, ih, Int.natCast_add, Int.add_mul, Int.natCast_one, Int.one_mul]
/-- Powers, one behind the other. -/
theorem geo_tele (a : Int) (n : Nat) : (a - 1) * sum (fun k => a ^ k) n = a ^ n - 1 := by
  induction n with
  | zero => simp [sum]
  | succ n ih => rw [sum, Int.mul_add, ih, Int.pow_succ, Int.sub_mul, Int.mul_comm a]; omega
theorem geo_zero (h : kn p = true) {a : Int} {n : Nat} (h1 : eqm p (a ^ n) 1) (h2 : ¬ eqm p a 1) : eqm p (sum (fun k => a ^ k) n) 0 := by
  have h3 : eqm p ((a - 1) * sum (fun k => a ^ k) n) 0 := by rw [geo_tele]; exact eqm_sub_zero h1
  rcases eqm_mul_zero h h3 with h4 | h4
  · exact absurd (eqm_zero_sub h4) h2
  · exact h4
end

/-- w goes around in just N steps, v undoes it. -/
structure Turns (p w v : Int) (N : Nat) : Prop where
  kn : kn p = true
  pos : 0 < N
  pw : ∀ m : Nat, eqm p (w ^ m) 1 ↔ N ∣ m
  undo : eqm p (w * v) 1
section
variable {p w v : Int} {N : Nat}
theorem Turns.undo_pow (h : Turns p w v N) (m : Nat) : eqm p (w ^ m * v ^ m) 1 := by
  have := h.undo.pow m
  rwa [Int.mul_pow, Int.one_pow] at this
theorem Turns.flip (h : Turns p w v N) : Turns p v w N := by
  refine ⟨h.kn, h.pos, fun m => ?_, by rw [Int.mul_comm]; exact h.undo⟩
  rw [← h.pw m]
  constructor
  · intro e
    have := (eqm.rfl (p := p) (a := w ^ m)).mul e
    rw [Int.mul_one] at this
    exact this.symm.trans (h.undo_pow m)
  · intro e
    have := e.mul (eqm.rfl (p := p) (a := v ^ m))
    rw [Int.one_mul] at this
    exact this.symm.trans (h.undo_pow m)
/-- What a power of w and one of v together are. -/
theorem Turns.ratio (h : Turns p w v N) {i j : Nat} (hij : j ≤ i) : eqm p (w ^ i * v ^ j) (w ^ (i - j)) := by
  have e : w ^ i * v ^ j = w ^ (i - j) * (w ^ j * v ^ j) := by
    rw [← Int.mul_assoc, ← Int.pow_add, Nat.sub_add_cancel hij]
  rw [e]
  have := (eqm.rfl (p := p) (a := w ^ (i - j))).mul (h.undo_pow j)
  rwa [Int.mul_one] at this
theorem Turns.one_iff (h : Turns p w v N) (i j : Nat) : eqm p (w ^ i * v ^ j) 1 ↔ N ∣ (i - j) ∧ N ∣ (j - i) := by
  rcases Nat.le_total j i with hij | hij
  · rw [show j - i = 0 by omega]
    constructor
    · intro e; exact ⟨(h.pw _).1 ((h.ratio hij).symm.trans e), Nat.dvd_zero _⟩
    · intro e; exact (h.ratio hij).trans ((h.pw _).2 e.1)
  · rw [show i - j = 0 by omega, Int.mul_comm]
    constructor
    · intro e; exact ⟨Nat.dvd_zero _, (h.flip.pw _).1 ((h.flip.ratio hij).symm.trans e)⟩
    · intro e; exact (h.flip.ratio hij).trans ((h.flip.pw _).2 e.2)
theorem Turns.pow_one (h : Turns p w v N) {i j m : Nat} (hi : N ∣ i * m) (hj : N ∣ j * m) : eqm p ((w ^ i * v ^ j) ^ m) 1 := by
  rw [Int.mul_pow, ← Int.pow_mul, ← Int.pow_mul]
  have := ((h.pw _).2 hi).mul ((h.flip.pw _).2 hj)
  rwa [Int.one_mul] at this
/-- A sum of powers of such a number is 0, or it is 1 itself. -/
theorem Turns.sum (h : Turns p w v N) {i j n : Nat} (hi : N ∣ i * n) (hj : N ∣ j * n) (hne : ¬ (N ∣ (i - j) ∧ N ∣ (j - i))) : eqm p (Fp.sum (fun k => (w ^ i * v ^ j) ^ k) n) 0 :=
  geo_zero h.kn (h.pow_one hi hj) (fun e => hne ((h.one_iff i j).1 e))
end

/-- To which power of its root word j goes in word k. -/
def ex (neg : Bool) (j k : Nat) : Nat := if neg then j * (2 * k + 1) else j * k
/-- The order of the root. -/
def od (neg : Bool) (n : Nat) : Nat := if neg then 2 * n else n
theorem ex_add (neg : Bool) (i j k : Nat) : ex neg (i + j) k = ex neg i k + ex neg j k := by
  unfold ex; split <;> rw [Nat.add_mul]
section
variable {p w v : Int} {neg : Bool} {n : Nat}

/-- Over k: two words j and l. -/
theorem orth1 (h : Turns p w v (od neg n)) {j l : Nat} (hj : j < n) (hl : l < n) : eqm p (sum (fun k => w ^ ex neg j k * v ^ ex neg l k) n) (if j = l then (n : Int) else 0) := by
  by_cases e : j = l
  · subst e
    rw [if_pos rfl]
    refine (sum_mod (g := fun _ => 1) fun k _ => h.undo_pow _).trans (eqm.of ?_)
    rw [sum_const, Int.mul_one]
  · rw [if_neg e]
    cases neg with
    | false =>
      have e1 : sum (fun k => w ^ ex false j k * v ^ ex false l k) n = sum (fun k => (w ^ j * v ^ l) ^ k) n := sum_congr fun k _ => by
        simp only [ex, Bool.false_eq_true, if_false]
        rw [Int.mul_pow, ← Int.pow_mul, ← Int.pow_mul]
      rw [e1]
      have ho : od false n = n := by simp [od]
      rw [ho] at h
      refine h.sum (Nat.dvd_mul_left _ _) (Nat.dvd_mul_left _ _) fun hd => ?_
      have h1 := hd.1
      have h2 := hd.2
      rcases Nat.lt_or_gt_of_ne e with hlt | hlt
      · exact absurd (Nat.le_of_dvd (by omega) h2) (by omega)
      · exact absurd (Nat.le_of_dvd (by omega) h1) (by omega)
    | true =>
      have ho : od true n = 2 * n := by simp [od]
      rw [ho] at h
      have e1 : sum (fun k => w ^ ex true j k * v ^ ex true l k) n = w ^ j * v ^ l * sum (fun k => (w ^ (j * 2) * v ^ (l * 2)) ^ k) n := by
        rw [← sum_mul]
        refine sum_congr fun k _ => ?_
        simp only [ex, if_true]
        rw [Int.mul_pow, ← Int.pow_mul, ← Int.pow_mul]
        have a1 : w ^ (j * (2 * k + 1)) = w ^ j * w ^ (j * 2 * k) := by rw [← Int.pow_add]; congr 1; rw [Nat.mul_add, Nat.mul_one, Nat.add_comm, Nat.mul_assoc]
        have a2 : v ^ (l * (2 * k + 1)) = v ^ l * v ^ (l * 2 * k) := by rw [← Int.pow_add]; congr 1; rw [Nat.mul_add, Nat.mul_one, Nat.add_comm, Nat.mul_assoc]
        rw [a1, a2, Int.mul_assoc, Int.mul_assoc, Int.mul_left_comm (w ^ (j * 2 * k))]
      rw [e1]
      have hz : eqm p (sum (fun k => (w ^ (j * 2) * v ^ (l * 2)) ^ k) n) 0 := by
        refine h.sum (by rw [Nat.mul_assoc]; exact Nat.dvd_mul_left _ _) (by rw [Nat.mul_assoc]; exact Nat.dvd_mul_left _ _) fun hd => ?_
        have h1 := hd.1
        have h2 := hd.2
        rcases Nat.lt_or_gt_of_ne e with hlt | hlt
        · exact absurd (Nat.le_of_dvd (by omega) h2) (by omega)
        · exact absurd (Nat.le_of_dvd (by omega) h1) (by omega)
      have := (eqm.rfl (p := p) (a := w ^ j * v ^ l)).mul hz
      rwa [Int.mul_zero] at this

/-- Over j: two words k and m. -/
theorem orth2 (h : Turns p w v (od neg n)) {k m : Nat} (hk : k < n) (hm : m < n) : eqm p (sum (fun j => w ^ ex neg j k * v ^ ex neg j m) n) (if k = m then (n : Int) else 0) := by
  by_cases e : k = m
  · subst e
    rw [if_pos rfl]
    refine (sum_mod (g := fun _ => 1) fun k _ => h.undo_pow _).trans (eqm.of ?_)
    rw [sum_const, Int.mul_one]
  · rw [if_neg e]
    obtain ⟨s, hs⟩ : ∃ s : Nat → Nat, ∀ k j, ex neg j k = j * s k := by
      cases neg with
      | false => exact ⟨fun k => k, fun k j => by simp [ex]⟩
      | true => exact ⟨fun k => 2 * k + 1, fun k j => by simp [ex]⟩
    have hs1 : ∀ k, s k = if neg then 2 * k + 1 else k := fun k => by
      have := hs k 1
      rw [Nat.one_mul] at this
      rw [← this]
      unfold ex
      split <;> rw [Nat.one_mul]
    have e1 : sum (fun j => w ^ ex neg j k * v ^ ex neg j m) n = sum (fun j => (w ^ s k * v ^ s m) ^ j) n := sum_congr fun j _ => by
      rw [hs, hs, Int.mul_pow, ← Int.pow_mul, ← Int.pow_mul, Nat.mul_comm j, Nat.mul_comm j]
    rw [e1]
    refine geo_zero h.kn ?_ fun hd => ?_
    · rcases Nat.le_total m k with hmk | hmk
      · refine ((h.ratio (i := s k) (j := s m) (by rw [hs1, hs1]; split <;> omega)).pow n).trans ?_
        rw [← Int.pow_mul]
        refine (h.pw _).2 ?_
        rw [hs1, hs1]
        unfold od
        cases neg with
        | false => simp only [Bool.false_eq_true, if_false]; exact Nat.dvd_mul_left _ _
        | true => simp only [if_true]; rw [show 2 * k + 1 - (2 * m + 1) = 2 * (k - m) by omega, Nat.mul_assoc, Nat.mul_comm (k - m), ← Nat.mul_assoc]; exact Nat.dvd_mul_right _ _
      · rw [Int.mul_comm]
        refine ((h.flip.ratio (i := s m) (j := s k) (by rw [hs1, hs1]; split <;> omega)).pow n).trans ?_
        rw [← Int.pow_mul]
        refine (h.flip.pw _).2 ?_
        rw [hs1, hs1]
        unfold od
        cases neg with
        | false => simp only [Bool.false_eq_true, if_false]; exact Nat.dvd_mul_left _ _
        | true => simp only [if_true]; rw [show 2 * m + 1 - (2 * k + 1) = 2 * (m - k) by omega, Nat.mul_assoc, Nat.mul_comm (m - k), ← Nat.mul_assoc]; exact Nat.dvd_mul_right _ _
    · obtain ⟨h1, h2⟩ := (h.one_iff _ _).1 hd
      rw [hs1, hs1] at h1 h2
      unfold od at h1 h2
      rcases Nat.lt_or_gt_of_ne e with hlt | hlt
      · have := Nat.le_of_dvd (by split <;> omega) h2
        split at this <;> omega
      · have := Nat.le_of_dvd (by split <;> omega) h1
        split at this <;> omega
end

/-- The root of an order that there is turns so. -/
theorem rt_turns {p : Int} (h : kn p = true) {N : Nat} (hd : N ∣ p.toNat - 1) (hN : 0 < N) : Turns p (rt p N) (inv p (rt p N)) N := by
  have hb := kn_bd h
  have h1 : (1 : Int) % p = 1 := Int.emod_eq_of_lt (by omega) (by omega)
  refine ⟨h, hN, fun m => ?_, ?_⟩
  · rw [← rt_pw h hd m, pw_kn _ _ h]
    unfold eqm
    rw [h1]
  · have := mul_inv h (rt_ne h hd hN)
    rw [mul_kn _ _ h, Int.mul_comm] at this
    unfold eqm
    rw [this, h1]

/-- A line transformed, and back, before the rest is taken: x and y by their places. -/
def fw (w : Int) (neg : Bool) (n : Nat) (x : Nat → Int) (k : Nat) : Int := sum (fun j => x j * w ^ ex neg j k) n
def bw (v : Int) (neg : Bool) (n : Nat) (y : Nat → Int) (j : Nat) : Int := sum (fun k => y k * v ^ ex neg j k) n
section
variable {p w v : Int} {neg : Bool} {n : Nat} {x y : Nat → Int}
theorem fw_mod (h : ∀ j, j < n → eqm p (x j) (y j)) (k : Nat) : eqm p (fw w neg n x k) (fw w neg n y k) := sum_mod fun j hj => (h j hj).mul eqm.rfl
theorem bw_mod (h : ∀ j, j < n → eqm p (x j) (y j)) (k : Nat) : eqm p (bw v neg n x k) (bw v neg n y k) := sum_mod fun j hj => (h j hj).mul eqm.rfl
theorem fw_add (x y : Nat → Int) (k : Nat) : fw w neg n (fun j => x j + y j) k = fw w neg n x k + fw w neg n y k := by
  unfold fw; rw [← sum_add]; exact sum_congr fun j _ => Int.add_mul _ _ _
theorem fw_mul (c : Int) (x : Nat → Int) (k : Nat) : fw w neg n (fun j => c * x j) k = c * fw w neg n x k := by
  unfold fw; rw [← sum_mul]; exact sum_congr fun j _ => Int.mul_assoc _ _ _
theorem bw_add (x y : Nat → Int) (k : Nat) : bw v neg n (fun j => x j + y j) k = bw v neg n x k + bw v neg n y k := by
  unfold bw; rw [← sum_add]; exact sum_congr fun j _ => Int.add_mul _ _ _
theorem bw_mul (c : Int) (x : Nat → Int) (k : Nat) : bw v neg n (fun j => c * x j) k = c * bw v neg n x k := by
  unfold bw; rw [← sum_mul]; exact sum_congr fun j _ => Int.mul_assoc _ _ _

/-- Back from a transform, n times what it was. -/
theorem bw_fw (h : Turns p w v (od neg n)) {j : Nat} (hj : j < n) : eqm p (bw v neg n (fw w neg n x) j) (n * x j) := by
  have e : bw v neg n (fw w neg n x) j = sum (fun i => x i * sum (fun k => w ^ ex neg i k * v ^ ex neg j k) n) n := by
    unfold bw fw
    have e1 : sum (fun k => sum (fun i => x i * w ^ ex neg i k) n * v ^ ex neg j k) n = sum (fun k => sum (fun i => x i * w ^ ex neg i k * v ^ ex neg j k) n) n := sum_congr fun k _ => (sum_mulr _ _ _).symm
    rw [e1, sum_swap]
    refine sum_congr fun i _ => ?_
    rw [← sum_mul]
    exact sum_congr fun k _ => Int.mul_assoc _ _ _
  rw [e]
  refine (sum_one (k := j) hj fun i hi hne => ?_).trans ?_
  · have := (eqm.rfl (p := p) (a := x i)).mul (orth1 h hi hj)
    rwa [if_neg hne, Int.mul_zero] at this
  · have := (eqm.rfl (p := p) (a := x j)).mul (orth1 h hj hj)
    rw [if_pos rfl, Int.mul_comm _ (n : Int)] at this
    exact this
theorem fw_bw (h : Turns p w v (od neg n)) {k : Nat} (hk : k < n) : eqm p (fw w neg n (bw v neg n y) k) (n * y k) := by
  have e : fw w neg n (bw v neg n y) k = sum (fun m => y m * sum (fun j => w ^ ex neg j k * v ^ ex neg j m) n) n := by
    unfold bw fw
    have e1 : sum (fun j => sum (fun m => y m * v ^ ex neg j m) n * w ^ ex neg j k) n = sum (fun j => sum (fun m => y m * (w ^ ex neg j k * v ^ ex neg j m)) n) n := sum_congr fun j _ => by
      rw [← sum_mulr]
      exact sum_congr fun m _ => by rw [Int.mul_assoc, Int.mul_comm (v ^ _)]
    rw [e1, sum_swap]
    exact sum_congr fun m _ => sum_mul _ _ _
  rw [e]
  refine (sum_one (k := k) hk fun m hm hne => ?_).trans ?_
  · have := (eqm.rfl (p := p) (a := y m)).mul (orth2 h hk hm)
    rwa [if_neg (Ne.symm hne), Int.mul_zero] at this
  · have := (eqm.rfl (p := p) (a := y k)).mul (orth2 h hk hk)
    rw [if_pos rfl, Int.mul_comm _ (n : Int)] at this
    exact this

/-- What goes around, or is taken away, if neg. -/
def sg (neg : Bool) (n i j : Nat) : Int := if neg = true ∧ n ≤ i + j then -1 else 1
/-- The product that goes around, before the rest is taken. -/
def wr (neg : Bool) (n : Nat) (a b : Nat → Int) (t : Nat) : Int := sum (fun i => sum (fun j => if (i + j) % n = t then sg neg n i j * (a i * b j) else 0) n) n
theorem wr_comm (a b : Nat → Int) (t : Nat) : wr neg n a b t = wr neg n b a t := by
  unfold wr
  rw [sum_swap]
  refine sum_congr fun j _ => sum_congr fun i _ => ?_
  rw [Nat.add_comm i j, Int.mul_comm (a i)]
  unfold sg
  rw [Nat.add_comm i j]

/-- Half of all steps of a root of even order: less 1. -/
theorem Turns.half {m : Nat} (h : Turns p w v (2 * m)) : eqm p (w ^ m) (-1) := by
  have hm : 0 < m := by have := h.pos; omega
  have h1 : eqm p ((w ^ m - 1) * (w ^ m + 1)) 0 := by
    have e : (w ^ m - 1) * (w ^ m + 1) = w ^ (2 * m) - 1 := by
      rw [Nat.two_mul, Int.pow_add, Int.sub_mul, Int.mul_add, Int.one_mul, Int.mul_one]
      omega
    rw [e]
    exact eqm_sub_zero ((h.pw _).2 (Nat.dvd_refl _))
  rcases eqm_mul_zero h.kn h1 with h2 | h2
  · have h3 := (h.pw m).1 (eqm_zero_sub h2)
    exact absurd (Nat.le_of_dvd hm h3) (by omega)
  · refine eqm_zero_sub ?_
    rwa [Int.sub_neg]
theorem odd_neg (k : Nat) : (-1 : Int) ^ (2 * k + 1) = -1 := by
  rw [Int.pow_add, Int.pow_mul, show ((-1 : Int) ^ 2) = 1 from rfl, Int.one_pow, Int.one_mul, Int.pow_one]
theorem Turns.around (h : Turns p w v (od neg n)) (k : Nat) : eqm p (w ^ ex neg n k) (if neg = true then -1 else 1) := by
  cases neg with
  | false =>
    simp only [Bool.false_eq_true, if_false]
    refine (h.pw _).2 ?_
    simp only [od, ex, Bool.false_eq_true, if_false]
    exact Nat.dvd_mul_right _ _
  | true =>
    simp only [if_true]
    have ho : od true n = 2 * n := by simp [od]
    rw [ho] at h
    have he : ex true n k = n * (2 * k + 1) := by simp [ex]
    rw [he, Int.pow_mul]
    refine (h.half.pow _).trans (eqm.of (odd_neg k))
/-- The power of two words together is, but for its sign, that of where they come to. -/
theorem Turns.join (h : Turns p w v (od neg n)) {i j : Nat} (hi : i < n) (hj : j < n) (k : Nat) : eqm p (sg neg n i j * w ^ ex neg ((i + j) % n) k) (w ^ ex neg i k * w ^ ex neg j k) := by
  rw [← Int.pow_add, ← ex_add]
  rcases Nat.lt_or_ge (i + j) n with hlt | hge
  · rw [Nat.mod_eq_of_lt hlt]
    unfold sg
    rw [if_neg (by omega), Int.one_mul]
    exact eqm.rfl
  · have e1 : (i + j) % n = i + j - n := by rw [Nat.mod_eq_sub_mod hge, Nat.mod_eq_of_lt (by omega)]
    have e2 : ex neg (i + j) k = ex neg n k + ex neg (i + j - n) k := by rw [← ex_add]; congr 1; omega
    rw [e1, e2, Int.pow_add]
    have hs : sg neg n i j = if neg = true then -1 else 1 := by
      unfold sg
      cases neg with
      | false => simp
      | true => simp [hge]
    rw [hs]
    exact (h.around k).symm.mul eqm.rfl
/-- The transform of a product that goes around is the product of both transforms. -/
theorem fw_wr (h : Turns p w v (od neg n)) (a b : Nat → Int) (k : Nat) : eqm p (fw w neg n (wr neg n a b) k) (fw w neg n a k * fw w neg n b k) := by
  have e1 : fw w neg n (wr neg n a b) k = sum (fun i => sum (fun j => sum (fun t => (if (i + j) % n = t then sg neg n i j * (a i * b j) else 0) * w ^ ex neg t k) n) n) n := by
    unfold fw wr
    have e2 : sum (fun t => sum (fun i => sum (fun j => if (i + j) % n = t then sg neg n i j * (a i * b j) else 0) n) n * w ^ ex neg t k) n
        = sum (fun t => sum (fun i => sum (fun j => (if (i + j) % n = t then sg neg n i j * (a i * b j) else 0) * w ^ ex neg t k) n) n) n := sum_congr fun t _ => by
      rw [← sum_mulr]
      exact sum_congr fun i _ => (sum_mulr _ _ _).symm
    rw [e2, sum_swap]
    exact sum_congr fun i _ => sum_swap _ _ _
  have e3 : fw w neg n a k * fw w neg n b k = sum (fun i => sum (fun j => a i * b j * (w ^ ex neg i k * w ^ ex neg j k)) n) n := by
    unfold fw
    rw [← sum_mulr]
    refine sum_congr fun i _ => ?_
    rw [← sum_mul]
    refine sum_congr fun j _ => ?_
    rw [Int.mul_assoc, Int.mul_assoc, Int.mul_left_comm (w ^ ex neg i k)]
  rw [e1, e3]
  refine sum_mod fun i hi => sum_mod fun j hj => ?_
  refine (sum_one (k := (i + j) % n) (Nat.mod_lt _ (by omega)) fun t _ hne => ?_).trans ?_
  · rw [if_neg (Ne.symm hne), Int.zero_mul]; exact eqm.rfl
  · rw [if_pos rfl, Int.mul_comm (sg neg n i j), Int.mul_assoc]
    exact eqm.rfl.mul (h.join hi hj k)
end

end Go.Proofs.YtmcnamlgbkbiaaaDoor.Fp
