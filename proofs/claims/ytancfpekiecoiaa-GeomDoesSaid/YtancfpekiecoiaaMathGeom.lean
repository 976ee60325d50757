/-
  Plain mathematics of layer 8: sums of powers, numbers times powers, and how many different numbers make them nothing. No program is named here.
-/
import Derived.Test.YtancfpekiecoiaaGround
namespace Go.Proofs.Ytancfpekiecoiaa.Fp

theorem eqm_red {p : Int} (h : kn p = true) (a : Int) : eqm p (red p a) a := by rw [red_kn _ h]; exact eqm_md p a
theorem red_of_eqm {p a b : Int} (h : eqm p a b) : red p a = red p b := by unfold red; rw [show a % p = b % p from h]
theorem eqm_of_red {p a b : Int} (h : kn p = true) (e : red p a = red p b) : eqm p a b := (eqm_red h a).symm.trans (e ▸ eqm_red h b)
theorem add_red (p a b : Int) : add p a b = red p (a + b) := rfl
theorem sub_red (p a b : Int) : sub p a b = red p (a - b) := rfl
theorem eqm_zero {p a : Int} (h : kn p = true) (e : red p a = 0) : eqm p a 0 := eqm_of_red h (by rw [e, red_kn _ h]; simp)
theorem zero_eqm {p a : Int} (h : kn p = true) (e : eqm p a 0) : red p a = 0 := by rw [red_of_eqm e, red_kn _ h]; simp
theorem eqm.sub {p a b c d : Int} (h : eqm p a b) (k : eqm p c d) : eqm p (a - c) (b - d) := by
  rw [Int.sub_eq_add_neg, Int.sub_eq_add_neg]; exact h.add k.neg

/-! Sums of powers. -/
theorem sum_head (f : Nat → Int) : ∀ n : Nat, sum f (n + 1) = f 0 + sum (fun j => f (j + 1)) n
  | 0 => by simp [sum]
  | n + 1 => by rw [sum, sum_head f n, sum]; omega
def gs (z : Int) (n : Nat) : Int := sum (fun k => z ^ k) n
theorem gs_zero (z : Int) : gs z 0 = 0 := rfl
theorem gs_one (z : Int) (n : Nat) : gs z (n + 1) = 1 + z * gs z n := by
  unfold gs
  rw [sum_head, Int.pow_zero, ← sum_mul]
  congr 1
  exact sum_congr fun j _ => by rw [Int.pow_succ, Int.mul_comm]
theorem gs_even (z : Int) : ∀ n : Nat, gs z (2 * n) = (1 + z) * gs (z * z) n
  | 0 => by simp [gs, sum]
  | n + 1 => by
    have e : gs z (2 * (n + 1)) = gs z (2 * n) + z ^ (2 * n) + z ^ (2 * n + 1) := rfl
    have e2 : gs (z * z) (n + 1) = gs (z * z) n + (z * z) ^ n := rfl
    have e3 : (z * z) ^ n = z ^ (2 * n) := by rw [Int.pow_mul, show z ^ 2 = z * z by rw [Int.pow_succ, Int.pow_one]]
    rw [e, e2, e3, gs_even z n, Int.pow_succ]
    grind
theorem gs_add (z : Int) (n : Nat) : ∀ m : Nat, gs z (n + m) = gs z n + z ^ n * gs z m
  | 0 => by simp [gs, sum]
  | m + 1 => by
    have e : gs z (n + (m + 1)) = gs z (n + m) + z ^ (n + m) := rfl
    have e2 : gs z (m + 1) = gs z m + z ^ m := rfl
    rw [e, e2, gs_add z n m, Int.pow_add]
    grind
theorem gs_eqm {p a b : Int} (h : eqm p a b) (n : Nat) : eqm p (gs a n) (gs b n) := sum_mod fun j _ => h.pow j
/-- The sum of the powers 0 to n less 1 of z, by p. -/
def gsum (p z : Int) (n : Nat) : Int := red p (gs z n)
theorem gsum_bd (p z : Int) (n : Nat) : 0 ≤ gsum p z n ∧ gsum p z n < 18446744069414584321 ∧ (kn p = true → gsum p z n < p) := red_bd _ _
section
variable {p : Int} (h : kn p = true)
include h
theorem gsum_zero (z : Int) : gsum p z 0 = 0 := by unfold gsum; rw [gs_zero, red_kn _ h]; simp
theorem gsum_one (z : Int) (n : Nat) : add p 1 (mul p z (gsum p z n)) = gsum p z (n + 1) := by
  unfold gsum
  rw [add_red, gs_one, mul_redr, mul_red]
  exact red_of_eqm (eqm.rfl.add (eqm_red h _))
theorem gsum_even (z : Int) (n : Nat) : mul p (add p 1 z) (gsum p (mul p z z) n) = gsum p z (2 * n) := by
  unfold gsum
  rw [add_red, mul_redl, mul_redr, mul_red, mul_red, gs_even]
  exact red_of_eqm (eqm.rfl.mul (gs_eqm (eqm_red h _) n))
theorem gsum_next (z : Int) (n : Nat) : add p (mul p (gsum p z n) z) 1 = gsum p z (n + 1) := by
  rw [add_comm, mul_comm]; exact gsum_one h z n
theorem gsum_tele (z : Int) (n : Nat) : mul p (gsum p z n) (sub p z 1) = sub p (pw p z n) 1 := by
  unfold gsum pw
  rw [sub_red, sub_red, mul_redl, mul_redr, mul_red]
  refine red_of_eqm ?_
  rw [Int.mul_comm, gs, geo_tele]
  exact (eqm_red h _).symm.sub eqm.rfl
theorem gsum_add (z : Int) (n m : Nat) : add p (gsum p z n) (mul p (pw p z n) (gsum p z m)) = gsum p z (n + m) := by
  unfold gsum pw
  rw [add_red, mul_redl, mul_redr, mul_red, gs_add]
  exact red_of_eqm ((eqm_red h _).add (eqm_red h _))
end

/-! Numbers times powers. -/
def hn (r : Int) : List Int → Int
  | [] => 0
  | a :: l => a + r * hn r l
theorem hn_eqm {p a b : Int} (h : eqm p a b) : ∀ l : List Int, eqm p (hn a l) (hn b l)
  | [] => eqm.rfl
  | _ :: l => eqm.rfl.add (h.mul (hn_eqm h l))
theorem hn_sum (r : Int) : ∀ l : List Int, hn r l = sum (fun j => l.getD j 0 * r ^ j) l.length
  | [] => rfl
  | a :: l => by
    rw [hn, List.length_cons, sum_head, hn_sum r l, ← sum_mul]
    simp only [List.getD_cons_zero, List.getD_cons_succ, Int.pow_zero, Int.mul_one]
    congr 1
    exact sum_congr fun j _ => by rw [Int.pow_succ]; grind
theorem hn_range (r : Int) (f : Nat → Int) (n : Nat) : hn r ((List.range n).map f) = sum (fun j => f j * r ^ j) n := by
  rw [hn_sum, List.length_map, List.length_range]
  exact sum_congr fun j hj => by simp [hj]
/-- The sum of all numbers of xs times powers of r, by p. -/
def ev (p : Int) (xs : List Int) (r : Int) : Int := red p (hn r xs)
theorem ev_bd (p : Int) (xs : List Int) (r : Int) : 0 ≤ ev p xs r ∧ ev p xs r < 18446744069414584321 ∧ (kn p = true → ev p xs r < p) := red_bd _ _
/-- The first k numbers times their powers, by p. -/
def evk (p : Int) (xs : List Int) (r : Int) (k : Nat) : Int := red p (sum (fun j => xs.getD j 0 * r ^ j) k)
theorem evk_bd (p : Int) (xs : List Int) (r : Int) (k : Nat) : 0 ≤ evk p xs r k ∧ evk p xs r k < 18446744069414584321 ∧ (kn p = true → evk p xs r k < p) := red_bd _ _
theorem evk_all (p : Int) (xs : List Int) (r : Int) : evk p xs r xs.length = ev p xs r := by unfold evk ev; rw [hn_sum]
section
variable {p : Int} (h : kn p = true)
include h
theorem ev_nil (r : Int) : ev p [] r = 0 := by unfold ev; rw [hn, red_kn _ h]; simp
theorem ev_cons (a r : Int) (l : List Int) : add p a (mul p r (ev p l r)) = ev p (a :: l) r := by
  unfold ev
  rw [add_red, mul_redr, mul_red, hn]
  exact red_of_eqm (eqm.rfl.add (eqm_red h _))
theorem ev_red (xs : List Int) (r : Int) : ev p xs (red p r) = ev p xs r := red_of_eqm (hn_eqm (eqm_red h r) xs)
theorem evk_zero (xs : List Int) (r : Int) : evk p xs r 0 = 0 := by unfold evk; rw [sum, red_kn _ h]; simp
theorem evk_succ (xs : List Int) (r : Int) (k : Nat) : add p (evk p xs r k) (mul p (xs.getD k 0) (pw p r k)) = evk p xs r (k + 1) := by
  unfold evk pw
  rw [add_red, mul_redr, mul_red, sum]
  exact red_of_eqm ((eqm_red h _).add (eqm_red h _))
/-- Sums of numbers, and numbers times one, go through. -/
theorem ev_lin (c r : Int) (xs ys : List Int) (hl : ys.length = xs.length) : ev p ((List.range xs.length).map fun j => add p (mul p c (xs.getD j 0)) (ys.getD j 0)) r = add p (mul p c (ev p xs r)) (ev p ys r) := by
  unfold ev
  rw [hn_range, hn_sum r xs, hn_sum r ys, hl]
  rw [mul_redr, mul_red, add_red]
  have e : sum (fun j => (c * xs.getD j 0 + ys.getD j 0) * r ^ j) xs.length = c * sum (fun j => xs.getD j 0 * r ^ j) xs.length + sum (fun j => ys.getD j 0 * r ^ j) xs.length := by
    rw [← sum_mul, ← sum_add]
    exact sum_congr fun j _ => by rw [Int.add_mul, Int.mul_assoc]
  refine red_of_eqm ?_
  refine (sum_mod (g := fun j => (c * xs.getD j 0 + ys.getD j 0) * r ^ j) fun j _ => ?_).trans ?_
  · rw [mul_red, add_red]
    exact ((eqm_red h _).trans ((eqm_red h _).add eqm.rfl)).mul eqm.rfl
  · rw [e]
    exact (eqm_red h _).symm.add (eqm_red h _).symm
/-- Of powers of one number it is a sum of powers. -/
theorem ev_pws (c r : Int) (n : Nat) : ev p ((List.range n).map (pw p c)) r = gsum p (mul p c r) n := by
  unfold ev gsum
  rw [hn_range]
  refine red_of_eqm ((sum_mod (g := fun j => (c * r) ^ j) fun j _ => ?_).trans (gs_eqm (p := p) (a := c * r) (b := mul p c r) ?_ n))
  · rw [Int.mul_pow]
    exact (eqm_red h _).mul eqm.rfl
  · rw [mul_red]; exact (eqm_red h _).symm
end

/-! What is left of numbers when one root is taken out. -/
def dv (r : Int) : List Int → List Int
  | [] => []
  | [_] => []
  | _ :: b :: l => hn r (b :: l) :: dv r (b :: l)
theorem dv_len (r : Int) : ∀ l : List Int, (dv r l).length = l.length - 1
  | [] => rfl
  | [_] => rfl
  | _ :: b :: l => by rw [dv, List.length_cons, dv_len r (b :: l)]; simp
theorem dv_is (r s : Int) : ∀ l : List Int, hn s l - hn r l = (s - r) * hn s (dv r l)
  | [] => by simp [hn, dv]
  | [a] => by simp [hn, dv]
  | a :: b :: l => by
    have e := dv_is r s (b :: l)
    show a + s * hn s (b :: l) - (a + r * hn r (b :: l)) = (s - r) * (hn r (b :: l) + s * hn s (dv r (b :: l)))
    grind
theorem dv_zero {p r : Int} : ∀ l : List Int, eqm p (hn r l) 0 → (∀ x ∈ dv r l, eqm p x 0) → ∀ x ∈ l, eqm p x 0
  | [], _, _ => by simp
  | [a], h, _ => by
    intro x hx
    obtain rfl : x = a := by simpa using hx
    simpa [hn] using h
  | a :: b :: l, h, hd => by
    have h1 : eqm p (hn r (b :: l)) 0 := hd _ (by rw [dv]; simp)
    have h2 := dv_zero (b :: l) h1 (fun x hx => hd x (by rw [dv]; simp [hx]))
    intro x hx
    rcases List.mem_cons.1 hx with rfl | hx
    · rw [hn] at h
      have h3 := (eqm.rfl (p := p) (a := r)).mul h1
      rw [Int.mul_zero] at h3
      have h4 := h.sub h3
      rwa [Int.add_sub_cancel, Int.sub_zero] at h4
    · exact h2 x hx
/-- Numbers with as many different roots as numbers are all nothing. -/
theorem roots_all {p : Int} (h : kn p = true) : ∀ (rs l : List Int), l.length ≤ rs.length → rs.Pairwise (fun a b => ¬ eqm p a b) → (∀ r ∈ rs, eqm p (hn r l) 0) → ∀ x ∈ l, eqm p x 0
  | [], l, hl, _, _ => by
    obtain rfl : l = [] := List.length_eq_zero_iff.1 (by simpa using hl)
    simp
  | r :: rs, l, hl, hp, hr => by
    have h0 := hr r (by simp)
    refine dv_zero l h0 (roots_all h rs (dv r l) (by rw [dv_len]; simp at hl; omega) (List.pairwise_cons.1 hp).2 fun s hs => ?_)
    have h1 := (hr s (by simp [hs])).sub h0
    rw [Int.sub_zero, dv_is] at h1
    rcases eqm_mul_zero h h1 with h2 | h2
    · exact absurd (eqm_zero_sub h2).symm ((List.pairwise_cons.1 hp).1 s hs)
    · exact h2

/-! Which seeds are roots, each different one once. -/
/-- Was the seed at place k there before, by p? -/
def met (p : Int) (ss : List Int) (k : Nat) : Bool := (List.range k).any fun j => red p (ss.getD j 0) == red p (ss.getD k 0)
/-- The different roots among the first k seeds. -/
def rl (p : Int) (xs ss : List Int) : Nat → List Int
  | 0 => []
  | k + 1 => if (ev p xs (ss.getD k 0) == 0 && !met p ss k) = true then rl p xs ss k ++ [red p (ss.getD k 0)] else rl p xs ss k
/-- How many. -/
def rts (p : Int) (xs ss : List Int) (k : Nat) : Nat := (rl p xs ss k).length
theorem rts_zero (p : Int) (xs ss : List Int) : rts p xs ss 0 = 0 := rfl
theorem rts_succ (p : Int) (xs ss : List Int) (k : Nat) : rts p xs ss (k + 1) = rts p xs ss k + if (ev p xs (ss.getD k 0) == 0 && !met p ss k) = true then 1 else 0 := by
  unfold rts; rw [rl]; split <;> simp
theorem rts_le (p : Int) (xs ss : List Int) : ∀ k, rts p xs ss k ≤ k
  | 0 => Nat.le_refl _
  | k + 1 => by rw [rts_succ]; have := rts_le p xs ss k; split <;> omega
theorem rl_mem {p : Int} {xs ss : List Int} : ∀ (k : Nat) (x : Int), x ∈ rl p xs ss k → (∃ j, j < k ∧ x = red p (ss.getD j 0)) ∧ ev p xs x = 0 ∨ kn p = false
  | 0, x, hx => by simp [rl] at hx
  | k + 1, x, hx => by
    cases h : kn p
    · exact .inr rfl
    left
    rw [rl] at hx
    split at hx
    · rename_i hc
      rcases List.mem_append.1 hx with hx | hx
      · rcases rl_mem k x hx with ⟨⟨j, hj, e⟩, h0⟩ | h'
        · exact ⟨⟨j, by omega, e⟩, h0⟩
        · rw [h] at h'; cases h'
      · obtain rfl : x = red p (ss.getD k 0) := by simpa using hx
        refine ⟨⟨k, by omega, rfl⟩, ?_⟩
        rw [ev_red h]
        simp only [Bool.and_eq_true, beq_iff_eq] at hc
        exact hc.1
    · rcases rl_mem k x hx with ⟨⟨j, hj, e⟩, h0⟩ | h'
      · exact ⟨⟨j, by omega, e⟩, h0⟩
      · rw [h] at h'; cases h'
theorem rl_apart {p : Int} (h : kn p = true) {xs ss : List Int} : ∀ k, (rl p xs ss k).Pairwise (fun a b => ¬ eqm p a b)
  | 0 => List.Pairwise.nil
  | k + 1 => by
    rw [rl]
    split
    · rename_i hc
      refine List.pairwise_append.2 ⟨rl_apart h k, List.pairwise_singleton _ _, fun x hx y hy e => ?_⟩
      obtain rfl : y = red p (ss.getD k 0) := by simpa using hy
      rcases rl_mem k x hx with ⟨⟨j, hj, rfl⟩, _⟩ | h'
      · have e2 : red p (ss.getD j 0) = red p (ss.getD k 0) := by have := red_of_eqm e; rwa [red_red, red_red] at this
        simp only [Bool.and_eq_true, Bool.not_eq_true', met, List.any_eq_false, List.mem_range, beq_iff_eq] at hc
        exact hc.2 j hj e2
      · rw [h] at h'; cases h'
    · exact rl_apart h k
/-- Fewer roots than numbers, unless these are nothing. -/
theorem rts_lt {p : Int} (h : kn p = true) {xs ss : List Int} {k j : Nat} (hj : j < xs.length) (hne : red p (xs.getD j 0) ≠ 0) : rts p xs ss k < xs.length := by
  rcases Nat.lt_or_ge (rts p xs ss k) xs.length with h1 | h1
  · exact h1
  · exfalso
    have := roots_all h (rl p xs ss k) xs h1 (rl_apart h k) (fun r hr => by
      rcases rl_mem k r hr with ⟨_, h0⟩ | h'
      · exact eqm_zero h h0
      · rw [h] at h'; cases h') xs[j] (List.getElem_mem hj)
    refine hne (zero_eqm h ?_)
    simpa [hj] using this
theorem rts_mono {p : Int} (h : kn p = true) {xs ss : List Int} : ∀ k, rts p xs ss k ≤ rts p [] ss k
  | 0 => Nat.le_refl _
  | k + 1 => by
    rw [rts_succ, rts_succ, ev_nil h]
    have := rts_mono h (xs := xs) (ss := ss) k
    cases met p ss k
    · simp only [Bool.not_false, Bool.and_true]
      split <;> simp <;> omega
    · simpa using this
theorem ev_noughts {p : Int} (h : kn p = true) {xs : List Int} (hz : ∀ j, j < xs.length → red p (xs.getD j 0) = 0) (r : Int) : ev p xs r = 0 := by
  unfold ev
  rw [hn_sum]
  refine zero_eqm h ((sum_mod (g := fun _ => 0) fun j hj => ?_).trans (eqm.of (sum_zero _)))
  have := (eqm_zero h (hz j hj)).mul (eqm.rfl (p := p) (a := r ^ j))
  rwa [Int.zero_mul] at this
theorem rts_noughts {p : Int} (h : kn p = true) {xs ss : List Int} (hz : ∀ j, j < xs.length → red p (xs.getD j 0) = 0) : ∀ k, rts p xs ss k = rts p [] ss k
  | 0 => rfl
  | k + 1 => by rw [rts_succ, rts_succ, ev_nil h, ev_noughts h hz, rts_noughts h hz k]

end Go.Proofs.Ytancfpekiecoiaa.Fp
