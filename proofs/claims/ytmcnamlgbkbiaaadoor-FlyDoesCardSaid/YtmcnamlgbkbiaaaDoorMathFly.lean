/-
  Plain mathematics of layer 15: two to five words, transformed: there and back, sums, words turned around by a place, points, weights. No program is named here.
-/
import Derived.Test.YtmcnamlgbkbiaaaDoorMathDft
namespace Go.Proofs.YtmcnamlgbkbiaaaDoor.Fly

/-- What is wrong with a radix by a prime. -/
def ptE (p r : Int) : Int := if Fp.kn p = true then (if 2 ≤ r ∧ r ≤ 5 then (if r.toNat ∣ p.toNat - 1 then 0 else 5) else 4) else 2
/-- A radix that has a root. -/
structure Rdx (p : Int) (n : Nat) : Prop where
  kn : Fp.kn p = true
  lo : 2 ≤ n
  hi : n ≤ 5
  dvd : n ∣ p.toNat - 1
theorem ptE_zero {p : Int} {n : Nat} (h : ptE p n = 0) : Rdx p n := by
  unfold ptE at h
  split at h
  · split at h
    · split at h
      · rename_i a b c
        exact ⟨a, by omega, by omega, by simpa using c⟩
      · omega
    · omega
  · omega
theorem Rdx.zero {p : Int} {n : Nat} (h : Rdx p n) : ptE p n = 0 := by
  have := h.lo
  have := h.hi
  unfold ptE
  rw [if_pos h.kn, if_pos (by omega), if_pos (by simpa using h.dvd)]

/-- The root of a radix, or what undoes it. -/
def root (p : Int) (inv : Bool) (n : Nat) : Int := if inv then Fp.inv p (Fp.rt p n) else Fp.rt p n
/-- The power i of that root. -/
def pt (p : Int) (inv : Bool) (n i : Nat) : Int := Fp.pw p (root p inv n) i
/-- Word u of what Do tells. -/
def doN (p : Int) (inv : Bool) (n : Nat) (x : Nat → Int) (u : Nat) : Int := Fp.fw (root p inv n) false n x u % p
/-- What Weigh tells. -/
def wgN (p : Int) (inv : Bool) (n : Nat) (x w : Nat → Int) : Int := Fp.sum (fun u => doN p inv n x u * w u) n % p

section
variable {p : Int} {n : Nat} {inv : Bool} {x y w : Nat → Int}

theorem root_bd (p : Int) (inv : Bool) (n : Nat) : 0 ≤ root p inv n ∧ root p inv n < 18446744069414584321 ∧ (Fp.kn p = true → root p inv n < p) := by
  unfold root
  split
  · exact Fp.inv_bd _ _
  · exact Fp.rt_bd _ _
theorem pt_bd (p : Int) (inv : Bool) (n i : Nat) : 0 ≤ pt p inv n i ∧ pt p inv n i < 18446744069414584321 ∧ (Fp.kn p = true → pt p inv n i < p) := Fp.pw_bd _ _ _
theorem doN_bd (h : Fp.kn p = true) (u : Nat) : 0 ≤ doN p inv n x u ∧ doN p inv n x u < p := ⟨Fp.md_lo _ (Fp.kn_pos h), Fp.md_hi _ (Fp.kn_pos h)⟩
theorem wgN_bd (h : Fp.kn p = true) : 0 ≤ wgN p inv n x w ∧ wgN p inv n x w < p := ⟨Fp.md_lo _ (Fp.kn_pos h), Fp.md_hi _ (Fp.kn_pos h)⟩
theorem same_of {a b : Int} (h : Fp.eqm p a b) (ha : 0 ≤ a ∧ a < p) (hb : 0 ≤ b ∧ b < p) : a = b := by
  unfold Fp.eqm at h
  rwa [Int.emod_eq_of_lt ha.1 ha.2, Int.emod_eq_of_lt hb.1 hb.2] at h

theorem Rdx.turns (h : Rdx p n) (inv : Bool) : Fp.Turns p (root p inv n) (root p (!inv) n) n := by
  have hl := h.lo
  have ht := Fp.rt_turns h.kn h.dvd (by omega)
  cases inv
  · exact ht
  · exact ht.flip
theorem pt_eqm (h : Fp.kn p = true) (i : Nat) : Fp.eqm p (pt p inv n i) (root p inv n ^ i) := by
  unfold pt
  rw [Fp.pw_kn _ _ h]
  exact Fp.eqm_md p _
theorem ex_false (j k : Nat) : Fp.ex false j k = j * k := by simp [Fp.ex]
theorem od_false (n : Nat) : Fp.od false n = n := by simp [Fp.od]
theorem bw_is (v : Int) (y : Nat → Int) (j : Nat) : Fp.bw v false n y j = Fp.fw v false n y j := by
  unfold Fp.bw Fp.fw
  exact Fp.sum_congr fun k _ => by rw [ex_false, ex_false, Nat.mul_comm]

/-- A point far off is the one whose place is the rest. -/
theorem Rdx.around (h : Rdx p n) (inv : Bool) (i : Nat) : pt p inv n (i % n) = pt p inv n i := by
  have hl := h.lo
  obtain ⟨a, _, b⟩ := pt_bd p inv n (i % n)
  obtain ⟨c, _, d⟩ := pt_bd p inv n i
  refine same_of ?_ ⟨a, b h.kn⟩ ⟨c, d h.kn⟩
  refine (pt_eqm h.kn _).trans (Fp.eqm.trans ?_ (pt_eqm h.kn _).symm)
  have e : root p inv n ^ i = root p inv n ^ (i % n) * root p inv n ^ (n * (i / n)) := by rw [← Int.pow_add, Nat.mod_add_div]
  rw [e]
  have := (Fp.eqm.rfl (p := p) (a := root p inv n ^ (i % n))).mul (((h.turns inv).pw _).2 (Nat.dvd_mul_right n (i / n)))
  rw [Int.mul_one] at this
  exact this.symm
/-- One word more to a sum. -/
theorem more (h : Fp.kn p = true) (f : Nat → Int) (k : Nat) {b : Int} (hb : Fp.eqm p b (f k)) : Fp.add p (Fp.sum f k % p) b = Fp.sum f (k + 1) % p := by
  rw [Fp.add_kn h]
  exact ((Fp.eqm_md p _).add hb : Fp.eqm p (Fp.sum f k % p + b) (Fp.sum f k + f k))
/-- .. of a word times a point. -/
theorem Rdx.step (h : Rdx p n) (u t : Nat) {a : Int} (ha : a = x t) : Fp.eqm p (Fp.mul p a (pt p inv n (t * u % n))) (x t * root p inv n ^ Fp.ex false t u) := by
  rw [Fp.mul_kn _ _ h.kn, h.around, ex_false, ha]
  exact (Fp.eqm_md p _).trans (Fp.eqm.rfl.mul (pt_eqm h.kn _))

theorem doN_congr {u : Nat} (h : ∀ j, j < n → x j = y j) : doN p inv n x u = doN p inv n y u := by
  unfold doN Fp.fw
  rw [Fp.sum_congr fun j hj => by rw [h j hj]]
theorem doN_mod {u : Nat} (h : ∀ j, j < n → Fp.eqm p (x j) (y j)) : doN p inv n x u = doN p inv n y u := Fp.fw_mod h u
theorem doN_eqm (u : Nat) : Fp.eqm p (doN p inv n x u) (Fp.fw (root p inv n) false n x u) := Fp.eqm_md p _

/-- The first m words of the sum for word k. -/
def acc (p : Int) (inv : Bool) (n : Nat) (x : Nat → Int) (k m : Nat) : Int := Fp.sum (fun j => x j * root p inv n ^ Fp.ex false j k) m % p
theorem acc_zero (k : Nat) : acc p inv n x k 0 = 0 := by simp [acc, Fp.sum]
theorem acc_all (k : Nat) : acc p inv n x k n = doN p inv n x k := rfl
theorem acc_bd (h : Fp.kn p = true) (k m : Nat) : 0 ≤ acc p inv n x k m ∧ acc p inv n x k m < p := ⟨Fp.md_lo _ (Fp.kn_pos h), Fp.md_hi _ (Fp.kn_pos h)⟩
theorem Rdx.acc_more (h : Rdx p n) (k m : Nat) : Fp.add p (acc p inv n x k m) (Fp.mul p (x m) (pt p inv n (m * k % n))) = acc p inv n x k (m + 1) := more h.kn _ m (h.step k m rfl)

/-- The first m words of what Weigh adds. -/
def wacc (p : Int) (inv : Bool) (n : Nat) (x w : Nat → Int) (m : Nat) : Int := Fp.sum (fun u => doN p inv n x u * w u) m % p
theorem wacc_zero : wacc p inv n x w 0 = 0 := by simp [wacc, Fp.sum]
theorem wacc_all : wacc p inv n x w n = wgN p inv n x w := rfl
theorem wacc_bd (h : Fp.kn p = true) (m : Nat) : 0 ≤ wacc p inv n x w m ∧ wacc p inv n x w m < p := ⟨Fp.md_lo _ (Fp.kn_pos h), Fp.md_hi _ (Fp.kn_pos h)⟩
theorem wacc_more (h : Fp.kn p = true) (m : Nat) : Fp.add p (wacc p inv n x w m) (Fp.mul p (doN p inv n x m) (w m)) = wacc p inv n x w (m + 1) := more h _ m (by rw [Fp.mul_kn _ _ h]; exact Fp.eqm_md p _)

/-- There and back. -/
theorem Rdx.back (h : Rdx p n) {i : Nat} (hi : i < n) : doN p (!inv) n (doN p inv n x) i = Fp.mul p (x i) n := by
  obtain ⟨a, _, b⟩ := Fp.mul_bd p (x i) n
  refine same_of ?_ (doN_bd h.kn i) ⟨a, b h.kn⟩
  refine (doN_eqm i).trans ((Fp.fw_mod (y := Fp.fw (root p inv n) false n x) (fun j _ => doN_eqm j) i).trans ?_)
  rw [← bw_is]
  refine (Fp.bw_fw (w := root p inv n) (neg := false) (by rw [od_false]; exact h.turns inv) hi).trans ?_
  rw [Fp.mul_kn _ _ h.kn, Int.mul_comm]
  exact (Fp.eqm_md p _).symm
/-- Sums, and words times a number. -/
theorem doN_lin (h : Fp.kn p = true) (c : Int) (u : Nat) : doN p inv n (fun j => Fp.add p (Fp.mul p c (x j)) (y j)) u = Fp.add p (Fp.mul p c (doN p inv n x u)) (doN p inv n y u) := by
  have hm : ∀ a b, Fp.eqm p (Fp.add p (Fp.mul p c a) b) (c * a + b) := fun a b => by
    rw [Fp.add_kn h, Fp.mul_kn _ _ h]
    exact (Fp.eqm_md p _).trans ((Fp.eqm_md p _).add Fp.eqm.rfl)
  obtain ⟨a, _, b⟩ := Fp.add_bd p (Fp.mul p c (doN p inv n x u)) (doN p inv n y u)
  refine same_of ?_ (doN_bd h u) ⟨a, b h⟩
  refine Fp.eqm.trans ?_ (hm _ _).symm
  refine (doN_eqm u).trans ((Fp.fw_mod (y := fun j => c * x j + y j) (fun j _ => hm _ _) u).trans ?_)
  rw [Fp.fw_add (fun j => c * x j), Fp.fw_mul]
  exact (Fp.eqm.rfl.mul (doN_eqm u).symm).add (doN_eqm u).symm
theorem sum_head (f : Nat → Int) (n : Nat) : Fp.sum f (n + 1) = f 0 + Fp.sum (fun j => f (j + 1)) n := by
  induction n with
  | zero => simp [Fp.sum]
  | succ n ih => rw [Fp.sum, ih, Fp.sum]; omega
/-- Words turned around by one place. -/
theorem Rdx.round (h : Rdx p n) (hx : y 0 = x (n - 1)) (hy : ∀ t, t + 1 < n → y (t + 1) = x t) (u : Nat) : doN p inv n y u = Fp.mul p (doN p inv n x u) (pt p inv n u) := by
  have hl := h.lo
  obtain ⟨m, rfl⟩ : ∃ m, n = m + 1 := ⟨n - 1, by omega⟩
  rw [Nat.add_sub_cancel] at hx
  obtain ⟨a, _, b⟩ := Fp.mul_bd p (doN p inv (m + 1) x u) (pt p inv (m + 1) u)
  refine same_of ?_ (doN_bd h.kn u) ⟨a, b h.kn⟩
  rw [Fp.mul_kn _ _ h.kn]
  refine (doN_eqm u).trans (Fp.eqm.trans ?_ ((Fp.eqm_md p _).trans ((doN_eqm u).mul (pt_eqm h.kn u))).symm)
  obtain ⟨r, hr⟩ : ∃ r, r = root p inv (m + 1) := ⟨_, rfl⟩
  have h1 : Fp.eqm p (r ^ ((m + 1) * u)) 1 := by rw [hr]; exact ((h.turns inv).pw _).2 (Nat.dvd_mul_right _ _)
  rw [← hr]
  unfold Fp.fw
  rw [sum_head, Fp.sum, Int.add_mul, ← Fp.sum_mulr, hx]
  rw [Int.add_comm (Fp.sum _ _)]
  refine Fp.eqm.add ?_ (Fp.eqm.of (Fp.sum_congr fun t ht => ?_))
  · rw [ex_false, ex_false, Nat.zero_mul, Int.pow_zero, Int.mul_one, Int.mul_assoc, ← Int.pow_add]
    have := (Fp.eqm.rfl (p := p) (a := x m)).mul h1
    rw [Int.mul_one, Nat.add_mul, Nat.one_mul] at this
    exact this.symm
  · rw [hy t (by omega), ex_false, ex_false, Int.mul_assoc, ← Int.pow_add, Nat.add_mul, Nat.one_mul]
/-- Points are the powers of the second one. -/
theorem pt_pow (inv : Bool) (i : Nat) : Fp.pw p (pt p inv n 1) i = pt p inv n i := by
  unfold pt
  rw [← Fp.pw_mul, Nat.one_mul]
theorem Rdx.not_one (h : Rdx p n) (inv : Bool) {i : Nat} (h0 : 0 < i) (hi : i < n) : pt p inv n i ≠ 1 := fun e => by
  have h1 : Fp.eqm p (root p inv n ^ i) 1 := (pt_eqm h.kn i).symm.trans (Fp.eqm.of e)
  have := Nat.le_of_dvd h0 (((h.turns inv).pw _).1 h1)
  omega
theorem Rdx.first (h : Rdx p n) (inv : Bool) : pt p inv n 0 = 1 := by
  unfold pt
  rw [Fp.pw_zero, Fp.red_one h.kn]
theorem Rdx.full (h : Rdx p n) (inv : Bool) : pt p inv n n = 1 := by
  rw [← h.around, Nat.mod_self]
  exact h.first inv
/-- All points together. -/
theorem Rdx.all (h : Rdx p n) (inv : Bool) : Fp.sum (pt p inv n) n % p = 0 := by
  have hl := h.lo
  have := Fp.geo_zero h.kn (a := root p inv n) (n := n) (((h.turns inv).pw _).2 (Nat.dvd_refl n)) (fun e => by
    have h2 := Nat.le_of_dvd (by omega) (((h.turns inv).pw 1).1 (by rw [Int.pow_succ, Int.pow_zero, Int.one_mul]; exact e))
    omega)
  have h3 := (Fp.sum_mod (p := p) (f := pt p inv n) (g := fun k => root p inv n ^ k) (n := n) (fun j _ => pt_eqm h.kn j)).trans this
  unfold Fp.eqm at h3
  rw [h3]
  rfl
/-- The first word is the sum of all. -/
theorem doN_first (x : Nat → Int) : doN p inv n x 0 = Fp.sum x n % p := by
  unfold doN Fp.fw
  rw [Fp.sum_congr (g := x) fun j _ => by rw [ex_false, Nat.mul_zero, Int.pow_zero, Int.mul_one]]
/-- The sum of all is the radix times the first one. -/
theorem Rdx.sum (h : Rdx p n) (x : Nat → Int) : Fp.sum (doN p inv n x) n % p = Fp.mul p n (x 0) := by
  have hl := h.lo
  have e := h.back (inv := inv) (x := x) (i := 0) (by omega)
  rw [doN_first, Fp.mul_comm] at e
  exact e
/-- Which of both is transformed makes no difference. -/
theorem wgN_comm (x w : Nat → Int) : wgN p inv n x w = wgN p inv n w x := by
  unfold wgN
  have e : ∀ a b : Nat → Int, Fp.eqm p (Fp.sum (fun u => doN p inv n a u * b u) n) (Fp.sum (fun u => Fp.sum (fun t => a t * b u * root p inv n ^ (t * u)) n) n) := fun a b => by
    refine (Fp.sum_mod fun u _ => (doN_eqm u).mul Fp.eqm.rfl).trans (Fp.eqm.of (Fp.sum_congr fun u _ => ?_))
    unfold Fp.fw
    rw [← Fp.sum_mulr]
    exact Fp.sum_congr fun t _ => by rw [ex_false, Int.mul_assoc, Int.mul_assoc, Int.mul_comm (b u)]
  refine (e x w).trans (Fp.eqm.trans (Fp.eqm.of ?_) (e w x).symm)
  rw [Fp.sum_swap]
  exact Fp.sum_congr fun t _ => Fp.sum_congr fun u _ => by rw [Int.mul_comm (x t), Nat.mul_comm]
end

end Go.Proofs.YtmcnamlgbkbiaaaDoor.Fly
