/-
  Several texts in one: MathStep, MathStepTwo, MathStepLin, MathStepGrp, MathStepTab, MathStepCnt, MathStepDo, MathPlan.
-/
import Derived.Test.YtlbfllaaabginaaDoorGrids
import Derived.Test.YtlbfllaaabginaaDoorFlys

/-!   Mathematics of layer 16: one step of an axis, on a line: a twist, or a stage; that all stages in order are the transform of a line, a twist ahead or behind. No function of the program is named here.
-/

namespace Go.Proofs.YtlbfllaaabginaaDoor

namespace Fp
/-- The power m of the root of n times m is the root of n. -/
theorem rt_part {p : Int} {n m : Nat} (hm : 0 < m) (hd : n * m ∣ p.toNat - 1) : pw p (rt p (n * m)) m = rt p n := by
  unfold rt
  rw [← pw_mul]
  congr 1
  obtain ⟨c, hc⟩ := hd
  rcases Nat.eq_zero_or_pos n with e | hn
  · subst e; simp
  · rw [hc, Nat.mul_div_cancel_left _ (Nat.mul_pos hn hm), Nat.mul_assoc, Nat.mul_div_cancel_left _ hn, Nat.mul_comm]
theorem rt_part_eqm {p : Int} (h : kn p = true) {n m : Nat} (hm : 0 < m) (hd : n * m ∣ p.toNat - 1) : eqm p (rt p (n * m) ^ m) (rt p n) := by
  rw [← rt_part hm hd, pw_kn _ _ h]
  exact (eqm_md p _).symm
theorem inv_eqm {p : Int} (h : kn p = true) (a : Int) : eqm p (inv p a) (a ^ (p.toNat - 2)) := by
  unfold inv
  rw [pw_kn _ _ h]
  exact eqm_md p _
theorem inv_congr {p : Int} (h : kn p = true) {a b : Int} (e : eqm p a b) : eqm p (inv p a) (inv p b) := (inv_eqm h a).trans ((e.pow _).trans (inv_eqm h b).symm)
theorem inv_pow {p : Int} (h : kn p = true) (a : Int) (k : Nat) : eqm p (inv p (a ^ k)) (inv p a ^ k) := by
  refine (inv_eqm h _).trans (eqm.trans (eqm.of ?_) ((inv_eqm h a).pow k).symm)
  rw [← Int.pow_mul, ← Int.pow_mul, Nat.mul_comm]
theorem inv_times {p : Int} (h : kn p = true) (a b : Int) : eqm p (inv p (a * b)) (inv p a * inv p b) := by
  refine (inv_eqm h _).trans (eqm.trans (eqm.of ?_) ((inv_eqm h a).mul (inv_eqm h b)).symm)
  rw [Int.mul_pow]
theorem inv_one {p : Int} (h : kn p = true) : eqm p (inv p 1) 1 := (inv_eqm h 1).trans (eqm.of (Int.one_pow))
theorem sum_snoc (f : Nat → Int) (m : Nat) : ∀ r, sum f (m + r) = sum f m + sum (fun t => f (m + t)) r
  | 0 => by rw [Nat.add_zero, sum]; omega
  | r + 1 => by rw [← Nat.add_assoc, sum, sum, sum_snoc f m r, Int.add_assoc]
/-- A sum, cut by what is left over. -/
theorem sum_cut (f : Nat → Int) (r : Nat) : ∀ L, sum (fun j => sum (fun t => f (t + r * j)) r) L = sum f (L * r)
  | 0 => by rw [Nat.zero_mul]; rfl
  | L + 1 => by
    rw [sum, sum_cut f r L, Nat.succ_mul, sum_snoc]
    congr 1
    exact sum_congr fun t _ => by rw [Nat.mul_comm r L, Nat.add_comm]
end Fp

namespace Stp
open Fly

/-- The root of order n, or what undoes it. -/
def rte (p : Int) (inv : Bool) (n : Nat) : Int := if inv then Fp.inv p (Fp.rt p n) else Fp.rt p n
theorem rte_root (p : Int) (inv : Bool) (n : Nat) : rte p inv n = root p inv n := rfl
/-- A factor of a stage, by its place in the table. -/
def stT (p : Int) (inv : Bool) (R M k : Nat) : Int := if inv then Fp.inv p (Fp.pw p (Fp.rt p (R * M)) (k / R * (k % R))) else Fp.pw p (Fp.rt p (R * M)) (k / R * (k % R))
/-- What a word is twisted by, there; and by the way. -/
def tw0 (p : Int) (neg : Bool) (n j : Nat) : Int := if neg then Fp.pw p (Fp.rt p (2 * n)) j else 1
def twT (p : Int) (neg inv : Bool) (n j : Nat) : Int := if inv then Fp.inv p (Fp.mul p (tw0 p neg n j) n) else tw0 p neg n j
/-- A line twisted; a stage of a line. -/
def twL (p : Int) (neg inv : Bool) (n : Nat) (x : Nat → Int) (j : Nat) : Int := Fp.mul p (x j) (twT p neg inv n j)
def stL (p : Int) (inv : Bool) (R L M : Nat) (x : Nat → Int) (o : Nat) : Int :=
  Fp.mul p (doN p inv R (fun t => x (o % L + L * (o / L / R + M * t))) (o / L % R)) (stT p inv R M (o / L))

section
variable {p : Int} {n : Nat}
theorem stT_bd (h : Fp.kn p = true) (inv : Bool) (R M k : Nat) : 0 ≤ stT p inv R M k ∧ stT p inv R M k < p := by
  unfold stT
  split
  · exact ⟨(Fp.inv_bd _ _).1, (Fp.inv_bd _ _).2.2 h⟩
  · exact ⟨(Fp.pw_bd _ _ _).1, (Fp.pw_bd _ _ _).2.2 h⟩
theorem twT_bd (h : Fp.kn p = true) (neg inv : Bool) (n j : Nat) : 0 ≤ twT p neg inv n j ∧ twT p neg inv n j < p := by
  have := Fp.kn_bd h
  unfold twT tw0
  split
  · exact ⟨(Fp.inv_bd _ _).1, (Fp.inv_bd _ _).2.2 h⟩
  · split
    · exact ⟨(Fp.pw_bd _ _ _).1, (Fp.pw_bd _ _ _).2.2 h⟩
    · omega
theorem stL_bd (h : Fp.kn p = true) (inv : Bool) (R L M : Nat) (x : Nat → Int) (o : Nat) : 0 ≤ stL p inv R L M x o ∧ stL p inv R L M x o < p := ⟨(Fp.mul_bd _ _ _).1, (Fp.mul_bd _ _ _).2.2 h⟩
theorem twL_bd (h : Fp.kn p = true) (neg inv : Bool) (n : Nat) (x : Nat → Int) (o : Nat) : 0 ≤ twL p neg inv n x o ∧ twL p neg inv n x o < p := ⟨(Fp.mul_bd _ _ _).1, (Fp.mul_bd _ _ _).2.2 h⟩

theorem rte_part (h : Fp.kn p = true) (inv : Bool) {m : Nat} (hm : 0 < m) (hd : n * m ∣ p.toNat - 1) : Fp.eqm p (rte p inv (n * m) ^ m) (rte p inv n) := by
  unfold rte
  cases inv
  · exact Fp.rt_part_eqm h hm hd
  · exact (Fp.inv_pow h _ m).symm.trans (Fp.inv_congr h (Fp.rt_part_eqm h hm hd))
theorem rte_one (h : Fp.kn p = true) (inv : Bool) (hn : 0 < n) (hd : n ∣ p.toNat - 1) : Fp.eqm p (rte p inv n ^ n) 1 := by
  have ht := Fp.rt_turns h hd hn
  unfold rte
  cases inv
  · exact (ht.pw n).2 (Nat.dvd_refl n)
  · exact (ht.flip.pw n).2 (Nat.dvd_refl n)
theorem stT_eqm (h : Fp.kn p = true) (inv : Bool) (R M k : Nat) : Fp.eqm p (stT p inv R M k) (rte p inv (R * M) ^ (k / R * (k % R))) := by
  unfold stT rte
  have e : Fp.eqm p (Fp.pw p (Fp.rt p (R * M)) (k / R * (k % R))) (Fp.rt p (R * M) ^ (k / R * (k % R))) := by rw [Fp.pw_kn _ _ h]; exact Fp.eqm_md p _
  cases inv
  · exact e
  · exact (Fp.inv_congr h e).trans (Fp.inv_pow h _ _)

/-- What the words are behind the radices whose product is a. -/
def part (w : Int) (n a : Nat) (x : Nat → Int) (b c : Nat) : Int := Fp.sum (fun j => x (c + n / a * j) * w ^ (b * (c + n / a * j))) a
def At (p w : Int) (n a : Nat) (x z : Nat → Int) : Prop := ∀ b c, b < a → c < n / a → Fp.eqm p (z (b + a * c)) (part w n a x b c)
theorem At.start (p w : Int) (n : Nat) (x : Nat → Int) : At p w n 1 x x := fun b c hb hc => by
  obtain rfl : b = 0 := by omega
  unfold part
  simp [Fp.sum]
  exact Fp.eqm.rfl

/-- One stage more. -/
theorem At.next (hk : Fp.kn p = true) (inv : Bool) {R L M : Nat} (hR : 1 ≤ R) (hL : 1 ≤ L) (hM : 1 ≤ M) (hn : n = L * (R * M)) (hd : n ∣ p.toNat - 1) {x z : Nat → Int} (h : At p (rte p inv n) n L x z) : At p (rte p inv n) n (L * R) x (stL p inv R L M z) := by
  intro b' c' hb hc
  have e0 : n / L = R * M := by rw [hn, Nat.mul_div_cancel_left _ hL]
  have e1 : n / (L * R) = M := by rw [hn, ← Nat.mul_assoc, Nat.mul_div_cancel_left _ (Nat.mul_pos hL hR)]
  rw [e1] at hc
  obtain ⟨b, hbd⟩ : ∃ b, b = b' % L := ⟨_, rfl⟩
  obtain ⟨u, hud⟩ : ∃ u, u = b' / L := ⟨_, rfl⟩
  have hbL : b < L := by rw [hbd]; exact Nat.mod_lt _ hL
  have huR : u < R := by rw [hud]; exact Nat.div_lt_of_lt_mul hb
  have hb' : b' = b + L * u := by rw [hbd, hud]; exact (Nat.mod_add_div b' L).symm
  have o1 : (b' + L * R * c') % L = b := by rw [Nat.mul_assoc, Nat.add_mul_mod_self_left, hbd]
  have o2 : (b' + L * R * c') / L = u + R * c' := by rw [Nat.mul_assoc, Nat.add_mul_div_left _ _ hL, hud]
  have o3 : (u + R * c') / R = c' := by rw [Nat.add_mul_div_left _ _ hR, Nat.div_eq_of_lt huR, Nat.zero_add]
  have o4 : (u + R * c') % R = u := by rw [Nat.add_mul_mod_self_left, Nat.mod_eq_of_lt huR]
  unfold stL
  rw [o1, o2, o3, o4]
  obtain ⟨w, hw⟩ : ∃ w, w = rte p inv n := ⟨_, rfl⟩
  rw [← hw] at h ⊢
  -- the roots
  have hdR : R * (L * M) ∣ p.toNat - 1 := by rw [show R * (L * M) = n by rw [hn]; exact Nat.mul_left_comm R L M]; exact hd
  have hr1 : Fp.eqm p (rte p inv R) (w ^ (L * M)) := by
    have := rte_part hk inv (n := R) (Nat.mul_pos hL hM) hdR
    rw [show R * (L * M) = n by rw [hn]; exact Nat.mul_left_comm R L M, ← hw] at this
    exact this.symm
  have hr2 : Fp.eqm p (rte p inv (R * M)) (w ^ L) := by
    have := rte_part hk inv (n := R * M) hL (by rw [Nat.mul_comm, ← hn]; exact hd)
    rw [show R * M * L = n by rw [hn, Nat.mul_comm], ← hw] at this
    exact this.symm
  have hr3 : Fp.eqm p (w ^ n) 1 := by rw [hw]; exact rte_one hk inv (by rw [hn]; exact Nat.mul_pos hL (Nat.mul_pos hR hM)) hd
  have hT : Fp.eqm p (stT p inv R M (u + R * c')) (w ^ (L * (c' * u))) := by
    have := stT_eqm hk inv R M (u + R * c')
    rw [o3, o4] at this
    exact this.trans ((hr2.pow _).trans (Fp.eqm.of Int.pow_mul.symm))
  -- the words
  have hz : ∀ t, t < R → Fp.eqm p (z (b + L * (c' + M * t))) (part w n L x b (c' + M * t)) := fun t ht => by
    refine h b (c' + M * t) hbL ?_
    rw [e0]
    have : M * (t + 1) ≤ M * R := Nat.mul_le_mul_left M ht
    rw [Nat.mul_succ] at this
    rw [Nat.mul_comm R M]
    omega
  rw [Fp.mul_kn _ _ hk]
  refine (Fp.eqm_md p _).trans (((doN_eqm u).mul hT).trans ?_)
  rw [rte_root] at hr1
  unfold Fp.fw part
  rw [e1]
  -- to one sum
  have s1 : Fp.eqm p (Fp.sum (fun t => z (b + L * (c' + M * t)) * root p inv R ^ Fp.ex false t u) R * w ^ (L * (c' * u)))
      (Fp.sum (fun t => Fp.sum (fun j => x (c' + M * (t + R * j)) * w ^ (b' * (c' + M * (t + R * j)))) L) R) := by
    rw [← Fp.sum_mulr]
    refine Fp.sum_mod fun t ht => ?_
    have h1 := (hz t ht).mul ((hr1.pow (Fp.ex false t u)))
    refine ((h1.mul Fp.eqm.rfl).trans ?_)
    unfold part
    rw [Int.mul_assoc, ← Fp.sum_mulr, e0]
    refine Fp.sum_mod fun j _ => ?_
    have q1 : c' + M * t + R * M * j = c' + M * (t + R * j) := by rw [Nat.mul_add, Nat.add_assoc, Nat.mul_comm R M, Nat.mul_assoc]
    rw [q1, Int.mul_assoc]
    refine Fp.eqm.rfl.mul ?_
    rw [ex_false, ← Int.pow_mul, ← Int.pow_add, ← Int.pow_add]
    -- exponents: equal but for a multiple of n
    have q2 : b' * (c' + M * (t + R * j)) = (b * (c' + M * (t + R * j)) + (L * M * (t * u) + L * (c' * u))) + n * (u * j) := by
      rw [hb', hn]
      simp only [Nat.add_mul, Nat.mul_add]
      have a1 : L * u * c' = L * (c' * u) := by rw [Nat.mul_assoc, Nat.mul_comm u c']
      have a2 : L * u * (M * t) = L * M * (t * u) := by
        rw [Nat.mul_assoc, Nat.mul_assoc, Nat.mul_left_comm u M t, Nat.mul_comm u t]
      have a3 : L * u * (M * (R * j)) = L * (R * M) * (u * j) := by
        rw [Nat.mul_assoc, Nat.mul_assoc, Nat.mul_left_comm u M, Nat.mul_left_comm u R, ← Nat.mul_assoc M R, Nat.mul_comm M R, Nat.mul_assoc]
      omega
    rw [q2, Int.pow_add _ _ (n * (u * j)), Int.pow_mul (n := n)]
    have := (Fp.eqm.rfl (p := p) (a := w ^ (b * (c' + M * (t + R * j)) + (L * M * (t * u) + L * (c' * u))))).mul (hr3.pow (u * j))
    rw [Int.one_pow, Int.mul_one] at this
    exact this.symm
  refine s1.trans (Fp.eqm.of ?_)
  rw [Fp.sum_swap, Fp.sum_cut (fun j' => x (c' + M * j') * w ^ (b' * (c' + M * j'))) R L]

/-! Lines as lists. -/
/-- All numbers of p. -/
def Nums (p : Int) (l : List Int) : Prop := ∀ j, 0 ≤ l.getD j 0 ∧ l.getD j 0 < p
theorem Nums.map (h : Fp.kn p = true) {f : Nat → Int} (hf : ∀ j, 0 ≤ f j ∧ f j < p) (n : Nat) : Nums p ((List.range n).map f) := fun j => by
  have := Fp.kn_pos h
  by_cases hj : j < n
  · rw [getD_range f hj]; exact hf j
  · rw [List.getD_eq_getElem?_getD, List.getElem?_eq_none (by simp; omega)]
    exact ⟨Int.le_refl _, this⟩
def stLn (p : Int) (inv : Bool) (n R L M : Nat) (l : List Int) : List Int := (List.range n).map (stL p inv R L M (nth l))
def twLn (p : Int) (neg inv : Bool) (n : Nat) (l : List Int) : List Int := (List.range n).map (twL p neg inv n (nth l))
theorem at_lt {n a b c : Nat} (ha : a ∣ n) (hb : b < a) (hc : c < n / a) : b + a * c < n := by
  obtain ⟨m, rfl⟩ := ha
  rw [Nat.mul_div_cancel_left _ (by omega)] at hc
  have : a * (c + 1) ≤ a * m := Nat.mul_le_mul_left a hc
  rw [Nat.mul_succ] at this
  omega
/-- All stages of n from the product a on. -/
def goL (p : Int) (inv : Bool) (n : Nat) : List Fac.Rad → Nat → List Int → List Int
  | [], _, z => z
  | r :: l, a, z => goL p inv n l (a * r.1) (stLn p inv n r.1 a (n / (a * r.1)) z)
theorem At.all (hk : Fp.kn p = true) (inv : Bool) (hd : n ∣ p.toNat - 1) {x : Nat → Int} : ∀ (l : List Fac.Rad) (a : Nat) (z : List Int), 1 ≤ a → a * Fac.prod l = n → z.length = n → Nums p z → At p (rte p inv n) n a x (nth z) →
    At p (rte p inv n) n n x (nth (goL p inv n l a z)) ∧ (goL p inv n l a z).length = n ∧ Nums p (goL p inv n l a z)
  | [], a, z, _, hn, hl, hz, h => by
    rw [Fac.prod, Nat.mul_one] at hn
    subst hn
    exact ⟨h, hl, hz⟩
  | r :: l, a, z, ha, hn, hl, hz, h => by
    have hr : 1 ≤ r.1 := by have := r.2; omega
    have hp := Fac.prod_pos l
    rw [Fac.prod] at hn
    have hM : n / (a * r.1) = Fac.prod l := by rw [← hn, ← Nat.mul_assoc, Nat.mul_div_cancel_left _ (Nat.mul_pos ha hr)]
    unfold goL
    refine At.all hk inv hd l (a * r.1) _ (Nat.mul_pos ha hr) (by rw [Nat.mul_assoc]; exact hn) (by simp [stLn]) (Nums.map hk (fun j => stL_bd hk _ _ _ _ _ _) n) ?_
    have hnx := h.next hk inv hr ha hp hn.symm hd
    intro b c hb hc
    have hlt : b + a * r.1 * c < n := at_lt ⟨Fac.prod l, by rw [Nat.mul_assoc]; exact hn.symm⟩ hb hc
    have e : nth (stLn p inv n r.1 a (n / (a * r.1)) z) (b + a * r.1 * c) = stL p inv r.1 a (Fac.prod l) (nth z) (b + a * r.1 * c) := by
      unfold stLn
      rw [hM]
      exact getD_range _ hlt
    rw [e]
    exact hnx b c hb hc
theorem At.last (hn : 1 ≤ n) {w : Int} {x z : Nat → Int} (h : At p w n n x z) {b : Nat} (hb : b < n) : Fp.eqm p (z b) (Fp.sum (fun j => x j * w ^ (b * j)) n) := by
  have := h b 0 hb (by rw [Nat.div_self hn]; exact Nat.one_pos)
  rw [Nat.mul_zero, Nat.add_zero] at this
  refine this.trans (Fp.eqm.of ?_)
  unfold part
  rw [Nat.div_self hn]
  exact Fp.sum_congr fun j _ => by rw [Nat.one_mul, Nat.zero_add]

/-- The root of a line that goes around, and of one that changes its sign. -/
theorem rtl_eqm (h : Fp.kn p = true) (neg : Bool) (_hn : 1 ≤ n) (hd : Fp.od neg n ∣ p.toNat - 1) (j k : Nat) : Fp.eqm p (rtl p neg n ^ Fp.ex neg j k) (tw0 p neg n j * Fp.rt p n ^ (k * j)) := by
  unfold rtl Fp.ex tw0
  cases neg
  · simp only [Bool.false_eq_true, if_false]
    rw [show Fp.od false n = n from rfl, Int.one_mul, Nat.mul_comm]
    exact Fp.eqm.rfl
  · simp only [if_true]
    have e : Fp.od true n = n * 2 := by simp [Fp.od, Nat.mul_comm]
    have hs := Fp.rt_part_eqm h (n := n) (m := 2) (by omega) (by rw [← e]; exact hd)
    rw [e]
    have e2 : Fp.rt p (2 * n) = Fp.rt p (n * 2) := by rw [Nat.mul_comm]
    rw [e2, show j * (2 * k + 1) = j + 2 * (k * j) by rw [Nat.mul_add, Nat.mul_one, Nat.add_comm, Nat.mul_left_comm, Nat.mul_comm j k], Int.pow_add, Int.pow_mul (n := 2)]
    refine Fp.eqm.mul ?_ (hs.pow _)
    rw [Fp.pw_kn _ _ h]
    exact (Fp.eqm_md p _).symm
theorem tw0_bd (h : Fp.kn p = true) (neg : Bool) (n j : Nat) : 0 ≤ tw0 p neg n j ∧ tw0 p neg n j < p := twT_bd h neg false n j

theorem line_dvd {l : List Int} {neg : Bool} (h : Line p l neg) : Fp.od neg l.length ∣ p.toNat - 1 ∧ l.length ∣ p.toNat - 1 := by
  obtain ⟨h1, h2⟩ := h.len
  obtain ⟨o1, o2⟩ := Fp.od_bd neg h1 h2
  have hd := rt_dvd h.kn (n := ((Fp.od neg l.length : Nat) : Int)) (by omega) h.dvd
  rw [Int.toNat_natCast] at hd
  refine ⟨hd, Nat.dvd_trans ?_ hd⟩
  unfold Fp.od
  split
  · exact Nat.dvd_mul_left _ _
  · exact Nat.dvd_refl _
theorem nums_line {l : List Int} {neg : Bool} (h : Line p l neg) (hw : Words l) : Nums p l := fun j => by
  refine ⟨(hw j).1, ?_⟩
  by_cases hj : j < l.length
  · exact h.lt j hj
  · rw [List.getD_eq_getElem?_getD, List.getElem?_eq_none (by omega)]
    exact Fp.kn_pos h.kn

/-- There: the twist, if it is Neg, and all stages. -/
theorem whole_there {l : List Int} {neg : Bool} (h : Line p l neg) (hw : Words l) :
    goL p false l.length (Fac.rads l.length) 1 (if neg = true then twLn p neg false l.length l else l) = tr p neg false l := by
  obtain ⟨h1, h2⟩ := h.len
  obtain ⟨hd1, hd2⟩ := line_dvd h
  have hpr : Fac.prod (Fac.rads l.length) = l.length := by
    have := (Fac.sm_of h.sm).2.2
    rwa [Int.toNat_natCast] at this
  obtain ⟨z0, hz0⟩ : ∃ z0, z0 = (if neg = true then twLn p neg false l.length l else l) := ⟨_, rfl⟩
  have hzl : z0.length = l.length := by rw [hz0]; split <;> simp [twLn]
  have hzn : Nums p z0 := by
    rw [hz0]
    split
    · exact Nums.map h.kn (fun j => twL_bd h.kn _ _ _ _ _) _
    · exact nums_line h hw
  have hze : ∀ j, j < l.length → Fp.eqm p (nth z0 j) (nth l j * tw0 p neg l.length j) := fun j hj => by
    rw [hz0]
    cases neg
    · rw [if_neg (by simp)]
      unfold tw0
      rw [if_neg (by simp), Int.mul_one]
      exact Fp.eqm.rfl
    · rw [if_pos rfl]
      have e : nth (twLn p true false l.length l) j = twL p true false l.length (nth l) j := getD_range _ hj
      rw [e]
      unfold twL
      rw [Fp.mul_kn _ _ h.kn]
      exact Fp.eqm_md p _
  rw [← hz0]
  obtain ⟨hA, hL, hN⟩ := At.all h.kn false hd2 (x := nth z0) (Fac.rads l.length) 1 z0 (Nat.le_refl 1) (by rw [Nat.one_mul]; exact hpr) hzl hzn (At.start _ _ _ _)
  have e : tr p neg false l = (List.range l.length).map (trN p neg false l) := h.tr false
  rw [e]
  symm
  refine list_eq_range hL fun k hkl => ?_
  refine eq_of_eqm ?_ (trN_bd h.kn false k) (hN k)
  have e2 : trN p neg false l k = fwdN p l neg k := by simp [trN]
  rw [e2]
  refine Fp.eqm.trans ?_ (hA.last h1 hkl).symm
  unfold fwdN
  refine (Fp.eqm_md p _).trans ?_
  unfold Fp.fw
  refine Fp.sum_mod fun j hj => ?_
  refine Fp.eqm.trans ?_ ((hze j hj).mul Fp.eqm.rfl).symm
  rw [Int.mul_assoc]
  exact Fp.eqm.rfl.mul (rtl_eqm h.kn neg h1 hd1 j k)

/-- Back: all stages, and the twist. -/
theorem whole_back {l : List Int} {neg : Bool} (h : Line p l neg) (hw : Words l) :
    twLn p neg true l.length (goL p true l.length (Fac.rads l.length) 1 l) = tr p neg true l := by
  obtain ⟨h1, h2⟩ := h.len
  obtain ⟨hd1, hd2⟩ := line_dvd h
  have hpr : Fac.prod (Fac.rads l.length) = l.length := by
    have := (Fac.sm_of h.sm).2.2
    rwa [Int.toNat_natCast] at this
  obtain ⟨hA, hL, hN⟩ := At.all h.kn true hd2 (x := nth l) (Fac.rads l.length) 1 l (Nat.le_refl 1) (by rw [Nat.one_mul]; exact hpr) rfl (nums_line h hw) (At.start _ _ _ _)
  have e : tr p neg true l = (List.range l.length).map (trN p neg true l) := h.tr true
  rw [e]
  unfold twLn
  refine List.map_congr_left fun j hj => ?_
  have hj := List.mem_range.1 hj
  refine eq_of_eqm ?_ (twL_bd h.kn _ _ _ _ _) (trN_bd h.kn true j)
  have e2 : trN p neg true l j = bwdN p l neg j := by simp [trN]
  rw [e2]
  unfold twL twT
  rw [if_pos rfl, Fp.mul_kn _ _ h.kn]
  have ht : Fp.eqm p (Fp.inv p (Fp.mul p (tw0 p neg l.length j) l.length)) (Fp.inv p (tw0 p neg l.length j) * Fp.inv p l.length) :=
    (Fp.inv_congr h.kn (by rw [Fp.mul_kn _ _ h.kn]; exact Fp.eqm_md p _)).trans (Fp.inv_times h.kn _ _)
  refine (Fp.eqm_md p _).trans (((hA.last h1 hj).mul ht).trans ?_)
  refine Fp.eqm.trans ?_ (bwdN_eqm h.kn j).symm
  unfold Fp.bw
  rw [← Int.mul_assoc, Int.mul_comm]
  refine Fp.eqm.rfl.mul ?_
  rw [← Fp.sum_mulr]
  refine Fp.sum_mod fun k _ => ?_
  rw [Int.mul_assoc]
  refine Fp.eqm.rfl.mul ?_
  -- the inverse of the root
  have hv : Fp.eqm p (bkl p neg l.length ^ Fp.ex neg j k) (Fp.inv p (rtl p neg l.length ^ Fp.ex neg j k)) := (Fp.inv_pow h.kn _ _).symm
  refine Fp.eqm.trans ?_ hv.symm
  refine Fp.eqm.trans ?_ (Fp.inv_congr h.kn (rtl_eqm h.kn neg h1 hd1 j k)).symm
  refine Fp.eqm.trans ?_ (Fp.inv_times h.kn _ _).symm
  rw [Int.mul_comm (Fp.inv p (tw0 p neg l.length j))]
  refine Fp.eqm.mul ?_ Fp.eqm.rfl
  have := (Fp.inv_pow h.kn (Fp.rt p l.length) (k * j)).symm
  rw [Nat.mul_comm k j] at this ⊢
  exact this
end
end Stp

end Go.Proofs.YtlbfllaaabginaaDoor

/-!   Mathematics of layer 16: steps of axes over all words: what is wrong with a step, what it makes of words; that all stages of an axis, and its twist, are its transform; sums. No function of the program is named here.
-/

namespace Go.Proofs.YtlbfllaaabginaaDoor

/-- A step: the axis, whether it is a twist, the stage. -/
structure Sp where
  ax : Int
  tw : Bool
  st : Fac.Stg
def noSt : Fac.Stg := ⟨0, 0, 0⟩

namespace Stp
open Fly

/-- The stages of a length. -/
def stgs (n : Nat) : List Fac.Stg := Fac.stages n (Fac.rads n) 1
/-- What is wrong with a step. -/
def stepE (p : Int) (xa : List Ax) (s : Sp) : Int :=
  if gridE p xa ≠ 0 then gridE p xa else if s.ax < 0 ∨ (xa.length : Int) ≤ s.ax then 1 else if s.tw = true then (if s.st = noSt then 0 else 1) else if s.st ∈ stgs (gL xa s.ax.toNat) then 0 else 1
/-- There is nothing wrong with a step. -/
structure Sok (p : Int) (xa : List Ax) (s : Sp) : Prop where
  ax : Axes p xa
  lo : 0 ≤ s.ax
  hi : s.ax.toNat < xa.length
  is : s.tw = true ∧ s.st = noSt ∨ s.tw = false ∧ s.st ∈ stgs (gL xa s.ax.toNat)
section
variable {p : Int} {xa : List Ax} {s : Sp}
theorem stepE_cases (p : Int) (xa : List Ax) (s : Sp) : (gridE p xa ≠ 0 ∧ stepE p xa s = gridE p xa) ∨ (gridE p xa = 0 ∧ (s.ax < 0 ∨ (xa.length : Int) ≤ s.ax) ∧ stepE p xa s = 1) ∨
    (gridE p xa = 0 ∧ 0 ≤ s.ax ∧ s.ax < (xa.length : Int) ∧ s.tw = true ∧ s.st ≠ noSt ∧ stepE p xa s = 1) ∨
    (gridE p xa = 0 ∧ 0 ≤ s.ax ∧ s.ax < (xa.length : Int) ∧ s.tw = false ∧ s.st ∉ stgs (gL xa s.ax.toNat) ∧ stepE p xa s = 1) ∨ (Sok p xa s ∧ stepE p xa s = 0) := by
  unfold stepE
  by_cases h1 : gridE p xa = 0
  · rw [if_neg (by simp [h1])]
    by_cases h2 : s.ax < 0 ∨ (xa.length : Int) ≤ s.ax
    · rw [if_pos h2]; exact .inr (.inl ⟨h1, h2, rfl⟩)
    · rw [if_neg h2]
      cases h3 : s.tw
      · rw [if_neg (by simp)]
        by_cases h4 : s.st ∈ stgs (gL xa s.ax.toNat)
        · rw [if_pos h4]; exact .inr (.inr (.inr (.inr ⟨⟨gridE_zero h1, by omega, by omega, .inr ⟨h3, h4⟩⟩, rfl⟩)))
        · rw [if_neg h4]; exact .inr (.inr (.inr (.inl ⟨h1, by omega, by omega, rfl, h4, rfl⟩)))
      · rw [if_pos rfl]
        by_cases h4 : s.st = noSt
        · rw [if_pos h4]; exact .inr (.inr (.inr (.inr ⟨⟨gridE_zero h1, by omega, by omega, .inl ⟨h3, h4⟩⟩, rfl⟩)))
        · rw [if_neg h4]; exact .inr (.inr (.inl ⟨h1, by omega, by omega, rfl, h4, rfl⟩))
  · rw [if_pos h1]; exact .inl ⟨h1, rfl⟩
theorem stepE_zero (h : stepE p xa s = 0) : Sok p xa s := by
  rcases stepE_cases p xa s with ⟨h1, e⟩ | ⟨_, _, e⟩ | ⟨_, _, _, _, _, e⟩ | ⟨_, _, _, _, _, e⟩ | ⟨h, _⟩
  · exact absurd (e.symm.trans h) h1
  · omega
  · omega
  · omega
  · exact h
theorem Sok.zero (h : Sok p xa s) : stepE p xa s = 0 := by
  unfold stepE
  have := h.lo
  have := h.hi
  rw [if_neg (by simp [h.ax.zero]), if_neg (by omega)]
  rcases h.is with ⟨h1, h2⟩ | ⟨h1, h2⟩
  · rw [if_pos h1, if_pos h2]
  · rw [if_neg (by simp [h1]), if_pos h2]
theorem stepE_bd (p : Int) (xa : List Ax) (s : Sp) : 0 ≤ stepE p xa s ∧ stepE p xa s ≤ 5 := by
  have := gridE_bd p xa
  rcases stepE_cases p xa s with ⟨_, e⟩ | ⟨_, _, e⟩ | ⟨_, _, _, _, _, e⟩ | ⟨_, _, _, _, _, e⟩ | ⟨_, e⟩ <;> omega

/-- The numbers of a stage. -/
structure Three (n R L M : Nat) : Prop where
  r2 : 2 ≤ R
  r5 : R ≤ 5
  l1 : 1 ≤ L
  m1 : 1 ≤ M
  all : L * (R * M) = n
theorem stgs_three {n : Nat} (h : Fac.sm (n : Int) = true) {t : Fac.Stg} (ht : t ∈ stgs n) : Three n t.r.toNat t.l.toNat t.m.toNat ∧ 0 ≤ t.r ∧ 0 ≤ t.l ∧ 0 ≤ t.m := by
  unfold stgs at ht
  obtain ⟨j, hj, rfl⟩ := List.mem_iff_getElem.1 ht
  have hj' : j < (Fac.rads n).length := by rw [← Fac.stages_len n (Fac.rads n) 1]; exact hj
  have hpr : Fac.prod (Fac.rads n) = n := by
    have := (Fac.sm_of h).2.2
    rwa [Int.toNat_natCast] at this
  have e := Fac.stages_get n (Fac.rads n) j hj'
  have hb := Fac.behind hpr j hj'
  have h1 := Fac.prod_pos ((Fac.rads n).take j)
  have h2 := Fac.prod_pos ((Fac.rads n).drop (j + 1))
  have hr := (Fac.rads n)[j].2
  have hs : Fac.prod ((Fac.rads n).take j) * ((Fac.rads n)[j].1 * Fac.prod ((Fac.rads n).drop (j + 1))) = n := by
    have e1 : Fac.rads n = (Fac.rads n).take j ++ ((Fac.rads n)[j] :: (Fac.rads n).drop (j + 1)) := by rw [← List.drop_eq_getElem_cons hj', List.take_append_drop]
    conv => rhs; rw [← hpr, e1]
    rw [Fac.prod_append, Fac.prod]
  rw [e, hb]
  dsimp only
  rw [Int.toNat_natCast, Int.toNat_natCast, Int.toNat_natCast]
  refine ⟨⟨by omega, by omega, h1, h2, hs⟩, by omega, by omega, by omega⟩

/-- A line under a step. -/
def lnS (p : Int) (neg inv : Bool) (n : Nat) (s : Sp) (l : List Int) : List Int := if s.tw = true then twLn p neg inv n l else stLn p inv n s.st.r.toNat s.st.l.toNat s.st.m.toNat l
theorem lnS_len (p : Int) (neg inv : Bool) (n : Nat) (s : Sp) (l : List Int) : (lnS p neg inv n s l).length = n := by unfold lnS; split <;> simp [twLn, stLn]
theorem lnS_nums (h : Fp.kn p = true) (neg inv : Bool) (n : Nat) (s : Sp) (l : List Int) : Nums p (lnS p neg inv n s l) := by
  unfold lnS
  split
  · exact Nums.map h (fun j => twL_bd h _ _ _ _ _) n
  · exact Nums.map h (fun j => stL_bd h _ _ _ _ _ _) n
/-- All words under a step. -/
def stpN (p : Int) (xa : List Ax) (inv : Bool) (s : Sp) (xs : List Int) (i : Nat) : Int :=
  (lnS p (gN xa s.ax.toNat) inv (gL xa s.ax.toNat) s (lnOf xa s.ax.toNat xs (Sh.lnum (gI xa s.ax.toNat) (gL xa s.ax.toNat) i))).getD (i / gI xa s.ax.toNat % gL xa s.ax.toNat) 0
def stp (p : Int) (xa : List Ax) (inv : Bool) (s : Sp) (xs : List Int) : List Int := (List.range xs.length).map (stpN p xa inv s xs)
theorem stp_len (p : Int) (xa : List Ax) (inv : Bool) (s : Sp) (xs : List Int) : (stp p xa inv s xs).length = xs.length := by simp [stp]
theorem stpN_bd (h : Fp.kn p = true) (xa : List Ax) (inv : Bool) (s : Sp) (xs : List Int) (i : Nat) : 0 ≤ stpN p xa inv s xs i ∧ stpN p xa inv s xs i < p := lnS_nums h _ _ _ _ _ _
theorem stp_nums (h : Fp.kn p = true) (xa : List Ax) (inv : Bool) (s : Sp) (xs : List Int) : Nums p (stp p xa inv s xs) := Nums.map h (stpN_bd h xa inv s xs) _
theorem Nums.words (h : Fp.kn p = true) {l : List Int} (hl : Nums p l) : Words l := fun j => by
  have := Fp.kn_bd h
  have := hl j
  omega
theorem lnOf_nums (h : Fp.kn p = true) {xs : List Int} (hx : Nums p xs) (xa : List Ax) (a k : Nat) : Nums p (lnOf xa a xs k) := Nums.map h (fun _ => hx _) _

/-- A line of what comes of a step is that line under it. -/
theorem line_stp {inv : Bool} (h : Axes p xa) (ha : s.ax.toNat < xa.length) {xs : List Int} (hl : xs.length = Sh.prod (szs xa)) {k : Nat} (hk : k < Sh.prod (szs xa) / gL xa s.ax.toNat) :
    lnOf xa s.ax.toNat (stp p xa inv s xs) k = lnS p (gN xa s.ax.toNat) inv (gL xa s.ax.toNat) s (lnOf xa s.ax.toNat xs k) := by
  have e0 : (lnS p (gN xa s.ax.toNat) inv (gL xa s.ax.toNat) s (lnOf xa s.ax.toNat xs k)) = (List.range (gL xa s.ax.toNat)).map fun j => (lnS p (gN xa s.ax.toNat) inv (gL xa s.ax.toNat) s (lnOf xa s.ax.toNat xs k)).getD j 0 := by
    symm
    exact list_eq_range (lnS_len _ _ _ _ _ _) fun _ _ => rfl
  rw [e0]
  unfold lnOf
  refine List.map_congr_left fun j hj => ?_
  have hj := List.mem_range.1 hj
  have hlt := h.at_lt ha hk hj
  unfold stp
  rw [getD_range _ (by rw [hl]; exact hlt)]
  unfold stpN
  rw [Sh.at_line (h.I _) hj, Sh.at_coord (h.I _) hj]
  rfl
/-- Words are what their lines are. -/
theorem same_lines (h : Axes p xa) {a : Nat} (ha : a < xa.length) {xs ys : List Int} (hx : xs.length = Sh.prod (szs xa)) (hy : ys.length = Sh.prod (szs xa)) (hl : ∀ k, k < Sh.prod (szs xa) / gL xa a → lnOf xa a xs k = lnOf xa a ys k) : xs = ys := by
  rw [← list_range xs]
  refine list_eq_range (hy.trans hx.symm) fun i hi => ?_
  have hi' : i < Sh.prod (szs xa) := by omega
  have e := congrArg (fun l => l.getD (i / gI xa a % gL xa a) 0) (hl _ (h.line_lt ha hi'))
  unfold lnOf at e
  rw [getD_range _ (h.coord_lt ha i), getD_range _ (h.coord_lt ha i), Sh.back (h.I a)] at e
  exact e

/-- The steps of an axis, in order. -/
def stepsOf (neg inv : Bool) (n : Nat) (a : Int) : List Sp :=
  (if neg = true ∧ inv = false then [⟨a, true, noSt⟩] else []) ++ ((stgs n).map fun t => ⟨a, false, t⟩) ++ (if inv = true then [⟨a, true, noSt⟩] else [])
theorem stepsOf_ax {neg inv : Bool} {n : Nat} {a : Int} {s : Sp} (h : s ∈ stepsOf neg inv n a) : s.ax = a := by
  unfold stepsOf at h
  simp only [List.mem_append, List.mem_map] at h
  rcases h with (h | ⟨t, _, rfl⟩) | h
  · split at h
    · simp at h; rw [h]
    · simp at h
  · rfl
  · split at h
    · simp at h; rw [h]
    · simp at h
/-- One after the other. -/
def goS (p : Int) (xa : List Ax) (inv : Bool) (l : List Sp) (xs : List Int) : List Int := l.foldl (fun xs s => stp p xa inv s xs) xs
def goLn (p : Int) (neg inv : Bool) (n : Nat) (l : List Sp) (x : List Int) : List Int := l.foldl (fun x s => lnS p neg inv n s x) x
theorem goS_len (p : Int) (xa : List Ax) (inv : Bool) : ∀ (l : List Sp) (xs : List Int), (goS p xa inv l xs).length = xs.length
  | [], _ => rfl
  | s :: l, xs => (goS_len p xa inv l (stp p xa inv s xs)).trans (stp_len _ _ _ _ _)
theorem line_goS {inv : Bool} (h : Axes p xa) {a : Nat} (ha : a < xa.length) {k : Nat} (hk : k < Sh.prod (szs xa) / gL xa a) : ∀ (l : List Sp) (xs : List Int), (∀ s ∈ l, s.ax = (a : Int)) → xs.length = Sh.prod (szs xa) →
    lnOf xa a (goS p xa inv l xs) k = goLn p (gN xa a) inv (gL xa a) l (lnOf xa a xs k)
  | [], _, _, _ => rfl
  | s :: l, xs, hs, hl => by
    have e : s.ax.toNat = a := by have := hs s List.mem_cons_self; omega
    have h1 := line_stp (s := s) (inv := inv) h (by rw [e]; exact ha) hl (by rw [e]; exact hk)
    rw [e] at h1
    have h2 := line_goS (inv := inv) h ha hk l (stp p xa inv s xs) (fun t ht => hs t (List.mem_cons_of_mem _ ht)) ((stp_len _ _ _ _ _).trans hl)
    show lnOf xa a (goS p xa inv l (stp p xa inv s xs)) k = goLn p (gN xa a) inv (gL xa a) l (lnS p (gN xa a) inv (gL xa a) s (lnOf xa a xs k))
    rw [h2, h1]
theorem goLn_stages (p : Int) (neg inv : Bool) (n : Nat) (a : Int) : ∀ (l : List Fac.Rad) (m : Nat) (x : List Int), goLn p neg inv n ((Fac.stages n l m).map fun t => (⟨a, false, t⟩ : Sp)) x = goL p inv n l m x
  | [], _, _ => rfl
  | r :: l, m, x => by
    show goLn p neg inv n ((Fac.stages n l (m * r.1)).map _) (lnS p neg inv n ⟨a, false, ⟨r.1, m, (n / (m * r.1) : Nat)⟩⟩ x) = goL p inv n l (m * r.1) (stLn p inv n r.1 m (n / (m * r.1)) x)
    rw [goLn_stages p neg inv n a l (m * r.1)]
    unfold lnS
    rw [if_neg (by simp)]
    dsimp only
    rw [Int.toNat_natCast, Int.toNat_natCast, Int.toNat_natCast]
theorem goLn_append (p : Int) (neg inv : Bool) (n : Nat) (k l : List Sp) (x : List Int) : goLn p neg inv n (k ++ l) x = goLn p neg inv n l (goLn p neg inv n k x) := List.foldl_append
/-- A line under all steps is its transform. -/
theorem goLn_whole {l : List Int} {neg : Bool} (h : Line p l neg) (hw : Words l) (inv : Bool) (a : Int) : goLn p neg inv l.length (stepsOf neg inv l.length a) l = tr p neg inv l := by
  unfold stepsOf
  rw [goLn_append, goLn_append]
  unfold stgs
  rw [goLn_stages]
  cases inv
  · rw [if_neg (by simp)]
    have := whole_there h hw
    cases neg
    · rw [if_neg (by simp)] at this ⊢
      exact this
    · rw [if_pos rfl] at this
      rw [if_pos ⟨rfl, rfl⟩]
      exact this
  · rw [if_pos rfl, if_neg (by simp)]
    exact whole_back h hw
/-- All words under all steps of an axis are its transform. -/
theorem whole {xs : List Int} (h : Grid p xa xs) (hw : Words xs) {a : Nat} (ha : a < xa.length) (inv : Bool) : goS p xa inv (stepsOf (gN xa a) inv (gL xa a) a) xs = thr p xa a inv xs := by
  refine same_lines h.ax ha ((goS_len _ _ _ _ _).trans h.len) ((thr_len _ _ _ _ _).trans h.len) fun k hk => ?_
  rw [line_goS h.ax ha hk _ _ (fun s hs => stepsOf_ax hs) h.len, h.line_thr ha hk]
  have := goLn_whole (h.line ha hk) (words_lnOf hw xa a k) inv (a : Int)
  rwa [lnOf_len] at this
end
end Stp

end Go.Proofs.YtlbfllaaabginaaDoor

/-!   Mathematics of layer 16: what Do, Predict and Table tell, as lists; sums go through a step; a twist there and back; factors. No function of the program is named here.
-/

namespace Go.Proofs.YtlbfllaaabginaaDoor.Stp
open Go.RowKit

section
variable {p : Int} {xa : List Ax} {s : Sp} {xs ys : List Int} {inv : Bool}

/-- What is wrong with a step and its words; what comes of it. -/
def wE (p : Int) (xa : List Ax) (s : Sp) (xs : List Int) : Int :=
  if stepE p xa s ≠ 0 then stepE p xa s else if xs.length ≠ Sh.prod (szs xa) then 6 else if Fp.isIn p (fun j => xs.getD j 0) xs.length = false then 7 else 0
def wL (p : Int) (xa : List Ax) (inv : Bool) (s : Sp) (xs : List Int) : List Int := if wE p xa s xs = 0 then stp p xa inv s xs else []
/-- There is nothing wrong with them. -/
structure Wok (p : Int) (xa : List Ax) (s : Sp) (xs : List Int) : Prop where
  ok : Sok p xa s
  len : xs.length = Sh.prod (szs xa)
  lt : ∀ j, j < xs.length → xs.getD j 0 < p
theorem wE_zero (h : wE p xa s xs = 0) : Wok p xa s xs := by
  unfold wE at h
  by_cases h1 : stepE p xa s = 0
  · rw [if_neg (by simp [h1])] at h
    by_cases h2 : xs.length = Sh.prod (szs xa)
    · rw [if_neg (by simp [h2])] at h
      have hk := (stepE_zero h1).ax.kn
      cases h3 : Fp.isIn p (fun j => xs.getD j 0) xs.length
      · rw [if_pos h3] at h; omega
      · exact ⟨stepE_zero h1, h2, (Fp.isIn_iff hk _).1 h3⟩
    · rw [if_pos h2] at h; omega
  · rw [if_pos h1] at h; exact absurd h h1
theorem Wok.zero (h : Wok p xa s xs) : wE p xa s xs = 0 := by
  unfold wE
  rw [if_neg (by simp [h.ok.zero]), if_neg (by simp [h.len]), if_neg (by rw [(Fp.isIn_iff h.ok.ax.kn _).2 h.lt]; decide)]
theorem wE_bd (p : Int) (xa : List Ax) (s : Sp) (xs : List Int) : 0 ≤ wE p xa s xs ∧ wE p xa s xs ≤ 7 := by
  have := stepE_bd p xa s
  unfold wE
  split
  · omega
  · split
    · omega
    · split <;> omega
theorem Wok.wL (h : Wok p xa s xs) : wL p xa inv s xs = stp p xa inv s xs := by unfold Stp.wL; rw [if_pos h.zero]
theorem wL_no (h : wE p xa s xs ≠ 0) : Stp.wL p xa inv s xs = [] := by unfold Stp.wL; rw [if_neg h]
theorem wL_le (p : Int) (xa : List Ax) (inv : Bool) (s : Sp) (xs : List Int) : (Stp.wL p xa inv s xs).length ≤ xs.length := by unfold Stp.wL; split <;> simp [stp_len]
theorem Wok.other (h : Wok p xa s xs) (hl : ys.length = xs.length) (hy : ∀ j, j < ys.length → ys.getD j 0 < p) : Wok p xa s ys := ⟨h.ok, hl.trans h.len, hy⟩
theorem Wok.le (h : Wok p xa s xs) : 1 ≤ xs.length ∧ xs.length ≤ 4096 := by rw [h.len]; exact ⟨h.ok.ax.ok.here, h.ok.ax.ok.le⟩
theorem Wok.stp (h : Wok p xa s xs) : Wok p xa s (stp p xa inv s xs) := h.other (stp_len _ _ _ _ _) fun j _ => (stp_nums h.ok.ax.kn xa inv s xs j).2
theorem stp_words (h : Fp.kn p = true) (xa : List Ax) (inv : Bool) (s : Sp) (xs : List Int) : Words (Stp.stp p xa inv s xs) := (stp_nums h xa inv s xs).words h
theorem stp_get {i : Nat} (hi : i < xs.length) : (Stp.stp p xa inv s xs).getD i 0 = stpN p xa inv s xs i := by unfold Stp.stp; exact getD_range _ hi

/-! Sums. -/
theorem lin_eqm (h : Fp.kn p = true) (c a b : Int) : Fp.eqm p (Fp.add p (Fp.mul p c a) b) (c * a + b) := by
  rw [Fp.add_kn h, Fp.mul_kn _ _ h]
  exact (Fp.eqm_md p _).trans ((Fp.eqm_md p _).add Fp.eqm.rfl)
theorem mul_lin (h : Fp.kn p = true) (c a b t : Int) : Fp.mul p (Fp.add p (Fp.mul p c a) b) t = Fp.add p (Fp.mul p c (Fp.mul p a t)) (Fp.mul p b t) := by
  have hm : ∀ u v, Fp.eqm p (Fp.mul p u v) (u * v) := fun u v => by rw [Fp.mul_kn _ _ h]; exact Fp.eqm_md p _
  refine eq_of_eqm ?_ ⟨(Fp.mul_bd _ _ _).1, (Fp.mul_bd _ _ _).2.2 h⟩ ⟨(Fp.add_bd _ _ _).1, (Fp.add_bd _ _ _).2.2 h⟩
  refine (hm _ _).trans (((lin_eqm h c a b).mul Fp.eqm.rfl).trans ?_)
  refine Fp.eqm.trans ?_ (lin_eqm h c _ _).symm
  rw [Int.add_mul, Int.mul_assoc]
  exact (Fp.eqm.rfl.mul (hm _ _).symm).add (hm _ _).symm
theorem doN_cong {n : Nat} {x y : Nat → Int} {u : Nat} (h : ∀ j, j < n → x j = y j) : Fly.doN p inv n x u = Fly.doN p inv n y u := Fly.doN_congr h
/-- c times x and y, place by place. -/
def lin (p c : Int) (xs ys : List Int) : List Int := (List.range xs.length).map fun j => Fp.add p (Fp.mul p c (xs.getD j 0)) (ys.getD j 0)
theorem lin_get {c : Int} {j : Nat} (hj : j < xs.length) : (lin p c xs ys).getD j 0 = Fp.add p (Fp.mul p c (xs.getD j 0)) (ys.getD j 0) := getD_range _ hj
theorem lin_nums (h : Fp.kn p = true) (c : Int) (xs ys : List Int) : Nums p (lin p c xs ys) := Nums.map h (fun _ => ⟨(Fp.add_bd _ _ _).1, (Fp.add_bd _ _ _).2.2 h⟩) _
/-- Places of a group stay below. -/
theorem in_lt {n R L M : Nat} (h : Three n R L M) {o t : Nat} (ho : o < n) (ht : t < R) : o % L + L * (o / L / R + M * t) < n := by
  have hL := h.l1
  have hM := h.m1
  have h1 : o / L < R * M := Nat.div_lt_of_lt_mul (by rw [h.all]; exact ho)
  have h2 : o / L / R < M := Nat.div_lt_of_lt_mul h1
  have h3 : M * (t + 1) ≤ M * R := Nat.mul_le_mul_left M ht
  rw [Nat.mul_succ] at h3
  have h4 : o / L / R + M * t + 1 ≤ R * M := by rw [Nat.mul_comm R M]; omega
  have h5 := Nat.mul_le_mul_left L h4
  rw [h.all, Nat.mul_succ] at h5
  have := Nat.mod_lt o hL
  omega
theorem stL_lin (h : Fp.kn p = true) {n R L M : Nat} (h3 : Three n R L M) (inv : Bool) (c : Int) {x y z : Nat → Int} (hz : ∀ j, j < n → z j = Fp.add p (Fp.mul p c (x j)) (y j)) {o : Nat} (ho : o < n) :
    stL p inv R L M z o = Fp.add p (Fp.mul p c (stL p inv R L M x o)) (stL p inv R L M y o) := by
  unfold stL
  rw [← mul_lin h]
  congr 1
  rw [doN_cong (y := fun t => Fp.add p (Fp.mul p c (x (o % L + L * (o / L / R + M * t)))) (y (o % L + L * (o / L / R + M * t)))) (fun t ht => hz _ (in_lt h3 ho ht))]
  exact Fly.doN_lin h c _
theorem Sok.three (h : Sok p xa s) (ht : s.tw = false) : Three (gL xa s.ax.toNat) s.st.r.toNat s.st.l.toNat s.st.m.toNat := by
  rcases h.is with ⟨h1, _⟩ | ⟨_, h2⟩
  · rw [h1] at ht; cases ht
  · exact (stgs_three (h.ax.sm' h.hi) h2).1
theorem Sok.nat (h : Sok p xa s) : 0 ≤ s.st.r ∧ 0 ≤ s.st.l ∧ 0 ≤ s.st.m := by
  rcases h.is with ⟨_, h2⟩ | ⟨_, h2⟩
  · rw [h2]; decide
  · exact (stgs_three (h.ax.sm' h.hi) h2).2
theorem lnS_lin (h : Sok p xa s) (inv : Bool) (c : Int) {x y z : List Int} (hz : ∀ j, j < gL xa s.ax.toNat → nth z j = Fp.add p (Fp.mul p c (nth x j)) (nth y j)) {o : Nat} (ho : o < gL xa s.ax.toNat) :
    (lnS p (gN xa s.ax.toNat) inv (gL xa s.ax.toNat) s z).getD o 0 = Fp.add p (Fp.mul p c ((lnS p (gN xa s.ax.toNat) inv (gL xa s.ax.toNat) s x).getD o 0)) ((lnS p (gN xa s.ax.toNat) inv (gL xa s.ax.toNat) s y).getD o 0) := by
  unfold lnS
  cases ht : s.tw
  · rw [if_neg (by simp), if_neg (by simp), if_neg (by simp)]
    unfold stLn
    rw [getD_range _ ho, getD_range _ ho, getD_range _ ho]
    exact stL_lin h.ax.kn (h.three ht) inv c hz ho
  · rw [if_pos rfl, if_pos rfl, if_pos rfl]
    unfold twLn
    rw [getD_range _ ho, getD_range _ ho, getD_range _ ho]
    unfold twL
    rw [hz o ho]
    exact mul_lin h.ax.kn c _ _ _
theorem stp_lin (h : Wok p xa s xs) (hl : ys.length = xs.length) (c : Int) {i : Nat} (hi : i < xs.length) :
    (Stp.stp p xa inv s (lin p c xs ys)).getD i 0 = Fp.add p (Fp.mul p c ((Stp.stp p xa inv s xs).getD i 0)) ((Stp.stp p xa inv s ys).getD i 0) := by
  have hi' : i < Sh.prod (szs xa) := by rw [← h.len]; exact hi
  rw [stp_get (by simpa [lin] using hi), stp_get hi, stp_get (by omega)]
  unfold stpN
  refine lnS_lin h.ok inv c (fun j hj => ?_) (h.ok.ax.coord_lt h.ok.hi i)
  have hlt := h.ok.ax.at_lt h.ok.hi (h.ok.ax.line_lt h.ok.hi hi') hj
  unfold nth lnOf
  rw [getD_range _ hj, getD_range _ hj, getD_range _ hj]
  exact lin_get (by rw [h.len]; exact hlt)

/-! A twist, there and back. -/
theorem tw0_ne (h : Axes p xa) {a : Nat} (ha : a < xa.length) (j : Nat) : Fp.red p (tw0 p (gN xa a) (gL xa a) j) ≠ 0 := by
  unfold tw0
  have hk := h.kn
  cases hn : gN xa a
  · rw [if_neg (by simp), Fp.red_one hk]; decide
  · rw [if_pos rfl]
    have hL := h.L ha
    have hd := rt_dvd hk (n := ((Fp.od (gN xa a) (gL xa a) : Nat) : Int)) (by have := Fp.od_bd (gN xa a) hL (h.L_le ha); omega) (h.dvd' ha)
    rw [Int.toNat_natCast, hn] at hd
    have e : Fp.od true (gL xa a) = 2 * gL xa a := by simp [Fp.od]
    rw [e] at hd
    have hne := Fp.rt_ne hk hd (by omega)
    intro e0
    have hz : Fp.eqm p (Fp.rt p (2 * gL xa a) ^ j) 0 := by
      have h0 : Fp.red p (Fp.pw p (Fp.rt p (2 * gL xa a)) j) = Fp.pw p (Fp.rt p (2 * gL xa a)) j := by unfold Fp.pw; exact Fp.red_red p _
      rw [h0, Fp.pw_kn _ _ hk] at e0
      unfold Fp.eqm
      rw [e0]; simp
    clear e0
    induction j with
    | zero =>
      rw [Int.pow_zero] at hz
      have p1 := Fp.kn_bd hk
      unfold Fp.eqm at hz
      rw [Int.emod_eq_of_lt (by omega) (by omega)] at hz
      simp at hz
    | succ j ih =>
      rw [Int.pow_succ] at hz
      rcases Fp.eqm_mul_zero hk hz with e1 | e1
      · exact ih e1
      · refine hne ?_
        rw [Fp.red_kn _ hk]
        unfold Fp.eqm at e1
        rw [e1]; simp
theorem len_ne (h : Axes p xa) {a : Nat} (ha : a < xa.length) : Fp.red p ((gL xa a : Nat) : Int) ≠ 0 := by
  have h1 := h.L ha
  have h2 := h.L_le ha
  have := Fp.kn_bd h.kn
  rw [Fp.red_kn _ h.kn, Int.emod_eq_of_lt (by omega) (by omega)]
  omega
theorem inv_eqm_one (h : Fp.kn p = true) {a : Int} (ha : Fp.red p a ≠ 0) : Fp.eqm p (Fp.inv p a * a) 1 := by
  have := Fp.mul_inv h ha
  rw [Fp.mul_kn _ _ h] at this
  have p1 := Fp.kn_bd h
  unfold Fp.eqm
  rw [this, Int.emod_eq_of_lt (by omega) (by omega)]
/-- A factor, and that of the way back, times the length. -/
theorem twT_undo (h : Axes p xa) {a : Nat} (ha : a < xa.length) (j : Nat) : Fp.eqm p (twT p (gN xa a) false (gL xa a) j * twT p (gN xa a) true (gL xa a) j * ((gL xa a : Nat) : Int)) 1 := by
  unfold twT
  rw [if_neg (by simp), if_pos rfl]
  have hk := h.kn
  have e1 : Fp.eqm p (Fp.inv p (Fp.mul p (tw0 p (gN xa a) (gL xa a) j) ((gL xa a : Nat) : Int))) (Fp.inv p (tw0 p (gN xa a) (gL xa a) j) * Fp.inv p ((gL xa a : Nat) : Int)) :=
    (Fp.inv_congr hk (by rw [Fp.mul_kn _ _ hk]; exact Fp.eqm_md p _)).trans (Fp.inv_times hk _ _)
  refine ((Fp.eqm.rfl.mul e1).mul Fp.eqm.rfl).trans ?_
  have e2 : tw0 p (gN xa a) (gL xa a) j * (Fp.inv p (tw0 p (gN xa a) (gL xa a) j) * Fp.inv p ((gL xa a : Nat) : Int)) * ((gL xa a : Nat) : Int) = (Fp.inv p (tw0 p (gN xa a) (gL xa a) j) * tw0 p (gN xa a) (gL xa a) j) * (Fp.inv p ((gL xa a : Nat) : Int) * ((gL xa a : Nat) : Int)) := by
    grind
  rw [e2]
  exact ((inv_eqm_one hk (tw0_ne h ha j)).mul (inv_eqm_one hk (len_ne h ha))).trans (Fp.eqm.of (by decide))
/-- There and back. -/
theorem twist_back {a : Nat} (h : Wok p xa ⟨a, true, noSt⟩ xs) (hw : Words xs) {i : Nat} (hi : i < xs.length) :
    Fp.mul p ((Stp.stp p xa true ⟨a, true, noSt⟩ (Stp.stp p xa false ⟨a, true, noSt⟩ xs)).getD i 0) ((gL xa a : Nat) : Int) = xs.getD i 0 := by
  have hA := h.ok.ax
  have ha : a < xa.length := h.ok.hi
  have hi' : i < Sh.prod (szs xa) := by rw [← h.len]; exact hi
  have hk := hA.kn
  have hc := hA.coord_lt ha i
  have hb := Sh.back (L := gL xa a) (hA.I a) i
  rw [stp_get (by rw [stp_len]; exact hi)]
  have e1 : stpN p xa true ⟨a, true, noSt⟩ (Stp.stp p xa false ⟨a, true, noSt⟩ xs) i = Fp.mul p ((Stp.stp p xa false ⟨a, true, noSt⟩ xs).getD i 0) (twT p (gN xa a) true (gL xa a) (i / gI xa a % gL xa a)) := by
    show (lnS p (gN xa a) true (gL xa a) ⟨a, true, noSt⟩ (lnOf xa a _ (Sh.lnum (gI xa a) (gL xa a) i))).getD (i / gI xa a % gL xa a) 0 = _
    unfold lnS
    rw [if_pos rfl]
    unfold twLn
    rw [getD_range _ hc]
    unfold twL nth lnOf
    rw [getD_range _ hc, hb]
  have e2 : (Stp.stp p xa false ⟨a, true, noSt⟩ xs).getD i 0 = Fp.mul p (xs.getD i 0) (twT p (gN xa a) false (gL xa a) (i / gI xa a % gL xa a)) := by
    rw [stp_get hi]
    show (lnS p (gN xa a) false (gL xa a) ⟨a, true, noSt⟩ (lnOf xa a _ (Sh.lnum (gI xa a) (gL xa a) i))).getD (i / gI xa a % gL xa a) 0 = _
    unfold lnS
    rw [if_pos rfl]
    unfold twLn
    rw [getD_range _ hc]
    unfold twL nth lnOf
    rw [getD_range _ hc, hb]
  rw [e1, e2]
  have hm : ∀ u v, Fp.eqm p (Fp.mul p u v) (u * v) := fun u v => by rw [Fp.mul_kn _ _ hk]; exact Fp.eqm_md p _
  refine eq_of_eqm ?_ ⟨(Fp.mul_bd _ _ _).1, (Fp.mul_bd _ _ _).2.2 hk⟩ ⟨(hw i).1, h.lt i hi⟩
  refine (hm _ _).trans ((((hm _ _).trans ((hm _ _).mul Fp.eqm.rfl)).mul Fp.eqm.rfl).trans ?_)
  have := (Fp.eqm.rfl (p := p) (a := xs.getD i 0)).mul (twT_undo hA ha (i / gI xa a % gL xa a))
  rw [Int.mul_one] at this
  refine Fp.eqm.trans (Fp.eqm.of ?_) this
  rw [Int.mul_assoc, Int.mul_assoc, Int.mul_assoc]
/-- Of an axis that is not Neg the twist ahead changes nothing. -/
theorem twist_same {a : Nat} (h : Wok p xa ⟨a, true, noSt⟩ xs) (hw : Words xs) (hn : gN xa a = false) : Stp.stp p xa false ⟨a, true, noSt⟩ xs = xs := by
  have hA := h.ok.ax
  have ha : a < xa.length := h.ok.hi
  unfold Stp.stp
  refine list_eq_range rfl fun i hi => ?_
  have hc := hA.coord_lt ha i
  have hb := Sh.back (L := gL xa a) (hA.I a) i
  show (lnS p (gN xa a) false (gL xa a) ⟨a, true, noSt⟩ (lnOf xa a _ (Sh.lnum (gI xa a) (gL xa a) i))).getD (i / gI xa a % gL xa a) 0 = _
  unfold lnS
  rw [if_pos rfl]
  unfold twLn
  rw [getD_range _ hc]
  unfold twL nth lnOf twT tw0
  rw [getD_range _ hc, hb, hn, if_neg (by simp), if_neg (by simp), Fp.mul_one, Fp.red_kn _ hA.kn, Int.emod_eq_of_lt (hw i).1 (h.lt i hi)]

/-! The table. -/
/-- All factors of a step. -/
def tabN (p : Int) (xa : List Ax) (inv : Bool) (s : Sp) (k : Nat) : Int := if s.tw = true then twT p (gN xa s.ax.toNat) inv (gL xa s.ax.toNat) k else stT p inv s.st.r.toNat s.st.m.toNat k
def tabn (xa : List Ax) (s : Sp) : Nat := if s.tw = true then gL xa s.ax.toNat else s.st.m.toNat * s.st.r.toNat
def tabL (p : Int) (xa : List Ax) (inv : Bool) (s : Sp) : List Int := if stepE p xa s = 0 then (List.range (tabn xa s)).map (tabN p xa inv s) else []
theorem Sok.tab (h : Sok p xa s) : tabL p xa inv s = (List.range (tabn xa s)).map (tabN p xa inv s) := by unfold tabL; rw [if_pos h.zero]
theorem tabN_bd (h : Fp.kn p = true) (k : Nat) : 0 ≤ tabN p xa inv s k ∧ tabN p xa inv s k < p := by
  unfold tabN
  split
  · exact twT_bd h _ _ _ _
  · exact stT_bd h _ _ _ _
theorem Sok.tab_le (h : Sok p xa s) : 1 ≤ tabn xa s ∧ tabn xa s ≤ 4096 := by
  have h1 := h.ax.L h.hi
  have h2 := h.ax.L_le h.hi
  unfold tabn
  cases ht : s.tw
  · rw [if_neg (by simp)]
    have h3 := h.three ht
    have hl := h3.l1
    have hr := h3.r2
    have hm := h3.m1
    have e := h3.all
    have hp : 1 ≤ s.st.m.toNat * s.st.r.toNat := Nat.mul_pos hm (by omega)
    have : s.st.m.toNat * s.st.r.toNat ≤ gL xa s.ax.toNat := by
      rw [← e, Nat.mul_comm s.st.m.toNat]
      exact Nat.le_mul_of_pos_left _ hl
    omega
  · rw [if_pos rfl]; omega
theorem stage_dvd (h : Sok p xa s) (ht : s.tw = false) : s.st.r.toNat * s.st.m.toNat ∣ p.toNat - 1 := by
  have hd := rt_dvd h.ax.kn (n := ((Fp.od (gN xa s.ax.toNat) (gL xa s.ax.toNat) : Nat) : Int)) (by have := Fp.od_bd (gN xa s.ax.toNat) (h.ax.L h.hi) (h.ax.L_le h.hi); omega) (h.ax.dvd' h.hi)
  rw [Int.toNat_natCast] at hd
  refine Nat.dvd_trans (Nat.dvd_trans ?_ (show gL xa s.ax.toNat ∣ Fp.od (gN xa s.ax.toNat) (gL xa s.ax.toNat) from ?_)) hd
  · rw [← (h.three ht).all]; exact Nat.dvd_mul_left _ _
  · unfold Fp.od
    split
    · exact Nat.dvd_mul_left _ _
    · exact Nat.dvd_refl _
/-- A stage's factor and that of the way back undo each other. -/
theorem stT_undo (h : Sok p xa s) (ht : s.tw = false) (k : Nat) : Fp.eqm p (stT p false s.st.r.toNat s.st.m.toNat k * stT p true s.st.r.toNat s.st.m.toNat k) 1 := by
  have hk := h.ax.kn
  have h3 := h.three ht
  have e1 := stT_eqm hk false s.st.r.toNat s.st.m.toNat k
  have e2 := stT_eqm hk true s.st.r.toNat s.st.m.toNat k
  refine (e1.mul e2).trans ?_
  unfold rte
  rw [if_neg (by simp), if_pos rfl, ← Int.mul_pow]
  have hne := Fp.rt_ne hk (stage_dvd h ht) (Nat.mul_pos (by have := h3.r2; omega) h3.m1)
  have := (inv_eqm_one hk hne).pow (k / s.st.r.toNat * (k % s.st.r.toNat))
  rw [Int.one_pow, Int.mul_comm] at this
  exact this
/-- Factors of a are the powers of the second one. -/
theorem stT_pow {R : Nat} (hR : 2 ≤ R) (p : Int) (M k : Nat) : stT p false R M k = Fp.pw p (stT p false R M (k / R * R + 1)) (k % R) := by
  unfold stT
  rw [if_neg (by simp), if_neg (by simp), ← Fp.pw_mul]
  congr 1
  rw [Nat.mul_comm (k / R) R, Nat.mul_add_div (by omega), Nat.mul_add_mod, Nat.div_eq_of_lt (show 1 < R by omega), Nat.mod_eq_of_lt (show 1 < R by omega), Nat.add_zero, Nat.mul_one]
end

end Go.Proofs.YtlbfllaaabginaaDoor.Stp

/-!   Mathematics of layer 16: which places go together in a step; that each place goes in and comes out once, that each factor is named, and that a word plays a part in the words of its own group alone. No function of the program is named here.
-/

namespace Go.Proofs.YtlbfllaaabginaaDoor

/-- A group: the places of the words that go in, of the factors, of the words that come out. -/
structure Gp where
  inn : List Nat
  fac : List Nat
  out : List Nat

/-- Of lists one behind the other one alone holds a number, and holds it once. -/
theorem count_none {f : Nat → List Nat} {n i : Nat} (h : ∀ a, a < n → i ∉ f a) : ((List.range n).flatMap f).count i = 0 := by
  refine List.count_eq_zero.2 fun hm => ?_
  obtain ⟨a, ha, hi⟩ := List.mem_flatMap.1 hm
  exact h a (List.mem_range.1 ha) hi
theorem count_flat {f : Nat → List Nat} {a0 i : Nat} (hc : (f a0).count i = 1) : ∀ {n : Nat}, a0 < n → (∀ a, a < n → a ≠ a0 → i ∉ f a) → ((List.range n).flatMap f).count i = 1
  | 0, h, _ => absurd h (Nat.not_lt_zero _)
  | n + 1, h, hn => by
    rw [List.range_succ, List.flatMap_append, List.count_append]
    have e : (List.flatMap f [n]).count i = (f n).count i := by simp
    rw [e]
    by_cases h1 : a0 = n
    · rw [← h1, hc, count_none fun a ha => hn a (by omega) (by omega)]
    · rw [count_flat hc (by omega) fun a ha hne => hn a (by omega) hne, List.count_eq_zero.2 (hn n (by omega) (by omega))]
theorem count_map {f : Nat → Nat} {a0 i : Nat} (hc : f a0 = i) {n : Nat} (h0 : a0 < n) (hn : ∀ a, a < n → a ≠ a0 → f a ≠ i) : ((List.range n).map f).count i = 1 := by
  have e : (List.range n).map f = (List.range n).flatMap fun a => [f a] := by rw [List.map_eq_flatMap]
  rw [e]
  exact count_flat (f := fun a => [f a]) (by simp [hc]) h0 fun a ha hne => by simpa using fun h => hn a ha hne h.symm

namespace Stp
open Fly

/-- The place of a line's word. -/
def plc (I N k j : Nat) : Nat := Sh.first I N k + j * I
/-- A group of a stage: of line k, of a, of b; of a twist. -/
def stG (I N R L M k a b : Nat) : Gp :=
  ⟨(List.range R).map fun t => plc I N k (b + L * (a + M * t)), (List.range R).map fun t => a * R + t, (List.range R).map fun t => plc I N k (b + L * (R * a + t))⟩
def twG (I N i : Nat) : Gp := ⟨[i], [i / I % N], [i]⟩
def grp (xa : List Ax) (s : Sp) : List Gp :=
  if s.tw = true then (List.range (Sh.prod (szs xa))).map (twG (gI xa s.ax.toNat) (gL xa s.ax.toNat))
  else (List.range (Sh.prod (szs xa) / gL xa s.ax.toNat)).flatMap fun k => (List.range s.st.m.toNat).flatMap fun a => (List.range s.st.l.toNat).map fun b => stG (gI xa s.ax.toNat) (gL xa s.ax.toNat) s.st.r.toNat s.st.l.toNat s.st.m.toNat k a b

section
variable {p : Int} {xa : List Ax} {s : Sp}
theorem grp_tw (h : s.tw = true) : grp xa s = (List.range (Sh.prod (szs xa))).map (twG (gI xa s.ax.toNat) (gL xa s.ax.toNat)) := by unfold grp; rw [if_pos h]
theorem grp_st (h : s.tw = false) : grp xa s = (List.range (Sh.prod (szs xa) / gL xa s.ax.toNat)).flatMap fun k => (List.range s.st.m.toNat).flatMap fun a => (List.range s.st.l.toNat).map fun b => stG (gI xa s.ax.toNat) (gL xa s.ax.toNat) s.st.r.toNat s.st.l.toNat s.st.m.toNat k a b := by
  unfold grp; rw [if_neg (by simp [h])]
theorem mem_tw (h : s.tw = true) {g : Gp} : g ∈ grp xa s ↔ ∃ i, i < Sh.prod (szs xa) ∧ g = twG (gI xa s.ax.toNat) (gL xa s.ax.toNat) i := by
  rw [grp_tw h, List.mem_map]
  constructor
  · rintro ⟨i, hi, rfl⟩; exact ⟨i, List.mem_range.1 hi, rfl⟩
  · rintro ⟨i, hi, rfl⟩; exact ⟨i, List.mem_range.2 hi, rfl⟩
theorem mem_st (h : s.tw = false) {g : Gp} : g ∈ grp xa s ↔ ∃ k a b, k < Sh.prod (szs xa) / gL xa s.ax.toNat ∧ a < s.st.m.toNat ∧ b < s.st.l.toNat ∧ g = stG (gI xa s.ax.toNat) (gL xa s.ax.toNat) s.st.r.toNat s.st.l.toNat s.st.m.toNat k a b := by
  rw [grp_st h]
  simp only [List.mem_flatMap, List.mem_map, List.mem_range]
  constructor
  · rintro ⟨k, hk, a, ha, b, hb, rfl⟩; exact ⟨k, a, b, hk, ha, hb, rfl⟩
  · rintro ⟨k, a, b, hk, ha, hb, rfl⟩; exact ⟨k, hk, a, ha, b, hb, rfl⟩

/-- Places of a line, as a stage takes them. -/
theorem inn_lt {n R L M a b t : Nat} (h : Three n R L M) (ha : a < M) (hb : b < L) (ht : t < R) : b + L * (a + M * t) < n := by
  have h1 : M * (t + 1) ≤ M * R := Nat.mul_le_mul_left _ (by omega)
  rw [Nat.mul_succ] at h1
  have h2 : L * (a + M * t + 1) ≤ L * (R * M) := Nat.mul_le_mul_left _ (by rw [Nat.mul_comm R M]; omega)
  rw [Nat.mul_succ, h.all] at h2
  omega
theorem oot_lt {n R L M a b t : Nat} (h : Three n R L M) (ha : a < M) (hb : b < L) (ht : t < R) : b + L * (R * a + t) < n := by
  have h1 : R * (a + 1) ≤ R * M := Nat.mul_le_mul_left _ (by omega)
  rw [Nat.mul_succ] at h1
  have h2 : L * (R * a + t + 1) ≤ L * (R * M) := Nat.mul_le_mul_left _ (by omega)
  rw [Nat.mul_succ, h.all] at h2
  omega
theorem cut_lt {n R L M c : Nat} (h : Three n R L M) (hc : c < n) : c % L < L ∧ c / L / R < M ∧ c / L % R < R ∧ c / L / M < R ∧ c / L % M < M := by
  have hr := h.r2
  have hl := h.l1
  have hm := h.m1
  rw [← h.all] at hc
  have h1 : c / L < R * M := Nat.div_lt_of_lt_mul hc
  exact ⟨Nat.mod_lt _ hl, Nat.div_lt_of_lt_mul h1, Nat.mod_lt _ (by omega), Nat.div_lt_of_lt_mul (by rw [Nat.mul_comm]; exact h1), Nat.mod_lt _ hm⟩
theorem out_at {R L c : Nat} : c % L + L * (R * (c / L / R) + c / L % R) = c := by
  rw [Nat.div_add_mod, Nat.mod_add_div]
theorem in_at {L M c : Nat} : c % L + L * (c / L % M + M * (c / L / M)) = c := by
  rw [Nat.mod_add_div, Nat.mod_add_div]
theorem three_of_sok (h : Sok p xa s) (hs : s.tw = false) : Three (gL xa s.ax.toNat) s.st.r.toNat s.st.l.toNat s.st.m.toNat := by
  rcases h.is with ⟨e, -⟩ | ⟨-, hm⟩
  · rw [hs] at e; cases e
  · exact (stgs_three (h.ax.sm' h.hi) hm).1

theorem get_set {xs : List Int} {k i : Nat} {w : Int} (h : k ≠ i) : (xs.set k w).getD i 0 = xs.getD i 0 := by
  rw [List.getD_eq_getElem?_getD, List.getD_eq_getElem?_getD, List.getElem?_set_ne h]

/-- A word plays a part in the words of its own group alone. -/
theorem apart {xs : List Int} (h : Wok p xa s xs) (inv : Bool) {k i : Nat} {w : Int} (hi : i < xs.length) (hno : ∀ g ∈ grp xa s, k ∈ g.inn → i ∉ g.out) : (stp p xa inv s (xs.set k w)).getD i 0 = (stp p xa inv s xs).getD i 0 := by
  unfold stp
  rw [List.length_set, getD_range _ hi, getD_range _ hi]
  have hI := h.ok.ax.I s.ax.toNat
  have hc := h.ok.ax.coord_lt h.ok.hi i
  have hb := Sh.back (L := gL xa s.ax.toNat) hI i
  have hi' : i < Sh.prod (szs xa) := by rw [← h.len]; exact hi
  have hk := h.ok.ax.line_lt h.ok.hi hi'
  unfold stpN lnS
  cases hs : s.tw
  · have h3 := three_of_sok h.ok hs
    obtain ⟨c1, c2, c3, -, -⟩ := cut_lt h3 hc
    rw [if_neg (by simp), if_neg (by simp)]
    unfold stLn
    rw [getD_range _ hc, getD_range _ hc]
    unfold stL
    have hn := hno _ ((mem_st hs).2 ⟨_, _, _, hk, c2, c1, rfl⟩)
    have hout : i ∈ (stG (gI xa s.ax.toNat) (gL xa s.ax.toNat) s.st.r.toNat s.st.l.toNat s.st.m.toNat (Sh.lnum (gI xa s.ax.toNat) (gL xa s.ax.toNat) i) (i / gI xa s.ax.toNat % gL xa s.ax.toNat / s.st.l.toNat / s.st.r.toNat) (i / gI xa s.ax.toNat % gL xa s.ax.toNat % s.st.l.toNat)).out := by
      unfold stG plc
      refine List.mem_map.2 ⟨_, List.mem_range.2 c3, ?_⟩
      rw [out_at]
      exact hb
    congr 1
    refine doN_congr fun j hj => ?_
    have hj' := inn_lt h3 c2 c1 hj
    unfold nth lnOf
    rw [getD_range _ hj', getD_range _ hj']
    refine get_set fun e => hn ?_ hout
    rw [e]
    unfold stG plc
    exact List.mem_map.2 ⟨j, List.mem_range.2 hj, rfl⟩
  · rw [if_pos rfl, if_pos rfl]
    unfold twLn
    rw [getD_range _ hc, getD_range _ hc]
    unfold twL nth lnOf
    rw [getD_range _ hc, getD_range _ hc, hb]
    have hn := hno _ ((mem_tw hs).2 ⟨i, hi', rfl⟩)
    rw [get_set fun e => hn (by rw [e]; simp [twG]) (by simp [twG])]

/-- Each group has as many places that go in as factors and as places that come out, and one at least; all lie among the words. -/
theorem grp_ok (h : Sok p xa s) {g : Gp} (hg : g ∈ grp xa s) : g.inn.length = g.out.length ∧ g.fac.length = g.out.length ∧ 1 ≤ g.inn.length ∧ g.inn.length ≤ 5 ∧ (∀ i ∈ g.inn, i < Sh.prod (szs xa)) ∧ (∀ i ∈ g.out, i < Sh.prod (szs xa)) ∧ (∀ i ∈ g.fac, i < tabn xa s) := by
  cases hs : s.tw
  · have h3 := three_of_sok h hs
    obtain ⟨k, a, b, hk, ha, hb, rfl⟩ := (mem_st hs).1 hg
    have hr := h3.r2
    have hr5 := h3.r5
    unfold stG
    dsimp only
    simp only [List.length_map, List.length_range, List.mem_map, List.mem_range]
    refine ⟨trivial, trivial, by omega, by omega, ?_, ?_, ?_⟩
    · rintro i ⟨t, ht, rfl⟩
      exact h.ax.at_lt h.hi hk (inn_lt h3 ha hb ht)
    · rintro i ⟨t, ht, rfl⟩
      exact h.ax.at_lt h.hi hk (oot_lt h3 ha hb ht)
    · rintro i ⟨t, ht, rfl⟩
      unfold tabn
      rw [if_neg (by simp [hs])]
      have : (a + 1) * s.st.r.toNat ≤ s.st.m.toNat * s.st.r.toNat := Nat.mul_le_mul_right _ (by omega)
      rw [Nat.succ_mul] at this
      omega
  · obtain ⟨i, hi, rfl⟩ := (mem_tw hs).1 hg
    unfold twG
    refine ⟨rfl, rfl, by simp, by simp, by simpa using hi, by simpa using hi, ?_⟩
    simp only [List.mem_singleton]
    rintro _ rfl
    unfold tabn
    rw [if_pos hs]
    exact h.ax.coord_lt h.hi i

/-- Each place comes out once, and goes in once; each factor is named. -/
theorem oot_at {n R L M a b t : Nat} (h : Three n R L M) (hb : b < L) (ht : t < R) : (b + L * (R * a + t)) % L = b ∧ (b + L * (R * a + t)) / L / R = a ∧ (b + L * (R * a + t)) / L % R = t := by
  have hl := h.l1
  have hr := h.r2
  have e : (b + L * (R * a + t)) / L = R * a + t := by rw [Nat.add_mul_div_left _ _ hl, Nat.div_eq_of_lt hb, Nat.zero_add]
  rw [e]
  exact ⟨by rw [Nat.add_mul_mod_self_left, Nat.mod_eq_of_lt hb], by rw [Nat.mul_add_div (by omega), Nat.div_eq_of_lt ht, Nat.add_zero], by rw [Nat.mul_add_mod, Nat.mod_eq_of_lt ht]⟩
theorem inn_at {n R L M a b t : Nat} (h : Three n R L M) (hb : b < L) (ha : a < M) : (b + L * (a + M * t)) % L = b ∧ (b + L * (a + M * t)) / L % M = a ∧ (b + L * (a + M * t)) / L / M = t := by
  have hl := h.l1
  have hm := h.m1
  have e : (b + L * (a + M * t)) / L = a + M * t := by rw [Nat.add_mul_div_left _ _ hl, Nat.div_eq_of_lt hb, Nat.zero_add]
  rw [e]
  exact ⟨by rw [Nat.add_mul_mod_self_left, Nat.mod_eq_of_lt hb], by rw [Nat.add_mul_mod_self_left, Nat.mod_eq_of_lt ha], by rw [Nat.add_mul_div_left _ _ hm, Nat.div_eq_of_lt ha, Nat.zero_add]⟩
theorem flat_grp (f : Gp → List Nat) (h : s.tw = false) : (grp xa s).flatMap f = (List.range (Sh.prod (szs xa) / gL xa s.ax.toNat)).flatMap fun k => (List.range s.st.m.toNat).flatMap fun a => (List.range s.st.l.toNat).flatMap fun b => f (stG (gI xa s.ax.toNat) (gL xa s.ax.toNat) s.st.r.toNat s.st.l.toNat s.st.m.toNat k a b) := by
  rw [grp_st h]
  simp only [List.flatMap_assoc, List.flatMap_map]
theorem out_once (h : Sok p xa s) {i : Nat} (hi : i < Sh.prod (szs xa)) : ((grp xa s).flatMap Gp.out).count i = 1 := by
  cases hs : s.tw
  · have h3 := three_of_sok h hs
    have hI := h.ax.I s.ax.toNat
    have hc := h.ax.coord_lt h.hi i
    have hb := Sh.back (L := gL xa s.ax.toNat) hI i
    have hk := h.ax.line_lt h.hi hi
    obtain ⟨c1, c2, c3, -, -⟩ := cut_lt h3 hc
    rw [flat_grp _ hs]
    have key : ∀ k a b, a < s.st.m.toNat → b < s.st.l.toNat → i ∈ (stG (gI xa s.ax.toNat) (gL xa s.ax.toNat) s.st.r.toNat s.st.l.toNat s.st.m.toNat k a b).out → k = Sh.lnum (gI xa s.ax.toNat) (gL xa s.ax.toNat) i ∧ a = i / gI xa s.ax.toNat % gL xa s.ax.toNat / s.st.l.toNat / s.st.r.toNat ∧ b = i / gI xa s.ax.toNat % gL xa s.ax.toNat % s.st.l.toNat := by
      intro k a b ha hb' hm
      unfold stG plc at hm
      obtain ⟨t, ht, rfl⟩ := List.mem_map.1 hm
      have ht := List.mem_range.1 ht
      have hj := oot_lt h3 ha hb' ht
      obtain ⟨e1, e2, e3⟩ := oot_at h3 hb' ht (a := a)
      rw [Sh.at_line hI hj, Sh.at_coord hI hj, e1, e2]
      exact ⟨rfl, rfl, rfl⟩
    refine count_flat (a0 := Sh.lnum (gI xa s.ax.toNat) (gL xa s.ax.toNat) i) ?_ hk fun k _ hne hm => ?_
    · refine count_flat (a0 := i / gI xa s.ax.toNat % gL xa s.ax.toNat / s.st.l.toNat / s.st.r.toNat) ?_ c2 fun a ha hne hm => ?_
      · refine count_flat (a0 := i / gI xa s.ax.toNat % gL xa s.ax.toNat % s.st.l.toNat) ?_ c1 fun b hb' hne hm => ?_
        · unfold stG plc
          refine count_map (a0 := i / gI xa s.ax.toNat % gL xa s.ax.toNat / s.st.l.toNat % s.st.r.toNat) (by rw [out_at]; exact hb) c3 fun t ht hne e => hne ?_
          have hj := oot_lt h3 c2 c1 ht
          obtain ⟨_, _, e3⟩ := oot_at h3 c1 ht (a := i / gI xa s.ax.toNat % gL xa s.ax.toNat / s.st.l.toNat / s.st.r.toNat)
          have := congrArg (fun z => z / gI xa s.ax.toNat % gL xa s.ax.toNat / s.st.l.toNat % s.st.r.toNat) e
          rwa [Sh.at_coord hI hj, e3] at this
        · exact hne (key _ _ _ c2 hb' hm).2.2
      · obtain ⟨b, hb', hm'⟩ := List.mem_flatMap.1 hm
        exact hne (key _ _ _ ha (List.mem_range.1 hb') hm').2.1
    · obtain ⟨a, ha, hm'⟩ := List.mem_flatMap.1 hm
      obtain ⟨b, hb', hm''⟩ := List.mem_flatMap.1 hm'
      exact hne (key _ _ _ (List.mem_range.1 ha) (List.mem_range.1 hb') hm'').1
  · rw [grp_tw hs, List.flatMap_map]
    exact count_flat (f := fun i => (twG (gI xa s.ax.toNat) (gL xa s.ax.toNat) i).out) (a0 := i) (by simp [twG]) hi fun a _ hne hm => hne (Eq.symm (by simpa [twG] using hm))
theorem inn_once (h : Sok p xa s) {i : Nat} (hi : i < Sh.prod (szs xa)) : ((grp xa s).flatMap Gp.inn).count i = 1 := by
  cases hs : s.tw
  · have h3 := three_of_sok h hs
    have hI := h.ax.I s.ax.toNat
    have hc := h.ax.coord_lt h.hi i
    have hb := Sh.back (L := gL xa s.ax.toNat) hI i
    have hk := h.ax.line_lt h.hi hi
    obtain ⟨c1, -, -, c2, c3⟩ := cut_lt h3 hc
    rw [flat_grp _ hs]
    have key : ∀ k a b, a < s.st.m.toNat → b < s.st.l.toNat → i ∈ (stG (gI xa s.ax.toNat) (gL xa s.ax.toNat) s.st.r.toNat s.st.l.toNat s.st.m.toNat k a b).inn → k = Sh.lnum (gI xa s.ax.toNat) (gL xa s.ax.toNat) i ∧ a = i / gI xa s.ax.toNat % gL xa s.ax.toNat / s.st.l.toNat % s.st.m.toNat ∧ b = i / gI xa s.ax.toNat % gL xa s.ax.toNat % s.st.l.toNat := by
      intro k a b ha hb' hm
      unfold stG plc at hm
      obtain ⟨t, ht, rfl⟩ := List.mem_map.1 hm
      have ht := List.mem_range.1 ht
      have hj := inn_lt h3 ha hb' ht
      obtain ⟨e1, e2, e3⟩ := inn_at h3 hb' ha (t := t)
      rw [Sh.at_line hI hj, Sh.at_coord hI hj, e1, e2]
      exact ⟨rfl, rfl, rfl⟩
    refine count_flat (a0 := Sh.lnum (gI xa s.ax.toNat) (gL xa s.ax.toNat) i) ?_ hk fun k _ hne hm => ?_
    · refine count_flat (a0 := i / gI xa s.ax.toNat % gL xa s.ax.toNat / s.st.l.toNat % s.st.m.toNat) ?_ c3 fun a ha hne hm => ?_
      · refine count_flat (a0 := i / gI xa s.ax.toNat % gL xa s.ax.toNat % s.st.l.toNat) ?_ c1 fun b hb' hne hm => ?_
        · unfold stG plc
          refine count_map (a0 := i / gI xa s.ax.toNat % gL xa s.ax.toNat / s.st.l.toNat / s.st.m.toNat) (by rw [in_at]; exact hb) c2 fun t ht hne e => hne ?_
          have hj := inn_lt h3 c3 c1 ht
          obtain ⟨_, _, e3⟩ := inn_at h3 c1 c3 (t := t)
          have := congrArg (fun z => z / gI xa s.ax.toNat % gL xa s.ax.toNat / s.st.l.toNat / s.st.m.toNat) e
          rwa [Sh.at_coord hI hj, e3] at this
        · exact hne (key _ _ _ c3 hb' hm).2.2
      · obtain ⟨b, hb', hm'⟩ := List.mem_flatMap.1 hm
        exact hne (key _ _ _ ha (List.mem_range.1 hb') hm').2.1
    · obtain ⟨a, ha, hm'⟩ := List.mem_flatMap.1 hm
      obtain ⟨b, hb', hm''⟩ := List.mem_flatMap.1 hm'
      exact hne (key _ _ _ (List.mem_range.1 ha) (List.mem_range.1 hb') hm'').1
  · rw [grp_tw hs, List.flatMap_map]
    exact count_flat (f := fun i => (twG (gI xa s.ax.toNat) (gL xa s.ax.toNat) i).inn) (a0 := i) (by simp [twG]) hi fun a _ hne hm => hne (Eq.symm (by simpa [twG] using hm))
theorem fac_all (h : Sok p xa s) {u : Nat} (hu : u < tabn xa s) : u ∈ (grp xa s).flatMap Gp.fac := by
  have hP := h.ax.ok.here
  have hI := h.ax.I s.ax.toNat
  cases hs : s.tw
  · have h3 := three_of_sok h hs
    have hr := h3.r2
    have hl := h3.l1
    unfold tabn at hu
    rw [if_neg (by simp [hs])] at hu
    have hk : 0 < Sh.prod (szs xa) / gL xa s.ax.toNat := Nat.lt_of_le_of_lt (Nat.zero_le _) (h.ax.line_lt h.hi (i := 0) (by omega))
    refine List.mem_flatMap.2 ⟨_, (mem_st hs).2 ⟨0, u / s.st.r.toNat, 0, hk, Nat.div_lt_of_lt_mul (by rw [Nat.mul_comm]; exact hu), by omega, rfl⟩, ?_⟩
    unfold stG
    refine List.mem_map.2 ⟨u % s.st.r.toNat, List.mem_range.2 (Nat.mod_lt _ (by omega)), ?_⟩
    rw [Nat.mul_comm]
    exact Nat.div_add_mod u _
  · unfold tabn at hu
    rw [if_pos hs] at hu
    have hx := h.ax.at_lt h.hi (k := 0) (j := u) (Nat.lt_of_le_of_lt (Nat.zero_le _) (h.ax.line_lt h.hi (i := 0) (by omega))) hu
    refine List.mem_flatMap.2 ⟨_, (mem_tw hs).2 ⟨_, hx, rfl⟩, ?_⟩
    unfold twG
    rw [Sh.at_coord hI hu]
    exact List.mem_singleton.2 rfl

theorem flat_len {α : Type} {f : Nat → List α} {c : Nat} (h : ∀ a, (f a).length = c) : ∀ n, ((List.range n).flatMap f).length = n * c
  | 0 => by simp
  | n + 1 => by rw [List.range_succ, List.flatMap_append, List.length_append, flat_len h n, Nat.succ_mul]; simp [h n]
/-- There are no more groups than words. -/
theorem grp_len (h : Sok p xa s) : (grp xa s).length ≤ 4096 := by
  have hle := h.ax.ok.le
  cases hs : s.tw
  · have h3 := three_of_sok h hs
    have hr := h3.r2
    rw [grp_st hs, flat_len (c := s.st.m.toNat * s.st.l.toNat) (fun k => flat_len (c := s.st.l.toNat) (fun a => by simp) _) _]
    have e1 : s.st.m.toNat * s.st.l.toNat ≤ gL xa s.ax.toNat := by
      rw [← h3.all, Nat.mul_comm]
      exact Nat.mul_le_mul_left _ (Nat.le_mul_of_pos_left _ (by omega))
    exact Nat.le_trans (Nat.le_trans (Nat.mul_le_mul_left _ e1) (Nat.div_mul_le_self _ _)) hle
  · rw [grp_tw hs]
    simpa using hle

end

/-- How often the places of the words that come out of the groups with word k were met: no place that was not met comes out of such a group; no number is great. -/
structure Met (k b : Nat) (gs : List Gp) (cs : List Int) : Prop where
  bd : ∀ i, 0 ≤ cs.getD i 0 ∧ cs.getD i 0 ≤ b
  no : ∀ i, i < cs.length → cs.getD i 0 = 0 → ∀ g ∈ gs, k ∈ g.inn → i ∉ g.out
theorem Met.start (k n : Nat) : Met k 0 [] (List.replicate n 0) := ⟨fun i => by rw [List.getD_eq_getElem?_getD, List.getElem?_replicate]; split <;> simp, fun _ _ _ g hg => by simp at hg⟩
/-- In a group of word k: its first j places are met. -/
theorem Met.put {k b : Nat} {gs : List Gp} {cs : List Int} {g : Gp} {j i : Nat} (h : Met k b (gs ++ [⟨g.inn, [], g.out.take j⟩]) cs) (hj : j < g.out.length) (hi : g.out.getD j 0 = i) (hl : i < cs.length) :
    Met k (b + 1) (gs ++ [⟨g.inn, [], g.out.take (j + 1)⟩]) (cs.set i (cs.getD i 0 + 1)) := by
  have hg : ∀ x, (cs.set i (cs.getD i 0 + 1)).getD x 0 = if x = i then cs.getD i 0 + 1 else cs.getD x 0 := fun x => by
    by_cases e : x = i
    · subst e; rw [if_pos rfl, List.getD_eq_getElem?_getD, List.getElem?_set_self hl]; rfl
    · rw [if_neg e, List.getD_eq_getElem?_getD, List.getElem?_set_ne (Ne.symm e), ← List.getD_eq_getElem?_getD]
  refine ⟨fun x => ?_, fun x hx h0 g' hg' hk hm => ?_⟩
  · rw [hg]
    have h1 := h.bd x
    have h2 := h.bd i
    split <;> omega
  · rw [List.length_set] at hx
    rw [hg] at h0
    by_cases e : x = i
    · rw [if_pos e] at h0
      have := h.bd i
      omega
    · rw [if_neg e] at h0
      rcases List.mem_append.1 hg' with h1 | h1
      · exact h.no x hx h0 g' (List.mem_append.2 (.inl h1)) hk hm
      · obtain rfl := List.mem_singleton.1 h1
        dsimp only at hk hm
        have e2 : g.out.take (j + 1) = g.out.take j ++ [i] := by
          rw [List.take_succ_eq_append_getElem hj, ← hi, List.getD_eq_getElem?_getD, List.getElem?_eq_getElem hj]; rfl
        rw [e2] at hm
        rcases List.mem_append.1 hm with h2 | h2
        · exact h.no x hx h0 ⟨g.inn, [], g.out.take j⟩ (by simp) hk h2
        · exact e (List.mem_singleton.1 h2)
theorem Met.more {k b b' : Nat} {gs : List Gp} {cs : List Int} (h : Met k b gs cs) (hb : b ≤ b') : Met k b' gs cs := ⟨fun i => by have := h.bd i; omega, h.no⟩
theorem Met.first {k b : Nat} {gs : List Gp} {cs : List Int} (g : Gp) (h : Met k b gs cs) : Met k b (gs ++ [⟨g.inn, [], g.out.take 0⟩]) cs := ⟨h.bd, fun x hx h0 g' hg' hk hm => by
  rcases List.mem_append.1 hg' with h1 | h1
  · exact h.no x hx h0 g' h1 hk hm
  · obtain rfl := List.mem_singleton.1 h1; simp at hm⟩
theorem Met.last {k b : Nat} {gs : List Gp} {cs : List Int} {g : Gp} (h : Met k b (gs ++ [⟨g.inn, [], g.out.take g.out.length⟩]) cs) : Met k b (gs ++ [g]) cs := ⟨h.bd, fun x hx h0 g' hg' hk hm => by
  rcases List.mem_append.1 hg' with h1 | h1
  · exact h.no x hx h0 g' (List.mem_append.2 (.inl h1)) hk hm
  · obtain rfl := List.mem_singleton.1 h1
    exact h.no x hx h0 ⟨g'.inn, [], g'.out.take g'.out.length⟩ (by simp) hk (by simpa using hm)⟩
/-- A group without word k. -/
theorem Met.skip {k b : Nat} {gs : List Gp} {cs : List Int} {g : Gp} (h : Met k b gs cs) (hk : k ∉ g.inn) : Met k b (gs ++ [g]) cs := ⟨h.bd, fun x hx h0 g' hg' hk' hm => by
  rcases List.mem_append.1 hg' with h1 | h1
  · exact h.no x hx h0 g' h1 hk' hm
  · obtain rfl := List.mem_singleton.1 h1; exact hk hk'⟩
theorem take_snoc {α : Type} (l : List α) (d : α) (k : Nat) (h : k < l.length) : l.take (k + 1) = l.take k ++ [l.getD k d] := by
  rw [List.take_succ_eq_append_getElem h, List.getD_eq_getElem?_getD, List.getElem?_eq_getElem h]; rfl
theorem mem_snoc {l : List Nat} {q k : Nat} (h : q < l.length) : k ∈ l.take (q + 1) ↔ k ∈ l.take q ∨ k = l.getD q 0 := by
  rw [take_snoc l 0 q h, List.mem_append, List.mem_singleton]
theorem get_memG {α : Type} {l : List α} {d : α} {q : Nat} (h : q < l.length) : l.getD q d ∈ l := by
  rw [List.getD_eq_getElem?_getD, List.getElem?_eq_getElem h]; exact List.getElem_mem h
theorem get_mem {l : List Nat} {q : Nat} (h : q < l.length) : l.getD q 0 ∈ l := by
  rw [List.getD_eq_getElem?_getD, List.getElem?_eq_getElem h]; exact List.getElem_mem h
/-- How often each number below n stands in a list. -/
def tly (n : Nat) (L : List Nat) : List Int := (List.range n).map fun i => ((L.count i : Nat) : Int)
theorem tly_len (n : Nat) (L : List Nat) : (tly n L).length = n := by simp [tly]
theorem tly_get {n : Nat} (L : List Nat) {i : Nat} (h : i < n) : (tly n L).getD i 0 = ((L.count i : Nat) : Int) := getD_range (fun i => ((L.count i : Nat) : Int)) h
theorem tly_nil (n : Nat) : tly n [] = List.replicate n 0 := by
  unfold tly
  simp [List.map_const']
theorem tly_put {n : Nat} (L : List Nat) {z : Nat} (h : z < n) : tly n (L ++ [z]) = (tly n L).set z ((tly n L).getD z 0 + 1) := by
  have e : (tly n L).set z ((tly n L).getD z 0 + 1) = (List.range n).map fun i => ((((L ++ [z]).count i : Nat) : Int)) := by
    symm
    refine list_eq_range (by rw [List.length_set, tly_len]) fun i hi => ?_
    rw [List.count_append]
    by_cases e : i = z
    · subst e
      rw [List.getD_eq_getElem?_getD, List.getElem?_set_self (by rw [tly_len]; exact h), Option.getD_some, tly_get L h]
      simp
    · rw [get_set (Ne.symm e), tly_get L hi]
      have : List.count i [z] = 0 := List.count_eq_zero.2 (by simp [e])
      rw [this]
      simp
  rw [e]
  rfl
theorem tly_bd {n : Nat} (L : List Nat) {i : Nat} (h : i < n) : 0 ≤ (tly n L).getD i 0 ∧ (tly n L).getD i 0 ≤ L.length := by
  rw [tly_get L h]
  have := List.count_le_length (a := i) (l := L)
  omega
/-- What the first j groups name, and the next one with its first r. -/
def acc (f : Gp → List Nat) (gs : List Gp) (d : Gp) (j r : Nat) : List Nat := (gs.take j).flatMap f ++ (f (gs.getD j d)).take r
theorem acc_start (f : Gp → List Nat) (gs : List Gp) (d : Gp) : acc f gs d 0 0 = [] := by simp [acc]
theorem acc_more {f : Gp → List Nat} {gs : List Gp} {d : Gp} {j r : Nat} (h : r < (f (gs.getD j d)).length) : acc f gs d j (r + 1) = acc f gs d j r ++ [(f (gs.getD j d)).getD r 0] := by
  unfold acc
  rw [take_snoc _ 0 r h, List.append_assoc]
theorem acc_next {f : Gp → List Nat} {gs : List Gp} {d : Gp} {j r : Nat} (hj : j < gs.length) (h : (f (gs.getD j d)).length = r) : acc f gs d j r = acc f gs d (j + 1) 0 := by
  unfold acc
  rw [← h, List.take_length, take_snoc gs d j hj, List.flatMap_append]
  simp
theorem acc_all (f : Gp → List Nat) (gs : List Gp) (d : Gp) : acc f gs d gs.length 0 = gs.flatMap f := by simp [acc]
theorem flat_le {f : Gp → List Nat} : ∀ {gs : List Gp}, (∀ g ∈ gs, (f g).length ≤ 5) → (gs.flatMap f).length ≤ gs.length * 5
  | [], _ => by simp
  | g :: gs, h => by
    rw [List.flatMap_cons, List.length_append, List.length_cons]
    have h1 := h g (by simp)
    have h2 := flat_le (gs := gs) fun g' hg' => h g' (by simp [hg'])
    omega
theorem acc_le {f : Gp → List Nat} {gs : List Gp} {d : Gp} {j r : Nat} (h : ∀ g ∈ gs, (f g).length ≤ 5) (hj : j ≤ gs.length) : (acc f gs d j r).length ≤ j * 5 + r := by
  unfold acc
  rw [List.length_append]
  have h1 := flat_le (f := f) (gs := gs.take j) fun g hg => h g (List.mem_of_mem_take hg)
  have h2 : (gs.take j).length ≤ j := by rw [List.length_take]; omega
  have h3 : ((f (gs.getD j d)).take r).length ≤ r := by rw [List.length_take]; omega
  omega
end Stp

end Go.Proofs.YtlbfllaaabginaaDoor

/-!   Mathematics of layer 16: factors of a step as powers of one number, times what undoes a length; the groups of a line one behind the other. No function of the program is named here.
-/

namespace Go.Proofs.YtlbfllaaabginaaDoor.Stp

section
variable {p : Int}
/-- The root that factors are powers of. -/
def twW (p : Int) (neg inv : Bool) (n : Nat) : Int := if neg then rte p inv (2 * n) else 1
theorem rte_bd (h : Fp.kn p = true) (inv : Bool) (n : Nat) : 0 ≤ rte p inv n ∧ rte p inv n < p := by
  unfold rte
  cases inv
  · exact ⟨(Fp.rt_bd p n).1, (Fp.rt_bd p n).2.2 h⟩
  · exact ⟨(Fp.inv_bd _ _).1, (Fp.inv_bd _ _).2.2 h⟩
theorem twW_bd (h : Fp.kn p = true) (neg inv : Bool) (n : Nat) : 0 ≤ twW p neg inv n ∧ twW p neg inv n < p := by
  have := Fp.kn_bd h
  unfold twW
  cases neg
  · rw [if_neg (by simp)]; omega
  · rw [if_pos rfl]; exact rte_bd h inv _
theorem pw_rte (h : Fp.kn p = true) (inv : Bool) (n k : Nat) : Fp.pw p (rte p inv n) k = if inv then Fp.inv p (Fp.pw p (Fp.rt p n) k) else Fp.pw p (Fp.rt p n) k := by
  unfold rte
  cases inv
  · rfl
  · rw [if_pos rfl, if_pos rfl]
    refine eq_of_eqm ?_ ⟨(Fp.pw_bd _ _ _).1, (Fp.pw_bd _ _ _).2.2 h⟩ ⟨(Fp.inv_bd _ _).1, (Fp.inv_bd _ _).2.2 h⟩
    have e1 : Fp.eqm p (Fp.pw p (Fp.inv p (Fp.rt p n)) k) (Fp.inv p (Fp.rt p n) ^ k) := by rw [Fp.pw_kn _ _ h]; exact Fp.eqm_md p _
    have e2 : Fp.eqm p (Fp.pw p (Fp.rt p n) k) (Fp.rt p n ^ k) := by rw [Fp.pw_kn _ _ h]; exact Fp.eqm_md p _
    exact e1.trans ((Fp.inv_pow h _ k).symm.trans (Fp.inv_congr h e2).symm)
/-- A stage's factor is a power of the root, or of what undoes it. -/
theorem stT_pw (h : Fp.kn p = true) (inv : Bool) (R M k : Nat) : stT p inv R M k = Fp.pw p (rte p inv (R * M)) (k / R * (k % R)) := by
  rw [pw_rte h]; rfl
theorem pw_one (h : Fp.kn p = true) (k : Nat) : Fp.pw p 1 k = 1 := by
  have := Fp.kn_bd h
  rw [Fp.pw_kn _ _ h, Int.one_pow, Int.emod_eq_of_lt (by omega) (by omega)]
/-- A twist's factor ahead. -/
theorem twT_there (h : Fp.kn p = true) (neg : Bool) (n k : Nat) : twT p neg false n k = Fp.pw p (twW p neg false n) k := by
  unfold twT tw0 twW
  rw [if_neg (by simp)]
  cases neg
  · rw [if_neg (by simp), if_neg (by simp), pw_one h]
  · rw [if_pos rfl, if_pos rfl]; rfl
/-- And of the way back. -/
theorem twT_back (h : Fp.kn p = true) (neg : Bool) (n k : Nat) : twT p neg true n k = Fp.mul p (Fp.pw p (twW p neg true n) k) (Fp.inv p (n : Int)) := by
  unfold twT
  rw [if_pos rfl]
  refine eq_of_eqm ?_ ⟨(Fp.inv_bd _ _).1, (Fp.inv_bd _ _).2.2 h⟩ ⟨(Fp.mul_bd _ _ _).1, (Fp.mul_bd _ _ _).2.2 h⟩
  have e1 : Fp.eqm p (Fp.inv p (Fp.mul p (tw0 p neg n k) (n : Int))) (Fp.inv p (tw0 p neg n k) * Fp.inv p (n : Int)) :=
    (Fp.inv_congr h (by rw [Fp.mul_kn _ _ h]; exact Fp.eqm_md p _)).trans (Fp.inv_times h _ _)
  refine e1.trans ?_
  rw [Fp.mul_kn _ _ h]
  refine Fp.eqm.trans ?_ (Fp.eqm_md p _).symm
  refine Fp.eqm.mul ?_ Fp.eqm.rfl
  unfold tw0 twW
  cases neg
  · rw [if_neg (by simp), if_neg (by simp), pw_one h]
    exact Fp.inv_one h
  · rw [if_pos rfl, if_pos rfl, pw_rte h, if_pos rfl]
    exact Fp.eqm.rfl
end

/-! The groups, one line behind the other. -/
section
variable {p : Int} {xa : List Ax} {s : Sp}
/-- The first b groups of a in line k; of the first a's in line k; of the first k lines. -/
def gpB (I N R L M k a b : Nat) : List Gp := (List.range b).map (stG I N R L M k a)
def gpA (I N R L M k a : Nat) : List Gp := (List.range a).flatMap fun a => gpB I N R L M k a L
def gpK (I N R L M k : Nat) : List Gp := (List.range k).flatMap fun k => gpA I N R L M k M
theorem gpB_next (I N R L M k a b : Nat) : gpB I N R L M k a (b + 1) = gpB I N R L M k a b ++ [stG I N R L M k a b] := by unfold gpB; simp [List.range_succ]
theorem gpA_next (I N R L M k a : Nat) : gpA I N R L M k (a + 1) = gpA I N R L M k a ++ gpB I N R L M k a L := by
  unfold gpA; rw [List.range_succ, List.flatMap_append]; simp
theorem gpK_next (I N R L M k : Nat) : gpK I N R L M (k + 1) = gpK I N R L M k ++ gpA I N R L M k M := by
  unfold gpK; rw [List.range_succ, List.flatMap_append]; simp
theorem grp_all (h : s.tw = false) : grp xa s = gpK (gI xa s.ax.toNat) (gL xa s.ax.toNat) s.st.r.toNat s.st.l.toNat s.st.m.toNat (Sh.prod (szs xa) / gL xa s.ax.toNat) := grp_st h
/-- The groups of a twist. -/
def gpT (I N n : Nat) : List Gp := (List.range n).map (twG I N)
theorem gpT_next (I N n : Nat) : gpT I N (n + 1) = gpT I N n ++ [twG I N n] := by unfold gpT; simp [List.range_succ]
theorem grp_tws (h : s.tw = true) : grp xa s = gpT (gI xa s.ax.toNat) (gL xa s.ax.toNat) (Sh.prod (szs xa)) := grp_tw h
end

/-! What is written of the words that come out. -/
section
variable {p : Int} {xa : List Ax} {s : Sp} {xs : List Int} {inv : Bool}
/-- A word that comes out of a group, by the words that go in and the factors: a stage. -/
theorem stpN_st (h : Wok p xa s xs) (ht : s.tw = false) {k a b t : Nat} (_hk : k < Sh.prod (szs xa) / gL xa s.ax.toNat) (ha : a < s.st.m.toNat) (hb : b < s.st.l.toNat) (htr : t < s.st.r.toNat) :
    stpN p xa inv s xs (plc (gI xa s.ax.toNat) (gL xa s.ax.toNat) k (b + s.st.l.toNat * (s.st.r.toNat * a + t))) =
      Fp.mul p (Fly.doN p inv s.st.r.toNat (fun i => xs.getD (plc (gI xa s.ax.toNat) (gL xa s.ax.toNat) k (b + s.st.l.toNat * (a + s.st.m.toNat * i))) 0) t) (stT p inv s.st.r.toNat s.st.m.toNat (a * s.st.r.toNat + t)) := by
  have h3 := three_of_sok h.ok ht
  have hI := h.ok.ax.I s.ax.toNat
  have hj := oot_lt h3 ha hb htr
  obtain ⟨e1, e2, e3⟩ := oot_at h3 hb htr (a := a)
  have e4 : (b + s.st.l.toNat * (s.st.r.toNat * a + t)) / s.st.l.toNat = a * s.st.r.toNat + t := by
    rw [Nat.add_mul_div_left _ _ h3.l1, Nat.div_eq_of_lt hb, Nat.zero_add, Nat.mul_comm]
  unfold stpN lnS plc
  rw [Sh.at_line hI hj, Sh.at_coord hI hj, if_neg (by simp [ht])]
  unfold stLn
  rw [getD_range _ hj]
  unfold stL
  rw [e1, e2, e3, e4]
  congr 1
  refine Fly.doN_congr fun i hi => ?_
  have hi' := inn_lt h3 ha hb hi
  unfold nth lnOf
  rw [getD_range _ hi']
/-- A twist. -/
theorem stpN_tw (h : Wok p xa s xs) (ht : s.tw = true) (i : Nat) :
    stpN p xa inv s xs i = Fp.mul p (xs.getD i 0) (twT p (gN xa s.ax.toNat) inv (gL xa s.ax.toNat) (i / gI xa s.ax.toNat % gL xa s.ax.toNat)) := by
  have hI := h.ok.ax.I s.ax.toNat
  have hc := h.ok.ax.coord_lt h.ok.hi i
  have hb := Sh.back (L := gL xa s.ax.toNat) hI i
  unfold stpN lnS
  rw [if_pos ht]
  unfold twLn
  rw [getD_range _ hc]
  unfold twL nth lnOf
  rw [getD_range _ hc, hb]
/-- What has been written of the words that come out. -/
def wrt (f : Nat → Int) (gs : List Gp) (i : Nat) : Int := if i ∈ gs.flatMap Gp.out then f i else 0
theorem wrt_nil (f : Nat → Int) (i : Nat) : wrt f [] i = 0 := by unfold wrt; rw [if_neg (by simp)]
theorem wrt_all (h : Sok p xa s) (f : Nat → Int) {i : Nat} (hi : i < Sh.prod (szs xa)) : wrt f (grp xa s) i = f i := by
  unfold wrt
  have := out_once h hi
  rw [if_pos (List.count_pos_iff.1 (by omega))]
/-- And of the next group m words. -/
def wrm (f : Nat → Int) (gs : List Gp) (g : Gp) (m : Nat) (i : Nat) : Int := if i ∈ gs.flatMap Gp.out ∨ i ∈ g.out.take m then f i else 0
theorem wrm_zero (f : Nat → Int) (gs : List Gp) (g : Gp) (i : Nat) : wrm f gs g 0 i = wrt f gs i := by unfold wrm wrt; simp
theorem wrm_all (f : Nat → Int) (gs : List Gp) (g : Gp) (i : Nat) : wrm f gs g g.out.length i = wrt f (gs ++ [g]) i := by unfold wrm wrt; simp
theorem wrm_here (f : Nat → Int) (gs : List Gp) (g : Gp) {m : Nat} (hm : m < g.out.length) : wrm f gs g (m + 1) (g.out.getD m 0) = f (g.out.getD m 0) := by
  have h : g.out.getD m 0 ∈ g.out.take (m + 1) := (mem_snoc hm).2 (.inr rfl)
  unfold wrm
  rw [if_pos (.inr h)]
theorem wrm_else (f : Nat → Int) (gs : List Gp) (g : Gp) {m i : Nat} (hm : m < g.out.length) (hi : i ≠ g.out.getD m 0) : wrm f gs g (m + 1) i = wrm f gs g m i := by
  unfold wrm
  rw [take_snoc _ 0 _ hm]
  simp only [List.mem_append, List.mem_singleton, hi, or_false]
end

end Go.Proofs.YtlbfllaaabginaaDoor.Stp

/-!   Mathematics of layer 16: how many groups there are. No function of the program is named here.
-/

namespace Go.Proofs.YtlbfllaaabginaaDoor.Stp

theorem gpB_len (I N R L M k a b : Nat) : (gpB I N R L M k a b).length = b := by simp [gpB]
theorem gpA_len (I N R L M k : Nat) : ∀ a, (gpA I N R L M k a).length = a * L
  | 0 => by simp [gpA]
  | a + 1 => by rw [gpA_next, List.length_append, gpA_len I N R L M k a, gpB_len, Nat.succ_mul]
theorem gpK_len (I N R L M : Nat) : ∀ k, (gpK I N R L M k).length = k * (M * L)
  | 0 => by simp [gpK]
  | k + 1 => by rw [gpK_next, List.length_append, gpK_len I N R L M k, gpA_len, Nat.succ_mul]
/-- How many have been told. -/
theorem gp_count {n R L M a b k K P : Nat} (h : Three n R L M) (hP : K * n ≤ P) (hk : k < K) (ha : a < M) (hb : b < L) : k * (M * L) + (a * L + b) < P := by
  have h1 : (a + 1) * L ≤ M * L := Nat.mul_le_mul_right L ha
  rw [Nat.succ_mul] at h1
  have h2 : (k + 1) * (M * L) ≤ K * (M * L) := Nat.mul_le_mul_right _ hk
  rw [Nat.succ_mul] at h2
  have h3 : M * L ≤ n := by
    rw [← h.all, Nat.mul_comm M L]
    exact Nat.mul_le_mul_left L (Nat.le_mul_of_pos_left M (by have := h.r2; omega))
  have h4 := Nat.mul_le_mul_left K h3
  omega
theorem gpT_len (I N n : Nat) : (gpT I N n).length = n := by simp [gpT]

end Go.Proofs.YtlbfllaaabginaaDoor.Stp

/-!   Mathematics of layer 16: what a step makes of the words of one group. No function of the program is named here.
-/

namespace Go.Proofs.YtlbfllaaabginaaDoor.Stp
open Go.RowKit

/-- The words that go in; these, transformed if it is a stage. -/
def gin (xs : List Int) (g : Gp) : List Int := g.inn.map fun i => xs.getD i 0
def gtl (p : Int) (inv : Bool) (s : Sp) (xs : List Int) (g : Gp) : List Int := if s.tw = true then gin xs g else Fly.doL p inv (gin xs g)
section
variable {p : Int} {xa : List Ax} {s : Sp} {xs : List Int} {inv : Bool} {g : Gp}
theorem gin_len (xs : List Int) (g : Gp) : (gin xs g).length = g.inn.length := by simp [gin]
theorem gin_get {j : Nat} (hj : j < g.inn.length) : (gin xs g).getD j 0 = xs.getD (g.inn.getD j 0) 0 := by
  unfold gin
  rw [List.getD_eq_getElem?_getD, List.getElem?_map, List.getElem?_eq_getElem hj, List.getD_eq_getElem?_getD (l := g.inn), List.getElem?_eq_getElem hj]
  rfl
theorem gin_words (h : Words xs) (g : Gp) : Words (gin xs g) := fun j => by
  by_cases hj : j < g.inn.length
  · rw [gin_get hj]; exact h _
  · rw [List.getD_eq_getElem?_getD, List.getElem?_eq_none (by rw [gin_len]; omega)]
    exact ⟨Int.le_refl _, by decide⟩
theorem stG_get (I N R L M k a b : Nat) {t : Nat} (ht : t < R) : (stG I N R L M k a b).inn.getD t 0 = plc I N k (b + L * (a + M * t)) ∧ (stG I N R L M k a b).fac.getD t 0 = a * R + t ∧ (stG I N R L M k a b).out.getD t 0 = plc I N k (b + L * (R * a + t)) := by
  unfold stG
  dsimp only
  simp [ht]
theorem stG_len (I N R L M k a b : Nat) : (stG I N R L M k a b).inn.length = R ∧ (stG I N R L M k a b).out.length = R := by simp [stG]
theorem gin_fine (h : Wok p xa s xs) (ht : s.tw = false) (hg : g ∈ grp xa s) : Fly.Fine p (gin xs g) := by
  have h3 := three_of_sok h.ok ht
  obtain ⟨-, -, -, -, hin, -, -⟩ := grp_ok h.ok hg
  have hlt : ∀ j, j < (gin xs g).length → (gin xs g).getD j 0 < p := fun j hj => by
    rw [gin_len] at hj
    rw [gin_get hj]
    exact h.lt _ (by rw [h.len]; exact hin _ (get_memG hj))
  obtain ⟨k, a, b, hk, ha, hb, rfl⟩ := (mem_st ht).1 hg
  have hl : (gin xs (stG (gI xa s.ax.toNat) (gL xa s.ax.toNat) s.st.r.toNat s.st.l.toNat s.st.m.toNat k a b)).length = s.st.r.toNat := by rw [gin_len, (stG_len _ _ _ _ _ _ _ _).1]
  refine ⟨?_, hlt⟩
  rw [hl]
  exact ⟨h.ok.ax.kn, h3.r2, h3.r5, Nat.dvd_trans (Nat.dvd_mul_right _ _) (stage_dvd h.ok ht)⟩
theorem gtl_len (h : Wok p xa s xs) (hg : g ∈ grp xa s) (inv : Bool) : (gtl p inv s xs g).length = g.inn.length := by
  unfold gtl
  cases ht : s.tw
  · rw [if_neg (by simp), (gin_fine h ht hg).len, gin_len]
  · rw [if_pos rfl, gin_len]
theorem gtl_bd (h : Wok p xa s xs) (hw : Words xs) (hg : g ∈ grp xa s) (inv : Bool) (j : Nat) : 0 ≤ (gtl p inv s xs g).getD j 0 ∧ (gtl p inv s xs g).getD j 0 < 18446744073709551616 := by
  have hp := Fp.kn_bd h.ok.ax.kn
  unfold gtl
  cases ht : s.tw
  · rw [if_neg (by simp)]
    have := (gin_fine h ht hg).bd inv j
    omega
  · rw [if_pos rfl]
    exact gin_words hw g j
/-- Each word times its factor is what comes out there. -/
theorem g_value (h : Wok p xa s xs) (hg : g ∈ grp xa s) (inv : Bool) {m : Nat} (hm : m < g.out.length) : Fp.mul p ((gtl p inv s xs g).getD m 0) (tabN p xa inv s (g.fac.getD m 0)) = stpN p xa inv s xs (g.out.getD m 0) := by
  unfold gtl tabN
  cases ht : s.tw
  · rw [if_neg (by simp), if_neg (by simp)]
    have hf := gin_fine h ht hg
    obtain ⟨k, a, b, hk, ha, hb, rfl⟩ := (mem_st ht).1 hg
    rw [(stG_len _ _ _ _ _ _ _ _).2] at hm
    obtain ⟨e1, e2, e3⟩ := stG_get (gI xa s.ax.toNat) (gL xa s.ax.toNat) s.st.r.toNat s.st.l.toNat s.st.m.toNat k a b hm
    have hl : (gin xs (stG (gI xa s.ax.toNat) (gL xa s.ax.toNat) s.st.r.toNat s.st.l.toNat s.st.m.toNat k a b)).length = s.st.r.toNat := by rw [gin_len, (stG_len _ _ _ _ _ _ _ _).1]
    rw [hf.get inv (by rw [hl]; exact hm), e2, e3, stpN_st h ht hk ha hb hm, hl]
    congr 1
    refine Fly.doN_congr fun i hi => ?_
    unfold Fly.el
    rw [gin_get (by rw [(stG_len _ _ _ _ _ _ _ _).1]; exact hi), (stG_get _ _ _ _ _ _ _ _ hi).1]
  · rw [if_pos rfl, if_pos rfl]
    obtain ⟨i, hi, rfl⟩ := (mem_tw ht).1 hg
    obtain rfl : m = 0 := by simp [twG] at hm; exact hm
    rw [stpN_tw h ht]
    unfold gin twG
    simp
end

end Go.Proofs.YtlbfllaaabginaaDoor.Stp

/-!   Mathematics of layer 17: the steps of all axes are the transform. No function of the program is named here.
-/

namespace Go.Proofs.YtlbfllaaabginaaDoor.Stp
open Go.RowKit

/-- The steps of the first m axes; of all, if nothing is wrong with them. -/
def plS (xa : List Ax) (inv : Bool) : Nat → List Sp
  | 0 => []
  | m + 1 => plS xa inv m ++ stepsOf (gN xa m) inv (gL xa m) m
def plL (p : Int) (xa : List Ax) (inv : Bool) : List Sp := if gridE p xa = 0 then plS xa inv xa.length else []
/-- How many factors the step with most of them has. -/
def most (xa : List Ax) (l : List Sp) : Nat := l.foldl (fun m s => max m (tabn xa s)) 0

theorem stepsOf_ok {p : Int} {xa : List Ax} (h : Axes p xa) {k : Nat} (hk : k < xa.length) (inv : Bool) {s : Sp} (hs : s ∈ stepsOf (gN xa k) inv (gL xa k) k) : Sok p xa s := by
  unfold stepsOf at hs
  simp only [List.mem_append, List.mem_map] at hs
  have e : ∀ (t : Fac.Stg) (b : Bool), (⟨(k : Int), b, t⟩ : Sp).ax.toNat = k := fun _ _ => by simp
  rcases hs with (hs | ⟨t, ht, rfl⟩) | hs
  · split at hs
    · obtain rfl : s = ⟨k, true, noSt⟩ := by simpa using hs
      exact ⟨h, by dsimp only; omega, by rw [e]; exact hk, .inl ⟨rfl, rfl⟩⟩
    · simp at hs
  · exact ⟨h, by dsimp only; omega, by rw [e]; exact hk, .inr ⟨rfl, by rw [e]; exact ht⟩⟩
  · split at hs
    · obtain rfl : s = ⟨k, true, noSt⟩ := by simpa using hs
      exact ⟨h, by dsimp only; omega, by rw [e]; exact hk, .inl ⟨rfl, rfl⟩⟩
    · simp at hs
theorem goS_nums {p : Int} (h : Fp.kn p = true) (xa : List Ax) (inv : Bool) : ∀ (l : List Sp) (xs : List Int), Nums p xs → Nums p (goS p xa inv l xs)
  | [], _, hx => hx
  | s :: l, xs, _ => goS_nums h xa inv l _ (stp_nums h xa inv s xs)
theorem goS_snoc (p : Int) (xa : List Ax) (inv : Bool) (l : List Sp) (s : Sp) (xs : List Int) : goS p xa inv (l ++ [s]) xs = stp p xa inv s (goS p xa inv l xs) := by
  unfold goS; rw [List.foldl_append]; rfl
theorem take_more {α : Type} (l : List α) (d : α) (k : Nat) (h : k < l.length) : l.take (k + 1) = l.take k ++ [l.getD k d] := by
  rw [List.take_succ_eq_append_getElem h, List.getD_eq_getElem?_getD, List.getElem?_eq_getElem h]; rfl
section
variable {p : Int} {xa : List Ax} {inv : Bool} {xs : List Int}
theorem plS_mem {s : Sp} : ∀ {m : Nat}, s ∈ plS xa inv m → ∃ k, k < m ∧ s ∈ stepsOf (gN xa k) inv (gL xa k) k
  | 0, h => by simp [plS] at h
  | m + 1, h => by
    rw [plS, List.mem_append] at h
    rcases h with h | h
    · obtain ⟨k, h1, h2⟩ := plS_mem h
      exact ⟨k, by omega, h2⟩
    · exact ⟨m, by omega, h⟩
theorem plS_ax {s : Sp} {m : Nat} (h : s ∈ plS xa inv m) : 0 ≤ s.ax ∧ s.ax < m := by
  obtain ⟨k, h1, h2⟩ := plS_mem h
  have := stepsOf_ax h2
  omega
theorem plS_ok (h : Axes p xa) {s : Sp} {m : Nat} (hm : m ≤ xa.length) (hs : s ∈ plS xa inv m) : Sok p xa s := by
  obtain ⟨k, h1, h2⟩ := plS_mem hs
  exact stepsOf_ok h (by omega) inv h2
theorem stepsOf_len (h : Axes p xa) {k : Nat} (hk : k < xa.length) : (stepsOf (gN xa k) inv (gL xa k) k).length ≤ 14 := by
  have h1 : (stgs (gL xa k)).length ≤ 12 := by
    unfold stgs
    rw [Fac.stages_len]
    exact Fac.rads_len _ (h.L hk) (h.L_le hk)
  unfold stepsOf
  rw [List.length_append, List.length_append, List.length_map]
  split <;> split <;> simp <;> omega
theorem plS_len (h : Axes p xa) : ∀ {m : Nat}, m ≤ xa.length → (plS xa inv m).length ≤ 14 * m
  | 0, _ => by simp [plS]
  | m + 1, hm => by
    have h1 := plS_len h (m := m) (by omega)
    have h2 := stepsOf_len (inv := inv) h (k := m) (by omega)
    rw [plS, List.length_append]
    omega
/-- The steps of one axis, picked out of all. -/
theorem plS_at (k : Nat) : ∀ m : Nat, (plS xa inv m).filter (fun s => decide (s.ax = (k : Int))) = if k < m then stepsOf (gN xa k) inv (gL xa k) k else []
  | 0 => by simp [plS]
  | m + 1 => by
    rw [plS, List.filter_append, plS_at k m]
    by_cases h1 : k < m
    · rw [if_pos h1, if_pos (by omega), List.filter_eq_nil_iff.2, List.append_nil]
      intro s hs
      have := stepsOf_ax hs
      simp; omega
    · rw [if_neg h1, List.nil_append]
      by_cases h2 : k = m
      · subst h2
        rw [if_pos (by omega), List.filter_eq_self.2]
        intro s hs
        have := stepsOf_ax hs
        simp; omega
      · rw [if_neg (by omega), List.filter_eq_nil_iff.2]
        intro s hs
        have := stepsOf_ax hs
        simp; omega
theorem goS_app (p : Int) (xa : List Ax) (inv : Bool) (l l' : List Sp) (xs : List Int) : goS p xa inv (l ++ l') xs = goS p xa inv l' (goS p xa inv l xs) := by unfold goS; rw [List.foldl_append]
/-- All steps, axis by axis, are the transform. -/
theorem go_plS (h : Grid p xa xs) (hw : Words xs) : ∀ {m : Nat}, m ≤ xa.length → goS p xa inv (plS xa inv m) xs = doTo p xa inv xs m
  | 0, _ => rfl
  | m + 1, hm => by
    rw [plS, goS_app, go_plS h hw (by omega), whole (h.doTo m) (h.doWords hw m) (by omega) inv]
    rfl
/-- There, and back. -/
theorem go_back (h : Grid p xa xs) (hw : Words xs) {m : Nat} (hm : m ≤ xa.length) : goS p xa (!inv) (plS xa (!inv) m) (goS p xa inv (plS xa inv m) xs) = xs := by
  rw [go_plS h hw hm, go_plS (h.doTo m) (h.doWords hw m) hm, h.do_back hw hm]

theorem tabn_le {s : Sp} (h : Sok p xa s) : tabn xa s ≤ gL xa s.ax.toNat := by
  unfold tabn
  cases ht : s.tw
  · rw [if_neg (by simp)]
    have h3 := h.three ht
    have hl := h3.l1
    have e := h3.all
    rw [← e, Nat.mul_comm s.st.m.toNat]
    exact Nat.le_mul_of_pos_left _ hl
  · rw [if_pos rfl]; exact Nat.le_refl _

theorem most_go (xa : List Ax) : ∀ (l : List Sp) (a : Nat), a ≤ l.foldl (fun m s => max m (tabn xa s)) a ∧ (∀ s ∈ l, tabn xa s ≤ l.foldl (fun m s => max m (tabn xa s)) a) ∧ (l.foldl (fun m s => max m (tabn xa s)) a = a ∨ ∃ s ∈ l, tabn xa s = l.foldl (fun m s => max m (tabn xa s)) a)
  | [], a => ⟨Nat.le_refl _, fun _ h => (by cases h), .inl rfl⟩
  | s :: l, a => by
    obtain ⟨h1, h2, h3⟩ := most_go xa l (max a (tabn xa s))
    rw [List.foldl_cons]
    refine ⟨Nat.le_trans (Nat.le_max_left _ _) h1, fun t ht => ?_, ?_⟩
    · rcases List.mem_cons.1 ht with rfl | ht
      · exact Nat.le_trans (Nat.le_max_right _ _) h1
      · exact h2 t ht
    · rcases h3 with h3 | ⟨t, ht, he⟩
      · rcases Nat.le_total a (tabn xa s) with hle | hle
        · right
          refine ⟨s, List.mem_cons_self, ?_⟩
          rw [h3, Nat.max_eq_right hle]
        · left
          rw [h3, Nat.max_eq_left hle]
      · exact .inr ⟨t, List.mem_cons_of_mem _ ht, he⟩
theorem most_all {l : List Sp} {s : Sp} (h : s ∈ l) : tabn xa s ≤ most xa l := (most_go xa l 0).2.1 s h
theorem most_one {l : List Sp} (h : 0 < most xa l) : ∃ s ∈ l, tabn xa s = most xa l := by
  rcases (most_go xa l 0).2.2 with h1 | h1
  · unfold most at h; omega
  · exact h1
theorem most_nil (xa : List Ax) : most xa [] = 0 := rfl
theorem most_snoc (xa : List Ax) (l : List Sp) (s : Sp) : most xa (l ++ [s]) = max (most xa l) (tabn xa s) := by unfold most; rw [List.foldl_append]; rfl
theorem most_le {l : List Sp} (hl : ∀ s ∈ l, Sok p xa s) : most xa l ≤ 4096 := by
  rcases (most_go xa l 0).2.2 with h1 | ⟨s, hs, he⟩
  · unfold most; omega
  · have := (hl s hs).tab_le.2
    unfold most; omega
end

end Go.Proofs.YtlbfllaaabginaaDoor.Stp
