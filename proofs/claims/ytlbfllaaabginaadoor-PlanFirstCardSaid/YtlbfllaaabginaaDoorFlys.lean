/-
  Several texts in one: MathFly, FlyOne, RefFly, FlyHas, MathFlyDo, Nums, Circle, CirTwo, CirThree, CirFour, CirFive, FlyMeth, FlyDo.
-/
import Derived.Test.YtlbfllaaabginaaDoorGround
import Derived.Test.YtlbfllaaabginaaDoorRows2
import Derived.Test.YtlbfllaaabginaaDoorRoots
import Derived.Test.YtlbfllaaabginaaDoorRegions
import Derived.RangeFuncRecord
import Derived.Deep.CutRange
import Derived.Shelf.Abstract
import Derived.Laws.EntriesVeiled

/-!   Plain mathematics of layer 15: two to five words, transformed: there and back, sums, words turned around by a place, points, weights. No program is named here.
-/

namespace Go.Proofs.YtlbfllaaabginaaDoor.Fly

/-- What is wrong with a radix by a prime. -/
def ptE (p r : Int) : Int := if Fp.kn p = true then (if 2 ≤ r ∧ r ≤ 5 then (if r.toNat ∣ p.toNat - 1 then 0 else 5) else 4) else 2
/-- A radix that has a root. -/
structure Rdx (p : Int) (n : Nat) : Prop where
  kn : Fp.kn p = true
  lo : 2 ≤ n
  hi : n ≤ 5
  dvd : n ∣ p.toNat - 1
theorem ptE_zero {p : Int} {n : Nat} (h : ptE p n = 0) : Rdx p n := by
  unfold ptE at h
  split at h
  · split at h
    · split at h
      · rename_i a b c
        exact ⟨a, by omega, by omega, by simpa using c⟩
      · omega
    · omega
  · omega
theorem Rdx.zero {p : Int} {n : Nat} (h : Rdx p n) : ptE p n = 0 := by
  have := h.lo
  have := h.hi
  unfold ptE
  rw [if_pos h.kn, if_pos (by omega), if_pos (by simpa using h.dvd)]

/-- The root of a radix, or what undoes it. -/
def root (p : Int) (inv : Bool) (n : Nat) : Int := if inv then Fp.inv p (Fp.rt p n) else Fp.rt p n
/-- The power i of that root. -/
def pt (p : Int) (inv : Bool) (n i : Nat) : Int := Fp.pw p (root p inv n) i
/-- Word u of what Do tells. -/
def doN (p : Int) (inv : Bool) (n : Nat) (x : Nat → Int) (u : Nat) : Int := Fp.fw (root p inv n) false n x u % p
/-- What Weigh tells. -/
def wgN (p : Int) (inv : Bool) (n : Nat) (x w : Nat → Int) : Int := Fp.sum (fun u => doN p inv n x u * w u) n % p

section
variable {p : Int} {n : Nat} {inv : Bool} {x y w : Nat → Int}

theorem root_bd (p : Int) (inv : Bool) (n : Nat) : 0 ≤ root p inv n ∧ root p inv n < 18446744069414584321 ∧ (Fp.kn p = true → root p inv n < p) := by
  unfold root
  split
  · exact Fp.inv_bd _ _
  · exact Fp.rt_bd _ _
theorem pt_bd (p : Int) (inv : Bool) (n i : Nat) : 0 ≤ pt p inv n i ∧ pt p inv n i < 18446744069414584321 ∧ (Fp.kn p = true → pt p inv n i < p) := Fp.pw_bd _ _ _
theorem doN_bd (h : Fp.kn p = true) (u : Nat) : 0 ≤ doN p inv n x u ∧ doN p inv n x u < p := ⟨Fp.md_lo _ (Fp.kn_pos h), Fp.md_hi _ (Fp.kn_pos h)⟩
theorem wgN_bd (h : Fp.kn p = true) : 0 ≤ wgN p inv n x w ∧ wgN p inv n x w < p := ⟨Fp.md_lo _ (Fp.kn_pos h), Fp.md_hi _ (Fp.kn_pos h)⟩
theorem same_of {a b : Int} (h : Fp.eqm p a b) (ha : 0 ≤ a ∧ a < p) (hb : 0 ≤ b ∧ b < p) : a = b := by
  unfold Fp.eqm at h
  rwa [Int.emod_eq_of_lt ha.1 ha.2, Int.emod_eq_of_lt hb.1 hb.2] at h

theorem Rdx.turns (h : Rdx p n) (inv : Bool) : Fp.Turns p (root p inv n) (root p (!inv) n) n := by
  have hl := h.lo
  have ht := Fp.rt_turns h.kn h.dvd (by omega)
  cases inv
  · exact ht
  · exact ht.flip
theorem pt_eqm (h : Fp.kn p = true) (i : Nat) : Fp.eqm p (pt p inv n i) (root p inv n ^ i) := by
  unfold pt
  rw [Fp.pw_kn _ _ h]
  exact Fp.eqm_md p _
theorem ex_false (j k : Nat) : Fp.ex false j k = j * k := by simp [Fp.ex]
theorem od_false (n : Nat) : Fp.od false n = n := by simp [Fp.od]
theorem bw_is (v : Int) (y : Nat → Int) (j : Nat) : Fp.bw v false n y j = Fp.fw v false n y j := by
  unfold Fp.bw Fp.fw
  exact Fp.sum_congr fun k _ => by rw [ex_false, ex_false, Nat.mul_comm]

/-- A point far off is the one whose place is the rest. -/
theorem Rdx.around (h : Rdx p n) (inv : Bool) (i : Nat) : pt p inv n (i % n) = pt p inv n i := by
  have hl := h.lo
  obtain ⟨a, _, b⟩ := pt_bd p inv n (i % n)
  obtain ⟨c, _, d⟩ := pt_bd p inv n i
  refine same_of ?_ ⟨a, b h.kn⟩ ⟨c, d h.kn⟩
  refine (pt_eqm h.kn _).trans (Fp.eqm.trans ?_ (pt_eqm h.kn _).symm)
  have e : root p inv n ^ i = root p inv n ^ (i % n) * root p inv n ^ (n * (i / n)) := by rw [← Int.pow_add, Nat.mod_add_div]
  rw [e]
  have := (Fp.eqm.rfl (p := p) (a := root p inv n ^ (i % n))).mul (((h.turns inv).pw _).2 (Nat.dvd_mul_right n (i / n)))
  rw [Int.mul_one] at this
  exact this.symm
/-- One word more to a sum. -/
theorem more (h : Fp.kn p = true) (f : Nat → Int) (k : Nat) {b : Int} (hb : Fp.eqm p b (f k)) : Fp.add p (Fp.sum f k % p) b = Fp.sum f (k + 1) % p := by
  rw [Fp.add_kn h]
  exact ((Fp.eqm_md p _).add hb : Fp.eqm p (Fp.sum f k % p + b) (Fp.sum f k + f k))
/-- .. of a word times a point. -/
theorem Rdx.step (h : Rdx p n) (u t : Nat) {a : Int} (ha : a = x t) : Fp.eqm p (Fp.mul p a (pt p inv n (t * u % n))) (x t * root p inv n ^ Fp.ex false t u) := by
  rw [Fp.mul_kn _ _ h.kn, h.around, ex_false, ha]
  exact (Fp.eqm_md p _).trans (Fp.eqm.rfl.mul (pt_eqm h.kn _))

theorem doN_congr {u : Nat} (h : ∀ j, j < n → x j = y j) : doN p inv n x u = doN p inv n y u := by
  unfold doN Fp.fw
  rw [Fp.sum_congr fun j hj => by rw [h j hj]]
theorem doN_mod {u : Nat} (h : ∀ j, j < n → Fp.eqm p (x j) (y j)) : doN p inv n x u = doN p inv n y u := Fp.fw_mod h u
theorem doN_eqm (u : Nat) : Fp.eqm p (doN p inv n x u) (Fp.fw (root p inv n) false n x u) := Fp.eqm_md p _

/-- The first m words of the sum for word k. -/
def acc (p : Int) (inv : Bool) (n : Nat) (x : Nat → Int) (k m : Nat) : Int := Fp.sum (fun j => x j * root p inv n ^ Fp.ex false j k) m % p
theorem acc_zero (k : Nat) : acc p inv n x k 0 = 0 := by simp [acc, Fp.sum]
theorem acc_all (k : Nat) : acc p inv n x k n = doN p inv n x k := rfl
theorem acc_bd (h : Fp.kn p = true) (k m : Nat) : 0 ≤ acc p inv n x k m ∧ acc p inv n x k m < p := ⟨Fp.md_lo _ (Fp.kn_pos h), Fp.md_hi _ (Fp.kn_pos h)⟩
theorem Rdx.acc_more (h : Rdx p n) (k m : Nat) : Fp.add p (acc p inv n x k m) (Fp.mul p (x m) (pt p inv n (m * k % n))) = acc p inv n x k (m + 1) := more h.kn _ m (h.step k m rfl)

/-- The first m words of what Weigh adds. -/
def wacc (p : Int) (inv : Bool) (n : Nat) (x w : Nat → Int) (m : Nat) : Int := Fp.sum (fun u => doN p inv n x u * w u) m % p
theorem wacc_zero : wacc p inv n x w 0 = 0 := by simp [wacc, Fp.sum]
theorem wacc_all : wacc p inv n x w n = wgN p inv n x w := rfl
theorem wacc_bd (h : Fp.kn p = true) (m : Nat) : 0 ≤ wacc p inv n x w m ∧ wacc p inv n x w m < p := ⟨Fp.md_lo _ (Fp.kn_pos h), Fp.md_hi _ (Fp.kn_pos h)⟩
theorem wacc_more (h : Fp.kn p = true) (m : Nat) : Fp.add p (wacc p inv n x w m) (Fp.mul p (doN p inv n x m) (w m)) = wacc p inv n x w (m + 1) := more h _ m (by rw [Fp.mul_kn _ _ h]; exact Fp.eqm_md p _)

/-- There and back. -/
theorem Rdx.back (h : Rdx p n) {i : Nat} (hi : i < n) : doN p (!inv) n (doN p inv n x) i = Fp.mul p (x i) n := by
  obtain ⟨a, _, b⟩ := Fp.mul_bd p (x i) n
  refine same_of ?_ (doN_bd h.kn i) ⟨a, b h.kn⟩
  refine (doN_eqm i).trans ((Fp.fw_mod (y := Fp.fw (root p inv n) false n x) (fun j _ => doN_eqm j) i).trans ?_)
  rw [← bw_is]
  refine (Fp.bw_fw (w := root p inv n) (neg := false) (by rw [od_false]; exact h.turns inv) hi).trans ?_
  rw [Fp.mul_kn _ _ h.kn, Int.mul_comm]
  exact (Fp.eqm_md p _).symm
/-- Sums, and words times a number. -/
theorem doN_lin (h : Fp.kn p = true) (c : Int) (u : Nat) : doN p inv n (fun j => Fp.add p (Fp.mul p c (x j)) (y j)) u = Fp.add p (Fp.mul p c (doN p inv n x u)) (doN p inv n y u) := by
  have hm : ∀ a b, Fp.eqm p (Fp.add p (Fp.mul p c a) b) (c * a + b) := fun a b => by
    rw [Fp.add_kn h, Fp.mul_kn _ _ h]
    exact (Fp.eqm_md p _).trans ((Fp.eqm_md p _).add Fp.eqm.rfl)
  obtain ⟨a, _, b⟩ := Fp.add_bd p (Fp.mul p c (doN p inv n x u)) (doN p inv n y u)
  refine same_of ?_ (doN_bd h u) ⟨a, b h⟩
  refine Fp.eqm.trans ?_ (hm _ _).symm
  refine (doN_eqm u).trans ((Fp.fw_mod (y := fun j => c * x j + y j) (fun j _ => hm _ _) u).trans ?_)
  rw [Fp.fw_add (fun j => c * x j), Fp.fw_mul]
  exact (Fp.eqm.rfl.mul (doN_eqm u).symm).add (doN_eqm u).symm
theorem sum_head (f : Nat → Int) (n : Nat) : Fp.sum f (n + 1) = f 0 + Fp.sum (fun j => f (j + 1)) n := by
  induction n with
  | zero => simp [Fp.sum]
  | succ n ih => rw [Fp.sum, ih, Fp.sum]; omega
/-- Words turned around by one place. -/
theorem Rdx.round (h : Rdx p n) (hx : y 0 = x (n - 1)) (hy : ∀ t, t + 1 < n → y (t + 1) = x t) (u : Nat) : doN p inv n y u = Fp.mul p (doN p inv n x u) (pt p inv n u) := by
  have hl := h.lo
  obtain ⟨m, rfl⟩ : ∃ m, n = m + 1 := ⟨n - 1, by omega⟩
  rw [Nat.add_sub_cancel] at hx
  obtain ⟨a, _, b⟩ := Fp.mul_bd p (doN p inv (m + 1) x u) (pt p inv (m + 1) u)
  refine same_of ?_ (doN_bd h.kn u) ⟨a, b h.kn⟩
  rw [Fp.mul_kn _ _ h.kn]
  refine (doN_eqm u).trans (Fp.eqm.trans ?_ ((Fp.eqm_md p _).trans ((doN_eqm u).mul (pt_eqm h.kn u))).symm)
  obtain ⟨r, hr⟩ : ∃ r, r = root p inv (m + 1) := ⟨_, rfl⟩
  have h1 : Fp.eqm p (r ^ ((m + 1) * u)) 1 := by rw [hr]; exact ((h.turns inv).pw _).2 (Nat.dvd_mul_right _ _)
  rw [← hr]
  unfold Fp.fw
  rw [sum_head, Fp.sum, Int.add_mul, ← Fp.sum_mulr, hx]
  rw [Int.add_comm (Fp.sum _ _)]
  refine Fp.eqm.add ?_ (Fp.eqm.of (Fp.sum_congr fun t ht => ?_))
  · rw [ex_false, ex_false, Nat.zero_mul, Int.pow_zero, Int.mul_one, Int.mul_assoc, ← Int.pow_add]
    have := (Fp.eqm.rfl (p := p) (a := x m)).mul h1
    rw [Int.mul_one, Nat.add_mul, Nat.one_mul] at this
    exact this.symm
  · rw [hy t (by omega), ex_false, ex_false, Int.mul_assoc, ← Int.pow_add, Nat.add_mul, Nat.one_mul]
/-- Points are the powers of the second one. -/
theorem pt_pow (inv : Bool) (i : Nat) : Fp.pw p (pt p inv n 1) i = pt p inv n i := by
  unfold pt
  rw [← Fp.pw_mul, Nat.one_mul]
theorem Rdx.not_one (h : Rdx p n) (inv : Bool) {i : Nat} (h0 : 0 < i) (hi : i < n) : pt p inv n i ≠ 1 := fun e => by
  have h1 : Fp.eqm p (root p inv n ^ i) 1 := (pt_eqm h.kn i).symm.trans (Fp.eqm.of e)
  have := Nat.le_of_dvd h0 (((h.turns inv).pw _).1 h1)
  omega
theorem Rdx.first (h : Rdx p n) (inv : Bool) : pt p inv n 0 = 1 := by
  unfold pt
  rw [Fp.pw_zero, Fp.red_one h.kn]
theorem Rdx.full (h : Rdx p n) (inv : Bool) : pt p inv n n = 1 := by
  rw [← h.around, Nat.mod_self]
  exact h.first inv
/-- All points together. -/
theorem Rdx.all (h : Rdx p n) (inv : Bool) : Fp.sum (pt p inv n) n % p = 0 := by
  have hl := h.lo
  have := Fp.geo_zero h.kn (a := root p inv n) (n := n) (((h.turns inv).pw _).2 (Nat.dvd_refl n)) (fun e => by
    have h2 := Nat.le_of_dvd (by omega) (((h.turns inv).pw 1).1 (by rw [Int.pow_succ, Int.pow_zero, Int.one_mul]; exact e))
    omega)
  have h3 := (Fp.sum_mod (p := p) (f := pt p inv n) (g := fun k => root p inv n ^ k) (n := n) (fun j _ => pt_eqm h.kn j)).trans this
  unfold Fp.eqm at h3
  rw [h3]
  rfl
/-- The first word is the sum of all. -/
theorem doN_first (x : Nat → Int) : doN p inv n x 0 = Fp.sum x n % p := by
  unfold doN Fp.fw
  rw [Fp.sum_congr (g := x) fun j _ => by rw [ex_false, Nat.mul_zero, Int.pow_zero, Int.mul_one]]
/-- The sum of all is the radix times the first one. -/
theorem Rdx.sum (h : Rdx p n) (x : Nat → Int) : Fp.sum (doN p inv n x) n % p = Fp.mul p n (x 0) := by
  have hl := h.lo
  have e := h.back (inv := inv) (x := x) (i := 0) (by omega)
  rw [doN_first, Fp.mul_comm] at e
  exact e
/-- Which of both is transformed makes no difference. -/
theorem wgN_comm (x w : Nat → Int) : wgN p inv n x w = wgN p inv n w x := by
  unfold wgN
  have e : ∀ a b : Nat → Int, Fp.eqm p (Fp.sum (fun u => doN p inv n a u * b u) n) (Fp.sum (fun u => Fp.sum (fun t => a t * b u * root p inv n ^ (t * u)) n) n) := fun a b => by
    refine (Fp.sum_mod fun u _ => (doN_eqm u).mul Fp.eqm.rfl).trans (Fp.eqm.of (Fp.sum_congr fun u _ => ?_))
    unfold Fp.fw
    rw [← Fp.sum_mulr]
    exact Fp.sum_congr fun t _ => by rw [ex_false, Int.mul_assoc, Int.mul_assoc, Int.mul_comm (b u)]
  refine (e x w).trans (Fp.eqm.trans (Fp.eqm.of ?_) (e w x).symm)
  rw [Fp.sum_swap]
  exact Fp.sum_congr fun t _ => Fp.sum_congr fun u _ => by rw [Int.mul_comm (x t), Nat.mul_comm]
end

end Go.Proofs.YtlbfllaaabginaaDoor.Fly

/-!   Layer 15: what Points, Do and Weigh tell, as numbers and lists. No function of fly is named here.
-/

namespace Go.Proofs.YtlbfllaaabginaaDoor
open Go.RowKit

/-- What a call returns that makes a list of words, or tells why not. -/
def RetY (w : World) (xs : List Int) (er : Int) (e : Ending) (w' : World) : Prop :=
  ∃ v, e = .returned (.tuple #[v, .int .i64 er]) ∧ Owns .u64 22 w' w.heap.size v xs ∧ Below w.heap.size w w'
theorem RetY.none (er : Int) {w w' : World} (h : Below w.heap.size w w') : RetY w [] er (.returned (.tuple #[.slice none 0 0, .int .i64 er])) w' := ⟨_, rfl, Owns.nil, h⟩

namespace Fly
/-- Word j of xs. -/
def el (xs : List Int) (j : Nat) : Int := xs.getD j 0
/-- Are they all numbers of p? -/
def inB (p : Int) (xs : List Int) : Bool := Fp.isIn p (fun j => xs.getD j 0) xs.length
/-- What Points tells. -/
def ptsL (p r : Int) (inv : Bool) : List Int := if ptE p r = 0 then (List.range r.toNat).map (pt p inv r.toNat) else []
/-- What Do tells. -/
def doE (p : Int) (xs : List Int) : Int := if ptE p xs.length = 0 then (if inB p xs = true then 0 else 7) else ptE p xs.length
def doL (p : Int) (inv : Bool) (xs : List Int) : List Int := if doE p xs = 0 then (List.range xs.length).map (doN p inv xs.length (el xs)) else []
/-- What Weigh tells. -/
def wgE (p : Int) (xs ws : List Int) : Int := if doE p xs = 0 then (if ws.length = xs.length then (if inB p ws = true then 0 else 7) else 6) else doE p xs
def wgV (p : Int) (inv : Bool) (xs ws : List Int) : Int := if wgE p xs ws = 0 then wgN p inv xs.length (el xs) (el ws) else 0

/-- No error: all is right. -/
structure Fine (p : Int) (xs : List Int) : Prop where
  rdx : Rdx p xs.length
  lt : ∀ j, j < xs.length → xs.getD j 0 < p
theorem inB_yes {p : Int} {xs : List Int} (h : inB p xs = true) : ∀ j, j < xs.length → xs.getD j 0 < p := fun j hj => by
  rcases Int.lt_or_le (xs.getD j 0) p with c | c
  · exact c
  · have := Fp.isIn_at (p := p) (f := fun j => xs.getD j 0) (k := j) (by omega) xs.length hj
    unfold inB at h
    rw [this] at h
    cases h
theorem inB_of {p : Int} {xs : List Int} (hk : Fp.kn p = true) (h : ∀ j, j < xs.length → xs.getD j 0 < p) : inB p xs = true := Fp.isIn_yes hk _ h
theorem doE_zero {p : Int} {xs : List Int} (h : doE p xs = 0) : Fine p xs := by
  unfold doE at h
  split at h
  · rename_i a
    split at h
    · rename_i b
      exact ⟨ptE_zero a, inB_yes b⟩
    · omega
  · omega
theorem Fine.zero {p : Int} {xs : List Int} (h : Fine p xs) : doE p xs = 0 := by
  unfold doE
  rw [if_pos h.rdx.zero, if_pos (inB_of h.rdx.kn h.lt)]
theorem Fine.doL {p : Int} {xs : List Int} (h : Fine p xs) (inv : Bool) : doL p inv xs = (List.range xs.length).map (doN p inv xs.length (el xs)) := if_pos h.zero
theorem wgE_zero {p : Int} {xs ws : List Int} (h : wgE p xs ws = 0) : Fine p xs ∧ ws.length = xs.length ∧ Fine p ws := by
  unfold wgE at h
  split at h
  · rename_i a
    split at h
    · rename_i b
      split at h
      · rename_i c
        have := doE_zero a
        exact ⟨this, b, ⟨by rw [b]; exact this.rdx, inB_yes c⟩⟩
      · omega
    · omega
  · rename_i a; exact absurd h a
theorem wgE_of {p : Int} {xs ws : List Int} (h : Fine p xs) (hl : ws.length = xs.length) (hw : Fine p ws) : wgE p xs ws = 0 := by
  unfold wgE
  rw [if_pos h.zero, if_pos hl, if_pos (inB_of h.rdx.kn hw.lt)]
theorem el_map {n : Nat} (f : Nat → Int) {j : Nat} (hj : j < n) : el ((List.range n).map f) j = f j := by simp [el, hj]

theorem Fine.len {p : Int} {xs : List Int} (h : Fine p xs) (inv : Bool) : (Fly.doL p inv xs).length = xs.length := by rw [h.doL]; simp
theorem Fine.get {p : Int} {xs : List Int} (h : Fine p xs) (inv : Bool) {j : Nat} (hj : j < xs.length) : (Fly.doL p inv xs).getD j 0 = doN p inv xs.length (el xs) j := by rw [h.doL]; exact el_map _ hj
theorem Fine.bd {p : Int} {xs : List Int} (h : Fine p xs) (inv : Bool) (j : Nat) : 0 ≤ (Fly.doL p inv xs).getD j 0 ∧ (Fly.doL p inv xs).getD j 0 < p := by
  have p1 := Fp.kn_bd h.rdx.kn
  by_cases hj : j < xs.length
  · rw [h.get inv hj]; exact doN_bd h.rdx.kn j
  · rw [List.getD_eq_getElem?_getD, List.getElem?_eq_none (by rw [h.len]; omega)]
    exact ⟨Int.le_refl _, by show (0 : Int) < p; omega⟩
theorem Fine.words {p : Int} {xs : List Int} (h : Fine p xs) (inv : Bool) : Words (Fly.doL p inv xs) := fun j => by
  have p1 := Fp.kn_bd h.rdx.kn
  obtain ⟨a, b⟩ := h.bd inv j
  exact ⟨a, by omega⟩
theorem Fine.fine {p : Int} {xs : List Int} (h : Fine p xs) (inv : Bool) : Fine p (Fly.doL p inv xs) := ⟨by rw [h.len]; exact h.rdx, fun j _ => (h.bd inv j).2⟩
theorem Fine.back {p : Int} {xs : List Int} (h : Fine p xs) (inv : Bool) {j : Nat} (hj : j < xs.length) : (Fly.doL p (!inv) (Fly.doL p inv xs)).getD j 0 = Fp.mul p (xs.getD j 0) (xs.length : Int) := by
  rw [(h.fine inv).get _ (by rw [h.len]; exact hj), h.len, doN_congr (x := el (Fly.doL p inv xs)) (y := doN p inv xs.length (el xs)) (fun j hj => h.get inv hj)]
  exact h.rdx.back hj

/-- By the order of what is asked. -/
theorem ptE_cases (p r : Int) : Fp.kn p = false ∧ ptE p r = 2 ∨ Fp.kn p = true ∧ (r < 2 ∨ 5 < r) ∧ ptE p r = 4
    ∨ Fp.kn p = true ∧ 2 ≤ r ∧ r ≤ 5 ∧ rootE p r = 5 ∧ rootN p r = 0 ∧ ptE p r = 5
    ∨ Rdx p r.toNat ∧ 2 ≤ r ∧ r ≤ 5 ∧ rootE p r = 0 ∧ rootN p r = Fp.rt p r.toNat ∧ ptE p r = 0 := by
  unfold ptE
  cases h : Fp.kn p
  · left; simp
  · right
    by_cases h1 : 2 ≤ r ∧ r ≤ 5
    · right
      obtain ⟨p1, p2⟩ := Fp.kn_bd h
      obtain ⟨q, rfl⟩ := Int.eq_ofNat_of_zero_le (show 0 ≤ p by omega)
      obtain ⟨m, rfl⟩ := Int.eq_ofNat_of_zero_le (show 0 ≤ r by omega)
      have e : ((q : Int) - 1) % (m : Int) = (((q - 1) % m : Nat) : Int) := by
        rw [Int.natCast_emod]; congr 1; omega
      rw [if_pos rfl, if_pos h1]
      have eq : ((q : Int)).toNat - 1 = q - 1 := by omega
      have em : ((m : Int)).toNat = m := by omega
      by_cases hd : m ∣ q - 1
      · right
        have hz : (q - 1) % m = 0 := Nat.mod_eq_zero_of_dvd hd
        have hE : rootE (q : Int) (m : Int) = 0 := by
          unfold rootE
          rw [if_neg (by simp [h]), if_neg (by omega), if_neg (by rw [e, hz]; simp)]
        refine ⟨⟨h, by omega, by omega, by rw [eq, em]; exact hd⟩, h1.1, h1.2, hE, ?_, ?_⟩
        · unfold rootN; rw [if_pos hE]
        · rw [eq, em, if_pos hd]
      · left
        have hE : rootE (q : Int) (m : Int) = 5 := by
          unfold rootE
          rw [if_neg (by simp [h]), if_neg (by omega), if_pos]
          intro c
          rw [e] at c
          exact hd (Nat.dvd_of_mod_eq_zero (by omega))
        refine ⟨rfl, h1.1, h1.2, hE, ?_, ?_⟩
        · unfold rootN; rw [if_neg (by omega)]
        · rw [eq, em, if_neg hd]
    · left
      refine ⟨rfl, by omega, ?_⟩
      rw [if_pos rfl, if_neg h1]
/-- What the root is undone by. -/
theorem Rdx.invN {p : Int} {n : Nat} (h : Rdx p n) : invN p (Fp.rt p n) = Fp.inv p (Fp.rt p n) := by
  have := h.lo
  unfold Go.Proofs.YtlbfllaaabginaaDoor.invN
  rw [if_neg (by simp [h.kn]), if_neg (Fp.rt_ne h.kn h.dvd (by omega))]
end Fly

end Go.Proofs.YtlbfllaaabginaaDoor

/-!   What the document's own answers of layer 15 come to (brackenref15): Points, Do, Weigh.
-/

namespace Go.Proofs.YtlbfllaaabginaaDoor
open Go.RowKit Fly

theorem rpt_pow (p : Int) (inv : Bool) (n i : Nat) (w : World) (hi : i < 5) :
    Calls Tryd.prog 71 #[.int .u64 p, .int .u64 (root p inv n), .int .u64 (i : Int)] w fun e w' => e = .returned (.int .u64 (pt p inv n i)) ∧ w = w' := by
  obtain ⟨a, b, _⟩ := root_bd p inv n
  have := rpow_any p (root p inv n) (i : Int) w a (by omega) (by omega) (by omega)
  rwa [Int.toNat_natCast] at this

end Go.Proofs.YtlbfllaaabginaaDoor

/-!   What the laws of layer 15 ask of fly's three functions, in one word; and the chapter's example from that.
-/

namespace Go.Proofs.YtlbfllaaabginaaDoor
open Go.RowKit Fly

namespace Fly
theorem rdx_two : Rdx 998244353 2 := ⟨by decide, by decide, by decide, by decide⟩
theorem do_two : doL 998244353 false [3, 5] = [8, 998244351] := by
  have hf : Fine 998244353 [3, 5] := ⟨rdx_two, fun j hj => by
    have : j = 0 ∨ j = 1 := by simp at hj; omega
    rcases this with rfl | rfl <;> decide⟩
  rw [hf.doL]
  show [doN 998244353 false 2 (el [3, 5]) 0, doN 998244353 false 2 (el [3, 5]) 1] = _
  have e0 : doN 998244353 false 2 (el [3, 5]) 0 = 8 := by rw [doN_first]; rfl
  have e1 : doN 998244353 false 2 (el [3, 5]) 1 = 998244351 := by
    have ht := Fp.Turns.half (m := 1) (rdx_two.turns false)
    rw [Int.pow_succ, Int.pow_zero, Int.one_mul] at ht
    refine same_of ((doN_eqm 1).trans ?_) (doN_bd (by decide) 1) (by decide)
    have e : Fp.fw (root 998244353 false 2) false 2 (el [3, 5]) 1 = 3 + 5 * root 998244353 false 2 := by
      simp [Fp.fw, Fp.sum, el, Fp.ex, Int.pow_succ]
    rw [e]
    exact (Fp.eqm.rfl.add (Fp.eqm.rfl.mul ht)).trans (by unfold Fp.eqm; decide)
  rw [e0, e1]
theorem do_two_ok : doE 998244353 [3, 5] = 0 := by decide
end Fly

theorem two_reads (w : World) (t : TypeId) (a b : Int) : Reads .u64 (w.alloc (.cells #[.int .u64 a, .int .u64 b] t)) (w.heap.size + 1) (some ⟨w.heap.size, 0, none⟩) [a, b] := fun _ =>
  ⟨w.heap.size, 0, rfl, Nat.lt_succ_self _, fun j hj => by
    have : j = 0 ∨ j = 1 := by simp at hj; omega
    rcases this with rfl | rfl <;> simp⟩
theorem words_two {a b : Int} (ha : 0 ≤ a ∧ a < 18446744073709551616) (hb : 0 ≤ b ∧ b < 18446744073709551616) : Words [a, b] := fun j => by
  rcases j with _ | _ | j <;> simp [ha, hb]

end Go.Proofs.YtlbfllaaabginaaDoor

/-!   Two, three, four and five words, transformed with few products: it is the sum of all, each times its power of the root. Plain mathematics; no function of fly is named here.
-/

namespace Go.Proofs.YtlbfllaaabginaaDoor.Fly

/-- All of a list together, counted by p. -/
def smL (p : Int) (xs : List Int) : Int := Fp.sum (el xs) xs.length % p
theorem smL_bd {p : Int} (h : Fp.kn p = true) (xs : List Int) : 0 ≤ smL p xs ∧ smL p xs < p := ⟨Fp.md_lo _ (Fp.kn_pos h), Fp.md_hi _ (Fp.kn_pos h)⟩
theorem smL_eqm (p : Int) (xs : List Int) : Fp.eqm p (smL p xs) (Fp.sum (el xs) xs.length) := Fp.eqm_md p _
theorem sub_eqm {p : Int} (h : Fp.kn p = true) (a b : Int) : Fp.eqm p (Fp.sub p a b) (a - b) := by unfold Fp.sub; rw [if_pos h]; exact Fp.eqm_md p _
theorem mul_eqm {p : Int} (h : Fp.kn p = true) (a b : Int) : Fp.eqm p (Fp.mul p a b) (a * b) := by rw [Fp.mul_kn _ _ h]; exact Fp.eqm_md p _
theorem eqm_sub {p a b c d : Int} (h : Fp.eqm p a b) (k : Fp.eqm p c d) : Fp.eqm p (a - c) (b - d) := by rw [Int.sub_eq_add_neg, Int.sub_eq_add_neg]; exact h.add k.neg
/-- What differs by a multiple of nothing is the same. -/
theorem eqm_times {p s a b : Int} (hs : Fp.eqm p s 0) (c : Int) (h : a - b = c * s) : Fp.eqm p a b := by
  refine Fp.eqm_zero_sub ?_
  rw [h]
  have := (Fp.eqm.rfl (p := p) (a := c)).mul hs
  rwa [Int.mul_zero] at this

section
variable {p : Int} {inv : Bool} {n : Nat}
/-- All powers of the root together are nothing. -/
theorem Rdx.geo (h : Rdx p n) (inv : Bool) : Fp.eqm p (Fp.sum (fun k => root p inv n ^ k) n) 0 := by
  have hl := h.lo
  exact Fp.geo_zero h.kn (a := root p inv n) (n := n) (((h.turns inv).pw _).2 (Nat.dvd_refl n)) (fun e => by
    have h2 := Nat.le_of_dvd (by omega) (((h.turns inv).pw 1).1 (by rw [Int.pow_succ, Int.pow_zero, Int.one_mul]; exact e))
    omega)

/-- A word times a point. -/
theorem tm_eqm (h : Fp.kn p = true) (k : Nat) {a b : Int} (ha : Fp.eqm p a b) : Fp.eqm p (Fp.mul p (pt p inv n k) a) (root p inv n ^ k * b) := (mul_eqm h _ _).trans ((pt_eqm h k).mul ha)
theorem sm2_eqm {a b a' b' : Int} (ha : Fp.eqm p a a') (hb : Fp.eqm p b b') : Fp.eqm p (smL p [a, b]) (a' + b') := by
  refine (smL_eqm p _).trans ?_
  show Fp.eqm p (0 + a + b) _
  rw [Int.zero_add]
  exact ha.add hb
theorem sm4_eqm {a b c d a' b' c' d' : Int} (ha : Fp.eqm p a a') (hb : Fp.eqm p b b') (hc : Fp.eqm p c c') (hd : Fp.eqm p d d') : Fp.eqm p (smL p [a, b, c, d]) (a' + b' + c' + d') := by
  refine (smL_eqm p _).trans ?_
  show Fp.eqm p (0 + a + b + c + d) _
  rw [Int.zero_add]
  exact ((ha.add hb).add hc).add hd
/-- A word of the transform is what comes to the same. -/
theorem word_of (h : Fp.kn p = true) {x : Nat → Int} {u : Nat} {v : Int} (hv : 0 ≤ v ∧ v < p) (he : Fp.eqm p (Fp.sum (fun t => x t * root p inv n ^ (t * u)) n) v) : doN p inv n x u = v := by
  refine same_of ((doN_eqm u).trans (Fp.eqm.trans (Fp.eqm.of ?_) he)) (doN_bd h u) hv
  unfold Fp.fw
  exact Fp.sum_congr fun j _ => by rw [ex_false]
theorem sub_in (h : Fp.kn p = true) (a b : Int) : 0 ≤ Fp.sub p a b ∧ Fp.sub p a b < p := by
  obtain ⟨x, -, y⟩ := Fp.sub_bd p a b
  exact ⟨x, y h⟩
end

section
variable {p : Int} {inv : Bool} {a b c d e : Int}
theorem do2 (h : Rdx p 2) (inv : Bool) (hf : Fine p [a, b]) : doL p inv [a, b] = [smL p [a, b], Fp.sub p a b] := by
  rw [hf.doL]
  show [doN p inv 2 (el [a, b]) 0, doN p inv 2 (el [a, b]) 1] = _
  have hs : Fp.eqm p (1 + root p inv 2 ^ 1) 0 := by
    have := h.geo inv
    simpa [Fp.sum] using this
  generalize hr : root p inv 2 = r at hs
  rw [doN_first, word_of h.kn (sub_in h.kn a b)]
  · rfl
  · rw [hr]
    refine Fp.eqm.trans ?_ (sub_eqm h.kn a b).symm
    refine eqm_times hs b ?_
    simp only [Fp.sum, el, List.getD_cons_zero, List.getD_cons_succ]
    grind

theorem do3 (h : Rdx p 3) (inv : Bool) (hf : Fine p [a, b, c]) :
    doL p inv [a, b, c] = [smL p [a, b, c], smL p [Fp.sub p a c, Fp.mul p (pt p inv 3 1) (Fp.sub p b c)], Fp.sub p (Fp.sub p a b) (Fp.mul p (pt p inv 3 1) (Fp.sub p b c))] := by
  rw [hf.doL]
  show [doN p inv 3 (el [a, b, c]) 0, doN p inv 3 (el [a, b, c]) 1, doN p inv 3 (el [a, b, c]) 2] = _
  have hs : Fp.eqm p (1 + root p inv 3 ^ 1 + root p inv 3 ^ 2) 0 := by
    have := h.geo inv
    simpa [Fp.sum] using this
  have ht := tm_eqm (inv := inv) (n := 3) h.kn 1 (sub_eqm h.kn b c)
  generalize hr : root p inv 3 = r at hs ht
  rw [doN_first, word_of h.kn (smL_bd h.kn [Fp.sub p a c, Fp.mul p (pt p inv 3 1) (Fp.sub p b c)]), word_of h.kn (sub_in h.kn (Fp.sub p a b) (Fp.mul p (pt p inv 3 1) (Fp.sub p b c)))]
  · rfl
  · rw [hr]
    refine Fp.eqm.trans ?_ ((sub_eqm h.kn _ _).trans (eqm_sub (sub_eqm h.kn a b) ht)).symm
    refine eqm_times hs (b + c * (r * (r - 1))) ?_
    simp only [Fp.sum, el, List.getD_cons_zero, List.getD_cons_succ]
    grind
  · rw [hr]
    refine Fp.eqm.trans ?_ (sm2_eqm (sub_eqm h.kn a c) ht).symm
    refine eqm_times hs c ?_
    simp only [Fp.sum, el, List.getD_cons_zero, List.getD_cons_succ]
    grind

theorem do4 (h : Rdx p 4) (inv : Bool) (hf : Fine p [a, b, c, d]) :
    doL p inv [a, b, c, d] = [smL p [smL p [a, c], smL p [b, d]], smL p [Fp.sub p a c, Fp.mul p (pt p inv 4 1) (Fp.sub p b d)], Fp.sub p (smL p [a, c]) (smL p [b, d]), Fp.sub p (Fp.sub p a c) (Fp.mul p (pt p inv 4 1) (Fp.sub p b d))] := by
  rw [hf.doL]
  show [doN p inv 4 (el [a, b, c, d]) 0, doN p inv 4 (el [a, b, c, d]) 1, doN p inv 4 (el [a, b, c, d]) 2, doN p inv 4 (el [a, b, c, d]) 3] = _
  have hs : Fp.eqm p (root p inv 4 ^ 2 + 1) 0 := by
    have := (Fp.Turns.half (m := 2) (h.turns inv)).add (Fp.eqm.rfl (p := p) (a := 1))
    exact this.trans (Fp.eqm.of (by decide))
  have ht := tm_eqm (inv := inv) (n := 4) h.kn 1 (sub_eqm h.kn b d)
  have he := sm2_eqm (Fp.eqm.rfl (p := p) (a := a)) (Fp.eqm.rfl (a := c))
  have ho := sm2_eqm (Fp.eqm.rfl (p := p) (a := b)) (Fp.eqm.rfl (a := d))
  generalize hr : root p inv 4 = r at hs ht
  rw [word_of h.kn (smL_bd h.kn [smL p [a, c], smL p [b, d]]), word_of h.kn (smL_bd h.kn [Fp.sub p a c, Fp.mul p (pt p inv 4 1) (Fp.sub p b d)]),
    word_of h.kn (sub_in h.kn (smL p [a, c]) (smL p [b, d])), word_of h.kn (sub_in h.kn (Fp.sub p a c) (Fp.mul p (pt p inv 4 1) (Fp.sub p b d)))]
  · rw [hr]
    refine Fp.eqm.trans ?_ ((sub_eqm h.kn _ _).trans (eqm_sub (sub_eqm h.kn a c) ht)).symm
    refine eqm_times hs (b * r + c * (r ^ 4 - r ^ 2 + 1) + d * (r * (r ^ 4 + 1) * (r ^ 2 - 1))) ?_
    simp only [Fp.sum, el, List.getD_cons_zero, List.getD_cons_succ]
    grind
  · rw [hr]
    refine Fp.eqm.trans ?_ ((sub_eqm h.kn _ _).trans (eqm_sub he ho)).symm
    refine eqm_times hs (b + c * (r ^ 2 - 1) + d * (r ^ 4 - r ^ 2 + 1)) ?_
    simp only [Fp.sum, el, List.getD_cons_zero, List.getD_cons_succ]
    grind
  · rw [hr]
    refine Fp.eqm.trans ?_ (sm2_eqm (sub_eqm h.kn a c) ht).symm
    refine eqm_times hs (c + d * r) ?_
    simp only [Fp.sum, el, List.getD_cons_zero, List.getD_cons_succ]
    grind
  · rw [hr]
    refine Fp.eqm.trans ?_ (sm2_eqm he ho).symm
    refine eqm_times hs 0 ?_
    simp only [Fp.sum, el, List.getD_cons_zero, List.getD_cons_succ]
    grind

/-- Four words, less the fifth, times three points. -/
def s5 (p : Int) (inv : Bool) (a b c d : Int) (i j k : Nat) : Int := smL p [a, Fp.mul p (pt p inv 5 i) b, Fp.mul p (pt p inv 5 j) c, Fp.mul p (pt p inv 5 k) d]
set_option maxHeartbeats 1000000 in
theorem do5 (h : Rdx p 5) (inv : Bool) (hf : Fine p [a, b, c, d, e]) :
    doL p inv [a, b, c, d, e] = [smL p [a, b, c, d, e], s5 p inv (Fp.sub p a e) (Fp.sub p b e) (Fp.sub p c e) (Fp.sub p d e) 1 2 3, s5 p inv (Fp.sub p a e) (Fp.sub p b e) (Fp.sub p c e) (Fp.sub p d e) 2 4 1,
      s5 p inv (Fp.sub p a e) (Fp.sub p b e) (Fp.sub p c e) (Fp.sub p d e) 3 1 4, s5 p inv (Fp.sub p a e) (Fp.sub p b e) (Fp.sub p c e) (Fp.sub p d e) 4 3 2] := by
  rw [hf.doL]
  show [doN p inv 5 (el [a, b, c, d, e]) 0, doN p inv 5 (el [a, b, c, d, e]) 1, doN p inv 5 (el [a, b, c, d, e]) 2, doN p inv 5 (el [a, b, c, d, e]) 3, doN p inv 5 (el [a, b, c, d, e]) 4] = _
  have hs : Fp.eqm p (1 + root p inv 5 ^ 1 + root p inv 5 ^ 2 + root p inv 5 ^ 3 + root p inv 5 ^ 4) 0 := by
    have := h.geo inv
    simpa [Fp.sum] using this
  have hq : ∀ i j k, Fp.eqm p (s5 p inv (Fp.sub p a e) (Fp.sub p b e) (Fp.sub p c e) (Fp.sub p d e) i j k) ((a - e) + root p inv 5 ^ i * (b - e) + root p inv 5 ^ j * (c - e) + root p inv 5 ^ k * (d - e)) := fun i j k =>
    sm4_eqm (sub_eqm h.kn a e) (tm_eqm h.kn i (sub_eqm h.kn b e)) (tm_eqm h.kn j (sub_eqm h.kn c e)) (tm_eqm h.kn k (sub_eqm h.kn d e))
  have hb : ∀ i j k, 0 ≤ s5 p inv (Fp.sub p a e) (Fp.sub p b e) (Fp.sub p c e) (Fp.sub p d e) i j k ∧ s5 p inv (Fp.sub p a e) (Fp.sub p b e) (Fp.sub p c e) (Fp.sub p d e) i j k < p := fun i j k => smL_bd h.kn _
  generalize hr : root p inv 5 = r at hs hq
  rw [doN_first, word_of h.kn (hb 1 2 3), word_of h.kn (hb 2 4 1), word_of h.kn (hb 3 1 4), word_of h.kn (hb 4 3 2)]
  · rfl
  · rw [hr]
    refine Fp.eqm.trans ?_ (hq 4 3 2).symm
    refine eqm_times hs (c * (r ^ 3 * (r - 1)) + d * (r ^ 2 * (r ^ 5 + 1) * (r - 1)) + e * (r * (r ^ 10 + r ^ 5 + 1) * (r - 1) + 1)) ?_
    simp only [Fp.sum, el, List.getD_cons_zero, List.getD_cons_succ]
    grind
  · rw [hr]
    refine Fp.eqm.trans ?_ (hq 3 1 4).symm
    refine eqm_times hs (c * (r * (r - 1)) + d * (r ^ 4 * (r - 1)) + e * (r ^ 2 * (r ^ 5 + 1) * (r - 1) + 1)) ?_
    simp only [Fp.sum, el, List.getD_cons_zero, List.getD_cons_succ]
    grind
  · rw [hr]
    refine Fp.eqm.trans ?_ (hq 2 4 1).symm
    refine eqm_times hs (d * (r * (r - 1)) + e * (r ^ 3 * (r - 1) + 1)) ?_
    simp only [Fp.sum, el, List.getD_cons_zero, List.getD_cons_succ]
    grind
  · rw [hr]
    refine Fp.eqm.trans ?_ (hq 1 2 3).symm
    refine eqm_times hs e ?_
    simp only [Fp.sum, el, List.getD_cons_zero, List.getD_cons_succ]
    grind
end

end Go.Proofs.YtlbfllaaabginaaDoor.Fly

/-!   A literal of words: where it lies. No program is named here.
-/

namespace Go.Proofs.YtlbfllaaabginaaDoor
open Go.RowKit

/-- A literal of words: where it lies. -/
theorem nums_reads (w : World) (t : TypeId) (xs : List Int) : Reads .u64 (w.alloc (.cells (xs.map (Value.int .u64)).toArray t)) (w.alloc (.cells (xs.map (Value.int .u64)).toArray t)).heap.size (some ⟨w.heap.size, 0, none⟩) xs := fun _ =>
  ⟨w.heap.size, 0, rfl, by simp, fun j hj => by simp [hj]⟩
theorem nums_owns (w : World) (xs : List Int) (base : Nat) (hb : base ≤ w.heap.size) (hl : xs.length ≤ maxLen) : Owns .u64 22 (w.alloc (.cells (xs.map (Value.int .u64)).toArray 22)) base (.slice (some ⟨w.heap.size, 0, none⟩) xs.length xs.length) xs := by
  unfold Owns
  exact ⟨by simp, .inr ⟨w.heap.size, xs.length, _, rfl, hb, World.alloc_heap_new w _, Nat.le_refl _, hl, by simp, by rw [Nat.mul_one, List.toList_toArray, List.take_of_length_le (by simp)]⟩⟩

theorem words2 {a b : Int} (ha : 0 ≤ a ∧ a < 18446744073709551616) (hb : 0 ≤ b ∧ b < 18446744073709551616) : Words [a, b] := fun j => by
  rcases j with _ | _ | j <;> simp [ha, hb]

end Go.Proofs.YtlbfllaaabginaaDoor

/-!   What the small methods of fly's circle come to: a sum of words, a difference, a word times a point.
-/

namespace Go.Proofs.YtlbfllaaabginaaDoor
open Go.RowKit Fly

/-- A callee's contract, met behind draws. -/
theorem quiet_at {P : Program} {f : FuncId} {args : Array Value} {w : World} {a : Nat} {v : Value} (h : Calls P f args (w.drewN a) (RetQ v (w.drewN a))) :
    Calls P f args (w.drewN a) fun e w'' => e = .returned v ∧ ∃ n, w'' = w.drewN n :=
  h.mono fun _ _ ⟨he, m, hm⟩ => ⟨he, a + m, by rw [hm, World.drewN_drewN]⟩

/-- The circle in memory. -/
theorem cir_p (w : World) (t : TypeId) (p : Int) (s : Value) : (w.alloc (.cells #[.int .u64 p, s] t)).cell? ⟨w.heap.size, 0, none⟩ = some (.int .u64 p) := by simp
theorem cir_l (w : World) (t : TypeId) (p : Int) (s : Value) : (w.alloc (.cells #[.int .u64 p, s] t)).cell? ⟨w.heap.size, 1, none⟩ = some s := by simp

set_option maxHeartbeats 1000000 in
theorem cless_any (p a b : Int) (y : Option Addr) (m c : Nat) (w : World) (a0 : 0 ≤ a) (a1 : a < 18446744073709551616) (b0 : 0 ≤ b) (b1 : b < 18446744073709551616) :
    Calls Tryd.prog 122 #[.agg #[.int .u64 p, .slice y m c], .int .u64 a, .int .u64 b] w (RetB (.int .u64 (Fp.sub p a b)) w) := by
  go_enter Tryd.func122, Tryd.ntmps122
  go_wp2_with (go_at_call 125; refine (sub_any _ _ _ _ (by omega) (by omega) (by omega) (by omega)).mono ?_; rintro e w' ⟨rfl, nd, rfl⟩)
  go_ret
  exact ⟨rfl, below_draws (below_al (Below.refl _ _) _) _⟩

set_option maxHeartbeats 1000000 in
theorem ctimes_any (p i a : Int) (k : Nat) (y : Option Addr) (m c : Nat) (ps : List Int) (w : World) (hi : i = (k : Int)) (hy : Reads .u64 w w.heap.size y ps) (hm : ps.length = m) (hk : k < m) (hw : Words ps) (hl : m ≤ maxLen) (a0 : 0 ≤ a) (a1 : a < 18446744073709551616) :
    Calls Tryd.prog 123 #[.agg #[.int .u64 p, .slice y m c], .int .i64 i, .int .u64 a] w (RetB (.int .u64 (Fp.mul p (ps.getD k 0) a)) w) := by
  subst hi
  subst hm
  obtain ⟨b, off, rfl, hb, hc⟩ := hy (by omega)
  have hdk : decide (k < ps.length) = true := by simpa using hk
  have hc1 := hc k hk
  obtain ⟨y0, y1⟩ := hw k
  generalize ps.getD k 0 = u at hc1 y0 y1 ⊢
  have hcell : (w.alloc (.cells #[.int .u64 p, .slice (some ⟨b, off, none⟩) ps.length c] 123)).cell? ⟨b, off + k, none⟩ = some (.int .u64 u) := ((below_al (Below.refl _ w) _).cell (p := ⟨b, off + k, none⟩) hb).trans hc1
  have hp := cir_p w 123 p (.slice (some ⟨b, off, none⟩) ps.length c)
  have hq := cir_l w 123 p (.slice (some ⟨b, off, none⟩) ps.length c)
  have HB := Lib.hid (below_al (Below.refl _ w) (.cells #[.int .u64 p, .slice (some ⟨b, off, none⟩) ps.length c] 123))
  have hlen : (ps.length : Int) ≤ 9223372036854775807 := by unfold maxLen at hl; omega
  clear hc hc1 hy hb hw hl
  go_enter Tryd.func123, Tryd.ntmps123
  go_wp2
  obtain ⟨W, hW⟩ : ∃ W, W = w.alloc (.cells #[.int .u64 p, .slice (some ⟨b, off, none⟩) ps.length c] 123) := ⟨_, rfl⟩
  rw [← hW] at hcell hp hq HB ⊢
  clear hW
  go_quiet (first | (go_at_call 56; exact quiet_at (mul_any _ _ _ _ (by omega) (by omega) (by omega) (by omega))))
  go_wp2
  go_ret
  exact ⟨rfl, below_draws HB.out _⟩

set_option maxHeartbeats 2000000 in
theorem cirsum_any (p : Int) (y : Option Addr) (m c : Nat) (x : Option Addr) (n cap : Nat) (xs : List Int) (w : World) (h : Fp.kn p = true) (hx : Reads .u64 w w.heap.size x xs) (hn : xs.length = n) (hw : Words xs) (hl : n ≤ maxLen) :
    Calls Tryd.prog 121 #[.agg #[.int .u64 p, .slice y m c], .slice x n cap] w (RetB (.int .u64 (smL p xs)) w) := by
  subst hn
  have H := Lib.hid h
  obtain ⟨p1, p2⟩ := Fp.kn_bd h
  have hlen : (xs.length : Int) ≤ 9223372036854775807 := by unfold maxLen at hl; omega
  have HX : Hid (Reads .u64 (w.alloc (.cells #[.int .u64 p, .slice y m c] 123)) w.heap.size x xs) := Lib.hid (hx.below (below_al (Below.refl _ w) _))
  have hp := cir_p w 123 p (.slice y m c)
  have HB := Lib.hid (below_al (Below.refl _ w) (.cells #[.int .u64 p, .slice y m c] 123))
  have HS : Hid (∀ k, Fp.add p (Fp.sum (el xs) k % p) (xs.getD k 0) = Fp.sum (el xs) (k + 1) % p) := Lib.hid (fun k => more h _ k Fp.eqm.rfl)
  have HD : Hid (∀ k, 0 ≤ Fp.sum (el xs) k % p ∧ Fp.sum (el xs) k % p < p) := Lib.hid (fun k => ⟨Fp.md_lo _ (Fp.kn_pos h), Fp.md_hi _ (Fp.kn_pos h)⟩)
  have HW := Lib.hid hw
  have HE : Hid (Fp.sum (el xs) xs.length % p = smL p xs) := Lib.hid rfl
  have H0 : Hid (Fp.sum (el xs) 0 % p = 0) := Lib.hid (by simp [Fp.sum])
  generalize smL p xs = res at HE ⊢
  generalize (fun k => Fp.sum (el xs) k % p) = f at *
  clear hx hw h hl
  go_enter Tryd.func121, Tryd.ntmps121
  go_wp2
  obtain ⟨W, hW⟩ : ∃ W, W = w.alloc (.cells #[.int .u64 p, .slice y m c] 123) := ⟨_, rfl⟩
  rw [← hW] at HX hp HB ⊢
  clear hW
  go_loopw [5, 10] (fun s i wr => ∃ (k q : Nat) (o : Int), k ≤ xs.length ∧ i = .int .i64 (k : Int) ∧ s = .int .u64 o ∧ Hid (o = Fp.sum (el xs) k % p) ∧ wr = W.drewN q) (fun _ i _ => xs.length - (intOf i).toNat)
  case atStart => exact ⟨0, 0, 0, Nat.zero_le _, rfl, rfl, Lib.hid H0.out.symm, rfl⟩
  case round =>
    obtain ⟨k, q, o, hk, rfl, rfl, HO, rfl⟩ := hrel
    by_cases hlt : k < xs.length
    · have hdk : decide (k < xs.length) = true := by simpa using hlt
      obtain ⟨b, off, rfl, hb, hcx⟩ := HX.out (by omega)
      have hx1 := hcx k hlt
      obtain ⟨y0, y1⟩ := HW.out k
      have o01 := HD.out k
      rw [← HO.out] at o01
      obtain ⟨o0, o1⟩ := o01
      have HN : Hid (Fp.add p o (xs.getD k 0) = Fp.sum (el xs) (k + 1) % p) := Lib.hid (by rw [HO.out]; exact HS.out k)
      generalize xs.getD k 0 = u at hx1 y0 y1 HN
      clear hcx HX
      go_wp2_with (go_at_call 120; refine (add_any _ _ _ _ (by omega) (by omega) (by omega) (by omega)).mono ?_; rintro e w' ⟨rfl, nd, rfl⟩)
      go_roundw
      case rel => exact ⟨k + 1, _, _, by omega, by go_num, rfl, Lib.hid HN.out, rfl⟩
      case measure => simp [intOf]; omega
    · obtain rfl : k = xs.length := by omega
      have hdk : decide (xs.length < xs.length) = false := by simp
      go_wp2
      go_ret
      exact ⟨ret_u64 (HO.out.trans HE.out), below_draws HB.out _⟩

end Go.Proofs.YtlbfllaaabginaaDoor

/-!   What fly's methods of a radix come to: two words.
-/

namespace Go.Proofs.YtlbfllaaabginaaDoor
open Go.RowKit Fly

/-- What a call returns that makes a list of words. -/
def RetNums (w : World) (xs : List Int) (e : Ending) (w' : World) : Prop :=
  ∃ v, e = .returned v ∧ Owns .u64 22 w' w.heap.size v xs ∧ Below w.heap.size w w'

set_option maxRecDepth 100000 in
set_option maxHeartbeats 4000000 in
theorem ctwo_any (p a b : Int) (inv : Bool) (y : Option Addr) (c : Nat) (x : Option Addr) (cap : Nat) (w : World) (h : Rdx p 2) (hf : Fine p [a, b]) (hw : Words [a, b]) (hx : Reads .u64 w w.heap.size x [a, b]) :
    Calls Tryd.prog 112 #[.agg #[.int .u64 p, .slice y 2 c], .slice x 2 cap] w (RetNums w (doL p inv [a, b])) := by
  rw [do2 h inv hf]
  have H := Lib.hid h.kn
  have HW := Lib.hid hw
  obtain ⟨a0, a1⟩ := hw 0
  obtain ⟨b0, b1⟩ := hw 1
  simp only [List.getD_cons_zero, List.getD_cons_succ] at a0 a1 b0 b1
  obtain ⟨g, off, rfl, hg, hc⟩ := hx (by simp)
  have HB := Lib.hid (below_al (Below.refl _ w) (.cells #[.int .u64 p, .slice y 2 c] 123))
  have hp := cir_p w 123 p (.slice y 2 c)
  have hq := cir_l w 123 p (.slice y 2 c)
  have hc0 : (w.alloc (.cells #[.int .u64 p, .slice y 2 c] 123)).cell? ⟨g, off, none⟩ = some (.int .u64 a) := (HB.out.cell (p := ⟨g, off, none⟩) hg).trans (hc 0 (by simp))
  have hc1 : (w.alloc (.cells #[.int .u64 p, .slice y 2 c] 123)).cell? ⟨g, off + 1, none⟩ = some (.int .u64 b) := (HB.out.cell (p := ⟨g, off + 1, none⟩) hg).trans (hc 1 (by simp))
  have hmx : Tryd.prog.follows .mixedOrders = true := by kernel_rfl
  clear hc hx h hf hw
  go_enter Tryd.func112, Tryd.ntmps112
  go_wp2
  obtain ⟨W, hW⟩ : ∃ W, W = w.alloc (.cells #[.int .u64 p, .slice y 2 c] 123) := ⟨_, rfl⟩
  rw [← hW] at hp hq hc0 hc1 HB ⊢
  clear hW
  have kp := fun s : Since W => s.below.cell (p := ⟨w.heap.size, 0, none⟩) (World.block_lt_of_cell? _ _ hp) |>.trans hp
  have kq := fun s : Since W => s.below.cell (p := ⟨w.heap.size, 1, none⟩) (World.block_lt_of_cell? _ _ hq) |>.trans hq
  have k0 := fun s : Since W => s.below.cell (p := ⟨g, off, none⟩) (World.block_lt_of_cell? _ _ hc0) |>.trans hc0
  have k1 := fun s : Since W => s.below.cell (p := ⟨g, off + 1, none⟩) (World.block_lt_of_cell? _ _ hc1) |>.trans hc1
  have hS0 : Below W.heap.size W W.drew := draws_below _ W 1
  refine region_readsL (C := fun w' => ∃ s : Since W, w' = s.out) [0, 1, 2, 3, 4, 5, 6, 9, 10, 11, 12, 13, 14, 15] hmx (by kernel_rfl) rfl (by kernel_rfl) ⟨⟨_, hS0⟩, rfl⟩ ?_
  simp only [List.map_cons, List.map_nil, List.getD_cons_zero, List.getD_cons_succ]
  repeat (go_big_quiet_step (skip))
  refine wpQuiet_nil ?_
  clear kp kq k0 k1
  show anyC _ _ _ _ _ 18 5 _ _ _
  obtain ⟨W0, hW0⟩ : ∃ W0, W0 = W.drew := ⟨_, rfl⟩
  rw [← hW0] at hS0 ⊢
  clear hW0
  refine anyC_one (i := 7) (by kernel_rfl) (wpOp_of_list rfl ?_)
  go_wp2
  have hS1 := below_al hS0 (.cells #[.int .u64 a, .int .u64 b] 22)
  refine ⟨rfl, fun _ => ⟨⟨_, hS1⟩, rfl⟩, ?_⟩
  refine anyC_one (i := 8) (by kernel_rfl) (wpOp_of_list rfl ?_)
  go_wp2_with (go_at_call 121; refine (cirsum_any p _ _ _ _ _ _ [a, b] _ H.out (nums_reads _ _ [a, b]) rfl HW.out (by unfold maxLen; simp)).mono ?_; rintro e W2 ⟨rfl, hb2⟩)
  have hS2 := below_then hS1 hb2
  refine ⟨rfl, fun _ => ⟨⟨_, hS2⟩, rfl⟩, ?_⟩
  refine anyC_one (i := 16) (by kernel_rfl) (wpOp_of_list rfl ?_)
  go_wp2_with (go_at_call 122; refine (cless_any _ _ _ _ _ _ _ (by omega) (by omega) (by omega) (by omega)).mono ?_; rintro e W3 ⟨rfl, hb3⟩)
  have hS3 := below_then hS2 hb3
  refine ⟨rfl, fun _ => ⟨⟨_, hS3⟩, rfl⟩, ?_⟩
  refine anyC_one (i := 17) (by kernel_rfl) (wpOp_of_list rfl ?_)
  go_wp2
  have hS4 := below_al hS3 (.cells #[.int .u64 (smL p [a, b]), .int .u64 (Fp.sub p a b)] 22)
  refine ⟨rfl, fun _ => ⟨⟨_, hS4⟩, rfl⟩, ?_⟩
  refine anyC_one (i := 18) (by kernel_rfl) (wpOp_of_list rfl ?_)
  go_wp2
  refine ⟨rfl, fun h => absurd rfl h, anyC_end (by kernel_rfl) ⟨rfl, ?_⟩⟩
  go_wp2
  go_ret
  have hz : w.heap.size ≤ W3.heap.size := (below_then HB.out hS3).size
  exact ⟨_, rfl, nums_owns W3 [smL p [a, b], Fp.sub p a b] _ hz (by unfold maxLen; simp), below_then HB.out hS4⟩

end Go.Proofs.YtlbfllaaabginaaDoor

/-!   What fly's methods of a radix come to: three words.
-/

namespace Go.Proofs.YtlbfllaaabginaaDoor
open Go.RowKit Fly

theorem Since.at {w : World} (s : Since w) {q : Addr} {v : Value} (h : w.cell? q = some v) : s.out.cell? q = some v := (s.below.cell (World.block_lt_of_cell? _ _ h)).trans h
/-- The points of a radix. -/
def ptL (p : Int) (inv : Bool) (n : Nat) : List Int := (List.range n).map (pt p inv n)
theorem ptL_len (p : Int) (inv : Bool) (n : Nat) : (ptL p inv n).length = n := by simp [ptL]
theorem ptL_at (p : Int) (inv : Bool) {n k : Nat} (h : k < n) : (ptL p inv n).getD k 0 = pt p inv n k := by simp [ptL, h]
theorem ptL_words (p : Int) (inv : Bool) (n : Nat) : Words (ptL p inv n) := fun j => by
  by_cases h : j < n
  · rw [ptL_at p inv h]
    obtain ⟨a, b, -⟩ := pt_bd p inv n j
    omega
  · rw [List.getD_eq_getElem?_getD, List.getElem?_eq_none (by rw [ptL_len]; omega)]
    exact ⟨Int.le_refl _, by decide⟩

theorem ctpt_any (p i a : Int) (inv : Bool) (n k : Nat) (y : Option Addr) (c : Nat) (w : World) (hi : i = (k : Int)) (hy : Reads .u64 w w.heap.size y (ptL p inv n)) (hk : k < n) (hn : n ≤ 5) (a0 : 0 ≤ a) (a1 : a < 18446744073709551616) :
    Calls Tryd.prog 123 #[.agg #[.int .u64 p, .slice y n c], .int .i64 i, .int .u64 a] w (RetB (.int .u64 (Fp.mul p (pt p inv n k) a)) w) := by
  have := ctimes_any p i a k y n c (ptL p inv n) w hi hy (ptL_len p inv n) hk (ptL_words p inv n) (by unfold maxLen; omega) a0 a1
  rwa [ptL_at p inv hk] at this

set_option maxRecDepth 100000 in
set_option maxHeartbeats 4000000 in
theorem cthree_any (p a b d : Int) (inv : Bool) (y : Option Addr) (c : Nat) (x : Option Addr) (cap : Nat) (w : World) (h : Rdx p 3) (hf : Fine p [a, b, d]) (hw : Words [a, b, d]) (hx : Reads .u64 w w.heap.size x [a, b, d]) (hy : Reads .u64 w w.heap.size y (ptL p inv 3)) :
    Calls Tryd.prog 113 #[.agg #[.int .u64 p, .slice y 3 c], .slice x 3 cap] w (RetNums w (doL p inv [a, b, d])) := by
  rw [do3 h inv hf]
  have H := Lib.hid h.kn
  obtain ⟨p1, p2⟩ := Fp.kn_bd h.kn
  have HW := Lib.hid hw
  obtain ⟨a0, a1⟩ := hw 0
  obtain ⟨b0, b1⟩ := hw 1
  obtain ⟨d0, d1⟩ := hw 2
  simp only [List.getD_cons_zero, List.getD_cons_succ] at a0 a1 b0 b1 d0 d1
  have HX := Lib.hid hx
  obtain ⟨g, off, rfl, hg, hc⟩ := hx (by simp)
  have HB := Lib.hid (below_al (Below.refl _ w) (.cells #[.int .u64 p, .slice y 3 c] 123))
  have HY := Lib.hid ((hy.below HB.out).more HB.out.size)
  have HXW := Lib.hid ((HX.out.below HB.out).more HB.out.size)
  have hp := cir_p w 123 p (.slice y 3 c)
  have hq := cir_l w 123 p (.slice y 3 c)
  have hc0 : (w.alloc (.cells #[.int .u64 p, .slice y 3 c] 123)).cell? ⟨g, off, none⟩ = some (.int .u64 a) := (HB.out.cell (p := ⟨g, off, none⟩) hg).trans (hc 0 (by simp))
  have hc1 : (w.alloc (.cells #[.int .u64 p, .slice y 3 c] 123)).cell? ⟨g, off + 1, none⟩ = some (.int .u64 b) := (HB.out.cell (p := ⟨g, off + 1, none⟩) hg).trans (hc 1 (by simp))
  have hc2 : (w.alloc (.cells #[.int .u64 p, .slice y 3 c] 123)).cell? ⟨g, off + 2, none⟩ = some (.int .u64 d) := (HB.out.cell (p := ⟨g, off + 2, none⟩) hg).trans (hc 2 (by simp))
  have hmx : Tryd.prog.follows .mixedOrders = true := by kernel_rfl
  obtain ⟨u, hu⟩ : ∃ u, u = Fp.mul p (pt p inv 3 1) (Fp.sub p b d) := ⟨_, rfl⟩
  have HU := Lib.hid hu
  rw [← hu]
  have hub : 0 ≤ u ∧ u < 18446744069414584321 := by rw [hu]; exact ⟨(Fp.mul_bd _ _ _).1, (Fp.mul_bd _ _ _).2.1⟩
  have HSB := Lib.hid (fun i j => Fp.sub_bd p i j)
  clear hc hx h hf hw hu HX hy
  go_enter Tryd.func113, Tryd.ntmps113
  go_wp2
  obtain ⟨W, hW⟩ : ∃ W, W = w.alloc (.cells #[.int .u64 p, .slice y 3 c] 123) := ⟨_, rfl⟩
  rw [← hW] at hp hq hc0 hc1 hc2 HB HY HXW ⊢
  clear hW
  have kp := fun s : Since W => s.at hp
  have kq := fun s : Since W => s.at hq
  have k0 := fun s : Since W => s.at hc0
  have k1 := fun s : Since W => s.at hc1
  have k2 := fun s : Since W => s.at hc2
  refine wp_region_since (by kernel_rfl) (by kernel_rfl) ?_
  repeat (go_big_quiet_step (first
    | (go_at_call 122; rename_i s; exact since_call s (cless_any _ _ _ _ _ _ _ (by omega) (by omega) (by omega) (by omega)))
    | (go_at_call 123; rename_i s; exact since_call s (ctpt_any p _ _ inv 3 1 _ _ _ rfl ((HY.out.below s.below).more s.below.size) (by omega) (by omega) (HSB.out _ _).1 (by have := HSB.out b d; omega)))))
  refine wpQuiet_nil ?_
  rw [← HU.out]
  rintro W1 ⟨⟨_, hB1⟩, rfl⟩
  clear kp kq k0 k1 k2
  replace hp := (Since.mk W1 hB1).at hp
  replace hq := (Since.mk W1 hB1).at hq
  replace hc0 := (Since.mk W1 hB1).at hc0
  replace hc1 := (Since.mk W1 hB1).at hc1
  replace hc2 := (Since.mk W1 hB1).at hc2
  dsimp only at hp hq hc0 hc1 hc2
  replace HB := Lib.hid (below_then HB.out hB1)
  replace HXW := Lib.hid ((HXW.out.below hB1).more hB1.size)
  clear hB1 HY
  go_wp2
  have kp := fun s : Since W1 => s.at hp
  have kq := fun s : Since W1 => s.at hq
  have k0 := fun s : Since W1 => s.at hc0
  have k1 := fun s : Since W1 => s.at hc1
  have k2 := fun s : Since W1 => s.at hc2
  have hS0 : Below W1.heap.size W1 W1.drew := draws_below _ W1 1
  refine region_readsL (C := fun w' => ∃ s : Since W1, w' = s.out) [0, 1, 3, 4, 5, 6, 7, 8, 9, 10, 12, 15, 16, 17, 18, 19, 20, 21, 22, 24] hmx (by kernel_rfl) rfl (by kernel_rfl) ⟨⟨_, hS0⟩, rfl⟩ ?_
  simp only [List.map_cons, List.map_nil, List.getD_cons_zero, List.getD_cons_succ]
  repeat (go_big_quiet_step (skip))
  refine wpQuiet_nil ?_
  clear kp kq k0 k1 k2
  show anyC _ _ _ _ _ 27 8 _ _ _
  obtain ⟨W0, hW0⟩ : ∃ W0, W0 = W1.drew := ⟨_, rfl⟩
  rw [← hW0] at hS0 ⊢
  clear hW0
  have HXZ := Lib.hid ((HXW.out.below hS0).more hS0.size)
  refine anyC_one (i := 2) (by kernel_rfl) (wpOp_of_list rfl ?_)
  go_wp2_with (go_at_call 121; refine (cirsum_any p _ _ _ _ _ _ [a, b, d] _ H.out HXZ.out rfl HW.out (by unfold maxLen; simp)).mono ?_; rintro e W2 ⟨rfl, hb2⟩)
  have hS2 := below_then hS0 hb2
  refine ⟨rfl, fun _ => ⟨⟨_, hS2⟩, rfl⟩, ?_⟩
  refine anyC_one (i := 11) (by kernel_rfl) (wpOp_of_list rfl ?_)
  go_wp2_with (go_at_call 122; refine (cless_any _ _ _ _ _ _ _ (by omega) (by omega) (by omega) (by omega)).mono ?_; rintro e W3 ⟨rfl, hb3⟩)
  have hS3 := below_then hS2 hb3
  refine ⟨rfl, fun _ => ⟨⟨_, hS3⟩, rfl⟩, ?_⟩
  refine anyC_one (i := 13) (by kernel_rfl) (wpOp_of_list rfl ?_)
  go_wp2
  have hS4 := below_al hS3 (.cells #[.int .u64 (Fp.sub p a d), .int .u64 u] 22)
  refine ⟨rfl, fun _ => ⟨⟨_, hS4⟩, rfl⟩, ?_⟩
  refine anyC_one (i := 14) (by kernel_rfl) (wpOp_of_list rfl ?_)
  go_wp2_with (go_at_call 121; refine (cirsum_any p _ _ _ _ _ _ [Fp.sub p a d, u] _ H.out (nums_reads _ _ [Fp.sub p a d, u]) rfl (words2 (by have := HSB.out a d; omega) (by omega)) (by unfold maxLen; simp)).mono ?_; rintro e W5 ⟨rfl, hb5⟩)
  have hS5 := below_then hS4 hb5
  refine ⟨rfl, fun _ => ⟨⟨_, hS5⟩, rfl⟩, ?_⟩
  refine anyC_one (i := 23) (by kernel_rfl) (wpOp_of_list rfl ?_)
  go_wp2_with (go_at_call 122; refine (cless_any _ _ _ _ _ _ _ (by omega) (by omega) (by omega) (by omega)).mono ?_; rintro e W6 ⟨rfl, hb6⟩)
  have hS6 := below_then hS5 hb6
  refine ⟨rfl, fun _ => ⟨⟨_, hS6⟩, rfl⟩, ?_⟩
  refine anyC_one (i := 25) (by kernel_rfl) (wpOp_of_list rfl ?_)
  go_wp2_with (go_at_call 122; refine (cless_any _ _ _ _ _ _ _ (HSB.out _ _).1 (by have := HSB.out a b; omega) (by omega) (by omega)).mono ?_; rintro e W7 ⟨rfl, hb7⟩)
  have hS7 := below_then hS6 hb7
  refine ⟨rfl, fun _ => ⟨⟨_, hS7⟩, rfl⟩, ?_⟩
  refine anyC_one (i := 26) (by kernel_rfl) (wpOp_of_list rfl ?_)
  go_wp2
  have hS8 := below_al hS7 (.cells #[.int .u64 (smL p [a, b, d]), .int .u64 (smL p [Fp.sub p a d, u]), .int .u64 (Fp.sub p (Fp.sub p a b) u)] 22)
  refine ⟨rfl, fun _ => ⟨⟨_, hS8⟩, rfl⟩, ?_⟩
  refine anyC_one (i := 27) (by kernel_rfl) (wpOp_of_list rfl ?_)
  go_wp2
  refine ⟨rfl, fun h => absurd rfl h, anyC_end (by kernel_rfl) ⟨rfl, ?_⟩⟩
  go_wp2
  go_ret
  have hz : w.heap.size ≤ W7.heap.size := (below_then HB.out hS7).size
  exact ⟨_, rfl, nums_owns W7 [smL p [a, b, d], smL p [Fp.sub p a d, u], Fp.sub p (Fp.sub p a b) u] _ hz (by unfold maxLen; simp), below_then HB.out hS8⟩

end Go.Proofs.YtlbfllaaabginaaDoor

/-!   What fly's methods of a radix come to: four words.
-/

namespace Go.Proofs.YtlbfllaaabginaaDoor
open Go.RowKit Fly

set_option maxRecDepth 100000 in
set_option maxHeartbeats 8000000 in
theorem cfour_any (p a b c d : Int) (inv : Bool) (y : Option Addr) (cy : Nat) (x : Option Addr) (cap : Nat) (w : World) (h : Rdx p 4) (hf : Fine p [a, b, c, d]) (hw : Words [a, b, c, d]) (hx : Reads .u64 w w.heap.size x [a, b, c, d]) (hy : Reads .u64 w w.heap.size y (ptL p inv 4)) :
    Calls Tryd.prog 114 #[.agg #[.int .u64 p, .slice y 4 cy], .slice x 4 cap] w (RetNums w (doL p inv [a, b, c, d])) := by
  rw [do4 h inv hf]
  have H := Lib.hid h.kn
  obtain ⟨p1, p2⟩ := Fp.kn_bd h.kn
  obtain ⟨a0, a1⟩ := hw 0
  obtain ⟨b0, b1⟩ := hw 1
  obtain ⟨c0, c1⟩ := hw 2
  obtain ⟨d0, d1⟩ := hw 3
  simp only [List.getD_cons_zero, List.getD_cons_succ] at a0 a1 b0 b1 c0 c1 d0 d1
  have HX := Lib.hid hx
  obtain ⟨g, off, rfl, hg, hc⟩ := hx (by simp)
  have HB := Lib.hid (below_al (Below.refl _ w) (.cells #[.int .u64 p, .slice y 4 cy] 123))
  have HY := Lib.hid ((hy.below HB.out).more HB.out.size)
  have hp := cir_p w 123 p (.slice y 4 cy)
  have hq := cir_l w 123 p (.slice y 4 cy)
  have hc0 : (w.alloc (.cells #[.int .u64 p, .slice y 4 cy] 123)).cell? ⟨g, off, none⟩ = some (.int .u64 a) := (HB.out.cell (p := ⟨g, off, none⟩) hg).trans (hc 0 (by simp))
  have hc1 : (w.alloc (.cells #[.int .u64 p, .slice y 4 cy] 123)).cell? ⟨g, off + 1, none⟩ = some (.int .u64 b) := (HB.out.cell (p := ⟨g, off + 1, none⟩) hg).trans (hc 1 (by simp))
  have hc2 : (w.alloc (.cells #[.int .u64 p, .slice y 4 cy] 123)).cell? ⟨g, off + 2, none⟩ = some (.int .u64 c) := (HB.out.cell (p := ⟨g, off + 2, none⟩) hg).trans (hc 2 (by simp))
  have hc3 : (w.alloc (.cells #[.int .u64 p, .slice y 4 cy] 123)).cell? ⟨g, off + 3, none⟩ = some (.int .u64 d) := (HB.out.cell (p := ⟨g, off + 3, none⟩) hg).trans (hc 3 (by simp))
  have hmx : Tryd.prog.follows .mixedOrders = true := by kernel_rfl
  obtain ⟨u, hu⟩ : ∃ u, u = Fp.mul p (pt p inv 4 1) (Fp.sub p b d) := ⟨_, rfl⟩
  obtain ⟨v, hv⟩ : ∃ v, v = Fp.sub p a c := ⟨_, rfl⟩
  obtain ⟨E, hE⟩ : ∃ E, E = smL p [a, c] := ⟨_, rfl⟩
  obtain ⟨O, hO⟩ : ∃ O, O = smL p [b, d] := ⟨_, rfl⟩
  have HU := Lib.hid hu
  have HV := Lib.hid hv
  have HE := Lib.hid hE
  have HO := Lib.hid hO
  have hub : 0 ≤ u ∧ u < 18446744069414584321 := by rw [hu]; exact ⟨(Fp.mul_bd _ _ _).1, (Fp.mul_bd _ _ _).2.1⟩
  have hvb : 0 ≤ v ∧ v < 18446744069414584321 := by rw [hv]; exact ⟨(Fp.sub_bd _ _ _).1, (Fp.sub_bd _ _ _).2.1⟩
  have hEb : 0 ≤ E ∧ E < p := by rw [hE]; exact smL_bd h.kn _
  have hOb : 0 ≤ O ∧ O < p := by rw [hO]; exact smL_bd h.kn _
  rw [← hu, ← hv, ← hE, ← hO]
  have HSB := Lib.hid (Fp.sub_bd p b d)
  have HW1 : Hid (Words [a, c]) := Lib.hid (words2 ⟨a0, a1⟩ ⟨c0, c1⟩)
  have HW2 : Hid (Words [b, d]) := Lib.hid (words2 ⟨b0, b1⟩ ⟨d0, d1⟩)
  have HW3 : Hid (Words [E, O]) := Lib.hid (words2 (by omega) (by omega))
  have HW4 : Hid (Words [v, u]) := Lib.hid (words2 (by omega) (by omega))
  clear hc hx h hf hw hu hv hE hO HX hy
  go_enter Tryd.func114, Tryd.ntmps114
  go_upto_region 1 with fail
  obtain ⟨W, hW⟩ : ∃ W, W = w.alloc (.cells #[.int .u64 p, .slice y 4 cy] 123) := ⟨_, rfl⟩
  rw [← hW] at hp hq hc0 hc1 hc2 hc3 HB HY ⊢
  clear hW
  go_cut [5, 6] from 9 to 26 (fun s t wx => s = .int .u64 E ∧ t = .int .u64 O ∧ Hid (Below W.heap.size W wx))
  case first =>
    have kp := fun s : Since W => s.at hp
    have kq := fun s : Since W => s.at hq
    have k0 := fun s : Since W => s.at hc0
    have k1 := fun s : Since W => s.at hc1
    have k2 := fun s : Since W => s.at hc2
    have k3 := fun s : Since W => s.at hc3
    have hS0 : Below W.heap.size W W.drew := draws_below _ W 1
    refine region_readsL (C := fun w' => ∃ s : Since W, w' = s.out) [0, 1, 2, 3, 4, 5, 6, 9, 10, 11, 12, 13, 14, 15] hmx (by kernel_rfl) rfl (by kernel_rfl) ⟨⟨_, hS0⟩, rfl⟩ ?_
    simp only [List.map_cons, List.map_nil, List.getD_cons_zero, List.getD_cons_succ]
    repeat (go_big_quiet_step (skip))
    refine wpQuiet_nil ?_
    clear kp kq k0 k1 k2 k3 hp hq hc0 hc1 hc2 hc3
    show anyC _ _ _ _ _ 19 6 _ _ _
    obtain ⟨W0, hW0⟩ : ∃ W0, W0 = W.drew := ⟨_, rfl⟩
    rw [← hW0] at hS0 ⊢
    clear hW0
    refine anyC_two (i := 7) (j := 16) (by kernel_rfl) (wpOp_of_list rfl ?_) (wpOp_of_list rfl ?_)
    · skip
      go_wp2
      have hS1 := below_al hS0 (.cells #[.int .u64 a, .int .u64 c] 22)
      have HR1 := Lib.hid (nums_reads W0 22 [a, c])
      refine ⟨rfl, fun _ => ⟨⟨_, hS1⟩, rfl⟩, ?_⟩
      obtain ⟨W1, hW1⟩ : ∃ W1, W1 = W0.alloc (.cells #[.int .u64 a, .int .u64 c] 22) := ⟨_, rfl⟩
      rw [← hW1] at hS1 ⊢
      replace HR1 : Hid (Reads .u64 W1 W1.heap.size (some ⟨W0.heap.size, 0, none⟩) [a, c]) := Lib.hid (by rw [hW1]; exact HR1.out)
      clear hW1
      refine anyC_two (i := 8) (j := 16) (by kernel_rfl) (wpOp_of_list rfl ?_) (wpOp_of_list rfl ?_)
      · skip
        go_wp2_with (go_at_call 121; refine (cirsum_any p _ _ _ _ _ _ [a, c] _ H.out HR1.out rfl HW1.out (by unfold maxLen; simp)).mono ?_; rw [← HE.out]; rintro e W2 ⟨rfl, hb2⟩)
        have hS2 := below_then hS1 hb2
        refine ⟨rfl, fun _ => ⟨⟨_, hS2⟩, rfl⟩, ?_⟩
        refine anyC_one (i := 16) (by kernel_rfl) (wpOp_of_list rfl ?_)
        go_wp2
        have hS3 := below_al hS2 (.cells #[.int .u64 b, .int .u64 d] 22)
        have HR3 := Lib.hid (nums_reads W2 22 [b, d])
        refine ⟨rfl, fun _ => ⟨⟨_, hS3⟩, rfl⟩, ?_⟩
        obtain ⟨W3, hW3⟩ : ∃ W3, W3 = W2.alloc (.cells #[.int .u64 b, .int .u64 d] 22) := ⟨_, rfl⟩
        rw [← hW3] at hS3 ⊢
        replace HR3 : Hid (Reads .u64 W3 W3.heap.size (some ⟨W2.heap.size, 0, none⟩) [b, d]) := Lib.hid (by rw [hW3]; exact HR3.out)
        clear hW3
        refine anyC_one (i := 17) (by kernel_rfl) (wpOp_of_list rfl ?_)
        go_wp2_with (go_at_call 121; refine (cirsum_any p _ _ _ _ _ _ [b, d] _ H.out HR3.out rfl HW2.out (by unfold maxLen; simp)).mono ?_; rw [← HO.out]; rintro e W4 ⟨rfl, hb4⟩)
        have hS4 := below_then hS3 hb4
        refine ⟨rfl, fun _ => ⟨⟨_, hS4⟩, rfl⟩, ?_⟩
        refine anyC_one (i := 18) (by kernel_rfl) (wpOp_of_list rfl ?_)
        go_wp2
        refine ⟨rfl, fun _ => ⟨⟨_, hS4⟩, rfl⟩, ?_⟩
        refine anyC_one (i := 19) (by kernel_rfl) (wpOp_of_list rfl ?_)
        go_wp2
        refine ⟨rfl, fun h => absurd rfl h, anyC_end (by kernel_rfl) ⟨rfl, ?_⟩⟩
        go_wp2
        go_meet
        exact ⟨rfl, rfl, Lib.hid hS4⟩
      · skip
        go_wp2
        have hS2 := below_al hS1 (.cells #[.int .u64 b, .int .u64 d] 22)
        have HR2 := Lib.hid (nums_reads W1 22 [b, d])
        refine ⟨rfl, fun _ => ⟨⟨_, hS2⟩, rfl⟩, ?_⟩
        obtain ⟨W2, hW2⟩ : ∃ W2, W2 = W1.alloc (.cells #[.int .u64 b, .int .u64 d] 22) := ⟨_, rfl⟩
        rw [← hW2] at hS2 ⊢
        replace HR2 : Hid (Reads .u64 W2 W2.heap.size (some ⟨W1.heap.size, 0, none⟩) [b, d]) := Lib.hid (by rw [hW2]; exact HR2.out)
        have hb2 : Below W1.heap.size W1 W2 := by rw [hW2]; exact below_al (Below.refl _ _) _
        clear hW2
        refine anyC_one (i := 8) (by kernel_rfl) (wpOp_of_list rfl ?_)
        go_wp2_with (go_at_call 121; refine (cirsum_any p _ _ _ _ _ _ [a, c] _ H.out ((HR1.out.below hb2).more hb2.size) rfl HW1.out (by unfold maxLen; simp)).mono ?_; rw [← HE.out]; rintro e W3 ⟨rfl, hb3⟩)
        have hS3 := below_then hS2 hb3
        refine ⟨rfl, fun _ => ⟨⟨_, hS3⟩, rfl⟩, ?_⟩
        refine anyC_one (i := 17) (by kernel_rfl) (wpOp_of_list rfl ?_)
        go_wp2_with (go_at_call 121; refine (cirsum_any p _ _ _ _ _ _ [b, d] _ H.out ((HR2.out.below hb3).more hb3.size) rfl HW2.out (by unfold maxLen; simp)).mono ?_; rw [← HO.out]; rintro e W4 ⟨rfl, hb4⟩)
        have hS4 := below_then hS3 hb4
        refine ⟨rfl, fun _ => ⟨⟨_, hS4⟩, rfl⟩, ?_⟩
        refine anyC_one (i := 18) (by kernel_rfl) (wpOp_of_list rfl ?_)
        go_wp2
        refine ⟨rfl, fun _ => ⟨⟨_, hS4⟩, rfl⟩, ?_⟩
        refine anyC_one (i := 19) (by kernel_rfl) (wpOp_of_list rfl ?_)
        go_wp2
        refine ⟨rfl, fun h => absurd rfl h, anyC_end (by kernel_rfl) ⟨rfl, ?_⟩⟩
        go_wp2
        go_meet
        exact ⟨rfl, rfl, Lib.hid hS4⟩
    · skip
      go_wp2
      have hS1 := below_al hS0 (.cells #[.int .u64 b, .int .u64 d] 22)
      have HR1 := Lib.hid (nums_reads W0 22 [b, d])
      refine ⟨rfl, fun _ => ⟨⟨_, hS1⟩, rfl⟩, ?_⟩
      obtain ⟨W1, hW1⟩ : ∃ W1, W1 = W0.alloc (.cells #[.int .u64 b, .int .u64 d] 22) := ⟨_, rfl⟩
      rw [← hW1] at hS1 ⊢
      replace HR1 : Hid (Reads .u64 W1 W1.heap.size (some ⟨W0.heap.size, 0, none⟩) [b, d]) := Lib.hid (by rw [hW1]; exact HR1.out)
      clear hW1
      refine anyC_one (i := 7) (by kernel_rfl) (wpOp_of_list rfl ?_)
      go_wp2
      have hS2 := below_al hS1 (.cells #[.int .u64 a, .int .u64 c] 22)
      have HR2 := Lib.hid (nums_reads W1 22 [a, c])
      refine ⟨rfl, fun _ => ⟨⟨_, hS2⟩, rfl⟩, ?_⟩
      obtain ⟨W2, hW2⟩ : ∃ W2, W2 = W1.alloc (.cells #[.int .u64 a, .int .u64 c] 22) := ⟨_, rfl⟩
      rw [← hW2] at hS2 ⊢
      replace HR2 : Hid (Reads .u64 W2 W2.heap.size (some ⟨W1.heap.size, 0, none⟩) [a, c]) := Lib.hid (by rw [hW2]; exact HR2.out)
      have hb2 : Below W1.heap.size W1 W2 := by rw [hW2]; exact below_al (Below.refl _ _) _
      clear hW2
      refine anyC_one (i := 8) (by kernel_rfl) (wpOp_of_list rfl ?_)
      go_wp2_with (go_at_call 121; refine (cirsum_any p _ _ _ _ _ _ [a, c] _ H.out HR2.out rfl HW1.out (by unfold maxLen; simp)).mono ?_; rw [← HE.out]; rintro e W3 ⟨rfl, hb3⟩)
      have hS3 := below_then hS2 hb3
      refine ⟨rfl, fun _ => ⟨⟨_, hS3⟩, rfl⟩, ?_⟩
      refine anyC_one (i := 17) (by kernel_rfl) (wpOp_of_list rfl ?_)
      have hb13 := below_then hb2 hb3
      go_wp2_with (go_at_call 121; refine (cirsum_any p _ _ _ _ _ _ [b, d] _ H.out ((HR1.out.below hb13).more hb13.size) rfl HW2.out (by unfold maxLen; simp)).mono ?_; rw [← HO.out]; rintro e W4 ⟨rfl, hb4⟩)
      have hS4 := below_then hS3 hb4
      refine ⟨rfl, fun _ => ⟨⟨_, hS4⟩, rfl⟩, ?_⟩
      refine anyC_one (i := 18) (by kernel_rfl) (wpOp_of_list rfl ?_)
      go_wp2
      refine ⟨rfl, fun _ => ⟨⟨_, hS4⟩, rfl⟩, ?_⟩
      refine anyC_one (i := 19) (by kernel_rfl) (wpOp_of_list rfl ?_)
      go_wp2
      refine ⟨rfl, fun h => absurd rfl h, anyC_end (by kernel_rfl) ⟨rfl, ?_⟩⟩
      go_wp2
      go_meet
      exact ⟨rfl, rfl, Lib.hid hS4⟩
  case rest =>
    obtain ⟨rfl, rfl, hB1⟩ := hcut
    replace hp := (Since.mk wc hB1.out).at hp
    replace hq := (Since.mk wc hB1.out).at hq
    replace hc0 := (Since.mk wc hB1.out).at hc0
    replace hc1 := (Since.mk wc hB1.out).at hc1
    replace hc2 := (Since.mk wc hB1.out).at hc2
    replace hc3 := (Since.mk wc hB1.out).at hc3
    dsimp only at hp hq hc0 hc1 hc2 hc3
    replace HY := Lib.hid ((HY.out.below hB1.out).more hB1.out.size)
    replace HB := Lib.hid (below_then HB.out hB1.out)
    clear hB1
    have kp := fun s : Since wc => s.at hp
    have kq := fun s : Since wc => s.at hq
    have k0 := fun s : Since wc => s.at hc0
    have k1 := fun s : Since wc => s.at hc1
    have k2 := fun s : Since wc => s.at hc2
    have k3 := fun s : Since wc => s.at hc3
    go_wp2
    refine wp_region_since (by kernel_rfl) (by kernel_rfl) ?_
    repeat (go_big_quiet_step (first
      | (go_at_call 122; rename_i s; exact since_call s (cless_any _ _ _ _ _ _ _ (by omega) (by omega) (by omega) (by omega)))
      | (go_at_call 123; rename_i s; exact since_call s (ctpt_any p _ _ inv 4 1 _ _ _ rfl ((HY.out.below s.below).more s.below.size) (by omega) (by omega) HSB.out.1 (by have := HSB.out; omega)))))
    refine wpQuiet_nil ?_
    rw [← HU.out, ← HV.out]
    rintro W1 ⟨⟨_, hB1⟩, rfl⟩
    clear kp kq k0 k1 k2 k3 hc0 hc1 hc2 hc3
    replace hp := (Since.mk W1 hB1).at hp
    replace hq := (Since.mk W1 hB1).at hq
    dsimp only at hp hq
    replace HB := Lib.hid (below_then HB.out hB1)
    clear hB1 HY
    go_wp2
    have kp := fun s : Since W1 => s.at hp
    have kq := fun s : Since W1 => s.at hq
    have hS0 : Below W1.heap.size W1 W1.drew := draws_below _ W1 1
    refine region_readsL (C := fun w' => ∃ s : Since W1, w' = s.out) [0, 1, 2, 5, 6, 7, 10, 11, 12, 14, 15, 16] hmx (by kernel_rfl) rfl (by kernel_rfl) ⟨⟨_, hS0⟩, rfl⟩ ?_
    simp only [List.map_cons, List.map_nil, List.getD_cons_zero, List.getD_cons_succ]
    repeat (go_big_quiet_step (skip))
    refine wpQuiet_nil ?_
    clear kp kq hp hq
    show anyC _ _ _ _ _ 19 8 _ _ _
    obtain ⟨W0, hW0⟩ : ∃ W0, W0 = W1.drew := ⟨_, rfl⟩
    rw [← hW0] at hS0 ⊢
    clear hW0
    refine anyC_two (i := 3) (j := 8) (by kernel_rfl) (wpOp_of_list rfl ?_) (wpOp_of_list rfl ?_)
    · skip
      go_wp2
      have hS2 := below_al hS0 (.cells #[.int .u64 E, .int .u64 O] 22)
      have HR2 := Lib.hid (nums_reads W0 22 [E, O])
      refine ⟨rfl, fun _ => ⟨⟨_, hS2⟩, rfl⟩, ?_⟩
      obtain ⟨W2, hW2⟩ : ∃ W2, W2 = W0.alloc (.cells #[.int .u64 E, .int .u64 O] 22) := ⟨_, rfl⟩
      rw [← hW2] at hS2 ⊢
      replace HR2 : Hid (Reads .u64 W2 W2.heap.size (some ⟨W0.heap.size, 0, none⟩) [E, O]) := Lib.hid (by rw [hW2]; exact HR2.out)
      clear hW2
      refine anyC_two (i := 4) (j := 8) (by kernel_rfl) (wpOp_of_list rfl ?_) (wpOp_of_list rfl ?_)
      · skip
        go_wp2_with (go_at_call 121; refine (cirsum_any p _ _ _ _ _ _ [E, O] _ H.out HR2.out rfl HW3.out (by unfold maxLen; simp)).mono ?_; rintro e W3 ⟨rfl, hb3⟩)
        have hS3 := below_then hS2 hb3
        refine ⟨rfl, fun _ => ⟨⟨_, hS3⟩, rfl⟩, ?_⟩
        refine anyC_one (i := 8) (by kernel_rfl) (wpOp_of_list rfl ?_)
        go_wp2
        have hS4 := below_al hS3 (.cells #[.int .u64 v, .int .u64 u] 22)
        have HR4 := Lib.hid (nums_reads W3 22 [v, u])
        refine ⟨rfl, fun _ => ⟨⟨_, hS4⟩, rfl⟩, ?_⟩
        obtain ⟨W4, hW4⟩ : ∃ W4, W4 = W3.alloc (.cells #[.int .u64 v, .int .u64 u] 22) := ⟨_, rfl⟩
        rw [← hW4] at hS4 ⊢
        replace HR4 : Hid (Reads .u64 W4 W4.heap.size (some ⟨W3.heap.size, 0, none⟩) [v, u]) := Lib.hid (by rw [hW4]; exact HR4.out)
        clear hW4
        refine anyC_one (i := 9) (by kernel_rfl) (wpOp_of_list rfl ?_)
        go_wp2_with (go_at_call 121; refine (cirsum_any p _ _ _ _ _ _ [v, u] _ H.out HR4.out rfl HW4.out (by unfold maxLen; simp)).mono ?_; rintro e W5 ⟨rfl, hb5⟩)
        have hS5 := below_then hS4 hb5
        refine ⟨rfl, fun _ => ⟨⟨_, hS5⟩, rfl⟩, ?_⟩
        refine anyC_one (i := 13) (by kernel_rfl) (wpOp_of_list rfl ?_)
        go_wp2_with (go_at_call 122; refine (cless_any _ _ _ _ _ _ _ (by omega) (by omega) (by omega) (by omega)).mono ?_; rintro e W6 ⟨rfl, hb6⟩)
        have hS6 := below_then hS5 hb6
        refine ⟨rfl, fun _ => ⟨⟨_, hS6⟩, rfl⟩, ?_⟩
        refine anyC_one (i := 17) (by kernel_rfl) (wpOp_of_list rfl ?_)
        go_wp2_with (go_at_call 122; refine (cless_any _ _ _ _ _ _ _ (by omega) (by omega) (by omega) (by omega)).mono ?_; rintro e W7 ⟨rfl, hb7⟩)
        have hS7 := below_then hS6 hb7
        refine ⟨rfl, fun _ => ⟨⟨_, hS7⟩, rfl⟩, ?_⟩
        refine anyC_one (i := 18) (by kernel_rfl) (wpOp_of_list rfl ?_)
        go_wp2
        have hS8 := below_al hS7 (.cells #[.int .u64 (smL p [E, O]), .int .u64 (smL p [v, u]), .int .u64 (Fp.sub p E O), .int .u64 (Fp.sub p v u)] 22)
        refine ⟨rfl, fun _ => ⟨⟨_, hS8⟩, rfl⟩, ?_⟩
        refine anyC_one (i := 19) (by kernel_rfl) (wpOp_of_list rfl ?_)
        go_wp2
        refine ⟨rfl, fun h => absurd rfl h, anyC_end (by kernel_rfl) ⟨rfl, ?_⟩⟩
        go_wp2
        go_ret
        have hz : w.heap.size ≤ W7.heap.size := (below_then HB.out hS7).size
        exact ⟨_, rfl, nums_owns W7 [smL p [E, O], smL p [v, u], Fp.sub p E O, Fp.sub p v u] _ hz (by unfold maxLen; simp), below_then HB.out hS8⟩
      · skip
        go_wp2
        have hS3 := below_al hS2 (.cells #[.int .u64 v, .int .u64 u] 22)
        have HR3 := Lib.hid (nums_reads W2 22 [v, u])
        refine ⟨rfl, fun _ => ⟨⟨_, hS3⟩, rfl⟩, ?_⟩
        obtain ⟨W3, hW3⟩ : ∃ W3, W3 = W2.alloc (.cells #[.int .u64 v, .int .u64 u] 22) := ⟨_, rfl⟩
        rw [← hW3] at hS3 ⊢
        replace HR3 : Hid (Reads .u64 W3 W3.heap.size (some ⟨W2.heap.size, 0, none⟩) [v, u]) := Lib.hid (by rw [hW3]; exact HR3.out)
        have hb3 : Below W2.heap.size W2 W3 := by rw [hW3]; exact below_al (Below.refl _ _) _
        clear hW3
        refine anyC_one (i := 4) (by kernel_rfl) (wpOp_of_list rfl ?_)
        go_wp2_with (go_at_call 121; refine (cirsum_any p _ _ _ _ _ _ [E, O] _ H.out ((HR2.out.below hb3).more hb3.size) rfl HW3.out (by unfold maxLen; simp)).mono ?_; rintro e W4 ⟨rfl, hb4⟩)
        have hS4 := below_then hS3 hb4
        refine ⟨rfl, fun _ => ⟨⟨_, hS4⟩, rfl⟩, ?_⟩
        refine anyC_one (i := 9) (by kernel_rfl) (wpOp_of_list rfl ?_)
        go_wp2_with (go_at_call 121; refine (cirsum_any p _ _ _ _ _ _ [v, u] _ H.out ((HR3.out.below hb4).more hb4.size) rfl HW4.out (by unfold maxLen; simp)).mono ?_; rintro e W5 ⟨rfl, hb5⟩)
        have hS5 := below_then hS4 hb5
        refine ⟨rfl, fun _ => ⟨⟨_, hS5⟩, rfl⟩, ?_⟩
        refine anyC_one (i := 13) (by kernel_rfl) (wpOp_of_list rfl ?_)
        go_wp2_with (go_at_call 122; refine (cless_any _ _ _ _ _ _ _ (by omega) (by omega) (by omega) (by omega)).mono ?_; rintro e W6 ⟨rfl, hb6⟩)
        have hS6 := below_then hS5 hb6
        refine ⟨rfl, fun _ => ⟨⟨_, hS6⟩, rfl⟩, ?_⟩
        refine anyC_one (i := 17) (by kernel_rfl) (wpOp_of_list rfl ?_)
        go_wp2_with (go_at_call 122; refine (cless_any _ _ _ _ _ _ _ (by omega) (by omega) (by omega) (by omega)).mono ?_; rintro e W7 ⟨rfl, hb7⟩)
        have hS7 := below_then hS6 hb7
        refine ⟨rfl, fun _ => ⟨⟨_, hS7⟩, rfl⟩, ?_⟩
        refine anyC_one (i := 18) (by kernel_rfl) (wpOp_of_list rfl ?_)
        go_wp2
        have hS8 := below_al hS7 (.cells #[.int .u64 (smL p [E, O]), .int .u64 (smL p [v, u]), .int .u64 (Fp.sub p E O), .int .u64 (Fp.sub p v u)] 22)
        refine ⟨rfl, fun _ => ⟨⟨_, hS8⟩, rfl⟩, ?_⟩
        refine anyC_one (i := 19) (by kernel_rfl) (wpOp_of_list rfl ?_)
        go_wp2
        refine ⟨rfl, fun h => absurd rfl h, anyC_end (by kernel_rfl) ⟨rfl, ?_⟩⟩
        go_wp2
        go_ret
        have hz : w.heap.size ≤ W7.heap.size := (below_then HB.out hS7).size
        exact ⟨_, rfl, nums_owns W7 [smL p [E, O], smL p [v, u], Fp.sub p E O, Fp.sub p v u] _ hz (by unfold maxLen; simp), below_then HB.out hS8⟩
    · skip
      go_wp2
      have hS2 := below_al hS0 (.cells #[.int .u64 v, .int .u64 u] 22)
      have HR2 := Lib.hid (nums_reads W0 22 [v, u])
      refine ⟨rfl, fun _ => ⟨⟨_, hS2⟩, rfl⟩, ?_⟩
      obtain ⟨W2, hW2⟩ : ∃ W2, W2 = W0.alloc (.cells #[.int .u64 v, .int .u64 u] 22) := ⟨_, rfl⟩
      rw [← hW2] at hS2 ⊢
      replace HR2 : Hid (Reads .u64 W2 W2.heap.size (some ⟨W0.heap.size, 0, none⟩) [v, u]) := Lib.hid (by rw [hW2]; exact HR2.out)
      clear hW2
      refine anyC_one (i := 3) (by kernel_rfl) (wpOp_of_list rfl ?_)
      go_wp2
      have hS3 := below_al hS2 (.cells #[.int .u64 E, .int .u64 O] 22)
      have HR3 := Lib.hid (nums_reads W2 22 [E, O])
      refine ⟨rfl, fun _ => ⟨⟨_, hS3⟩, rfl⟩, ?_⟩
      obtain ⟨W3, hW3⟩ : ∃ W3, W3 = W2.alloc (.cells #[.int .u64 E, .int .u64 O] 22) := ⟨_, rfl⟩
      rw [← hW3] at hS3 ⊢
      replace HR3 : Hid (Reads .u64 W3 W3.heap.size (some ⟨W2.heap.size, 0, none⟩) [E, O]) := Lib.hid (by rw [hW3]; exact HR3.out)
      have hb3 : Below W2.heap.size W2 W3 := by rw [hW3]; exact below_al (Below.refl _ _) _
      clear hW3
      refine anyC_one (i := 4) (by kernel_rfl) (wpOp_of_list rfl ?_)
      go_wp2_with (go_at_call 121; refine (cirsum_any p _ _ _ _ _ _ [E, O] _ H.out HR3.out rfl HW3.out (by unfold maxLen; simp)).mono ?_; rintro e W4 ⟨rfl, hb4⟩)
      have hS4 := below_then hS3 hb4
      refine ⟨rfl, fun _ => ⟨⟨_, hS4⟩, rfl⟩, ?_⟩
      have hb24 := below_then hb3 hb4
      refine anyC_one (i := 9) (by kernel_rfl) (wpOp_of_list rfl ?_)
      go_wp2_with (go_at_call 121; refine (cirsum_any p _ _ _ _ _ _ [v, u] _ H.out ((HR2.out.below hb24).more hb24.size) rfl HW4.out (by unfold maxLen; simp)).mono ?_; rintro e W5 ⟨rfl, hb5⟩)
      have hS5 := below_then hS4 hb5
      refine ⟨rfl, fun _ => ⟨⟨_, hS5⟩, rfl⟩, ?_⟩
      refine anyC_one (i := 13) (by kernel_rfl) (wpOp_of_list rfl ?_)
      go_wp2_with (go_at_call 122; refine (cless_any _ _ _ _ _ _ _ (by omega) (by omega) (by omega) (by omega)).mono ?_; rintro e W6 ⟨rfl, hb6⟩)
      have hS6 := below_then hS5 hb6
      refine ⟨rfl, fun _ => ⟨⟨_, hS6⟩, rfl⟩, ?_⟩
      refine anyC_one (i := 17) (by kernel_rfl) (wpOp_of_list rfl ?_)
      go_wp2_with (go_at_call 122; refine (cless_any _ _ _ _ _ _ _ (by omega) (by omega) (by omega) (by omega)).mono ?_; rintro e W7 ⟨rfl, hb7⟩)
      have hS7 := below_then hS6 hb7
      refine ⟨rfl, fun _ => ⟨⟨_, hS7⟩, rfl⟩, ?_⟩
      refine anyC_one (i := 18) (by kernel_rfl) (wpOp_of_list rfl ?_)
      go_wp2
      have hS8 := below_al hS7 (.cells #[.int .u64 (smL p [E, O]), .int .u64 (smL p [v, u]), .int .u64 (Fp.sub p E O), .int .u64 (Fp.sub p v u)] 22)
      refine ⟨rfl, fun _ => ⟨⟨_, hS8⟩, rfl⟩, ?_⟩
      refine anyC_one (i := 19) (by kernel_rfl) (wpOp_of_list rfl ?_)
      go_wp2
      refine ⟨rfl, fun h => absurd rfl h, anyC_end (by kernel_rfl) ⟨rfl, ?_⟩⟩
      go_wp2
      go_ret
      have hz : w.heap.size ≤ W7.heap.size := (below_then HB.out hS7).size
      exact ⟨_, rfl, nums_owns W7 [smL p [E, O], smL p [v, u], Fp.sub p E O, Fp.sub p v u] _ hz (by unfold maxLen; simp), below_then HB.out hS8⟩

end Go.Proofs.YtlbfllaaabginaaDoor

/-!   What fly's methods of a radix come to: five words.
-/

namespace Go.Proofs.YtlbfllaaabginaaDoor
open Go.RowKit Fly

theorem words4 {a b c d : Int} (ha : 0 ≤ a ∧ a < 18446744073709551616) (hb : 0 ≤ b ∧ b < 18446744073709551616) (hc : 0 ≤ c ∧ c < 18446744073709551616) (hd : 0 ≤ d ∧ d < 18446744073709551616) : Words [a, b, c, d] := fun j => by
  rcases j with _ | _ | _ | _ | j <;> simp [ha, hb, hc, hd]

set_option maxRecDepth 100000 in
set_option maxHeartbeats 8000000 in
theorem cfive_any (p a b c d e : Int) (inv : Bool) (y : Option Addr) (cy : Nat) (x : Option Addr) (cap : Nat) (w : World) (h : Rdx p 5) (hf : Fine p [a, b, c, d, e]) (hw : Words [a, b, c, d, e]) (hx : Reads .u64 w w.heap.size x [a, b, c, d, e]) (hy : Reads .u64 w w.heap.size y (ptL p inv 5)) :
    Calls Tryd.prog 115 #[.agg #[.int .u64 p, .slice y 5 cy], .slice x 5 cap] w (RetNums w (doL p inv [a, b, c, d, e])) := by
  rw [do5 h inv hf]
  unfold s5
  have H := Lib.hid h.kn
  obtain ⟨p1, p2⟩ := Fp.kn_bd h.kn
  have HW := Lib.hid hw
  obtain ⟨a0, a1⟩ := hw 0
  obtain ⟨b0, b1⟩ := hw 1
  obtain ⟨c0, c1⟩ := hw 2
  obtain ⟨d0, d1⟩ := hw 3
  obtain ⟨e0, e1⟩ := hw 4
  simp only [List.getD_cons_zero, List.getD_cons_succ] at a0 a1 b0 b1 c0 c1 d0 d1 e0 e1
  have HX := Lib.hid hx
  obtain ⟨g, off, rfl, hg, hc⟩ := hx (by simp)
  have HB := Lib.hid (below_al (Below.refl _ w) (.cells #[.int .u64 p, .slice y 5 cy] 123))
  have HY := Lib.hid ((hy.below HB.out).more HB.out.size)
  have HXW := Lib.hid ((HX.out.below HB.out).more HB.out.size)
  have hp := cir_p w 123 p (.slice y 5 cy)
  have hq := cir_l w 123 p (.slice y 5 cy)
  have hc0 : (w.alloc (.cells #[.int .u64 p, .slice y 5 cy] 123)).cell? ⟨g, off, none⟩ = some (.int .u64 a) := (HB.out.cell (p := ⟨g, off, none⟩) hg).trans (hc 0 (by simp))
  have hc1 : (w.alloc (.cells #[.int .u64 p, .slice y 5 cy] 123)).cell? ⟨g, off + 1, none⟩ = some (.int .u64 b) := (HB.out.cell (p := ⟨g, off + 1, none⟩) hg).trans (hc 1 (by simp))
  have hc2 : (w.alloc (.cells #[.int .u64 p, .slice y 5 cy] 123)).cell? ⟨g, off + 2, none⟩ = some (.int .u64 c) := (HB.out.cell (p := ⟨g, off + 2, none⟩) hg).trans (hc 2 (by simp))
  have hc3 : (w.alloc (.cells #[.int .u64 p, .slice y 5 cy] 123)).cell? ⟨g, off + 3, none⟩ = some (.int .u64 d) := (HB.out.cell (p := ⟨g, off + 3, none⟩) hg).trans (hc 3 (by simp))
  have hc4 : (w.alloc (.cells #[.int .u64 p, .slice y 5 cy] 123)).cell? ⟨g, off + 4, none⟩ = some (.int .u64 e) := (HB.out.cell (p := ⟨g, off + 4, none⟩) hg).trans (hc 4 (by simp))
  have hmx : Tryd.prog.follows .mixedOrders = true := by kernel_rfl
  have HMB : Hid (∀ i j, 0 ≤ Fp.mul p i j ∧ Fp.mul p i j < 18446744073709551616) := Lib.hid (fun i j => ⟨(Fp.mul_bd p i j).1, by have := (Fp.mul_bd p i j).2.1; omega⟩)
  obtain ⟨f0, hf0⟩ : ∃ f, f = Fp.sub p a e := ⟨_, rfl⟩
  have HF0 := Lib.hid hf0
  have hb0 : 0 ≤ f0 ∧ f0 < 18446744073709551616 := by rw [hf0]; exact ⟨(Fp.sub_bd _ _ _).1, by have := (Fp.sub_bd p a e).2.1; omega⟩
  rw [← hf0]
  obtain ⟨f1, hf1⟩ : ∃ f, f = Fp.sub p b e := ⟨_, rfl⟩
  have HF1 := Lib.hid hf1
  have hb1 : 0 ≤ f1 ∧ f1 < 18446744073709551616 := by rw [hf1]; exact ⟨(Fp.sub_bd _ _ _).1, by have := (Fp.sub_bd p b e).2.1; omega⟩
  rw [← hf1]
  obtain ⟨f2, hf2⟩ : ∃ f, f = Fp.sub p c e := ⟨_, rfl⟩
  have HF2 := Lib.hid hf2
  have hb2 : 0 ≤ f2 ∧ f2 < 18446744073709551616 := by rw [hf2]; exact ⟨(Fp.sub_bd _ _ _).1, by have := (Fp.sub_bd p c e).2.1; omega⟩
  rw [← hf2]
  obtain ⟨f3, hf3⟩ : ∃ f, f = Fp.sub p d e := ⟨_, rfl⟩
  have HF3 := Lib.hid hf3
  have hb3 : 0 ≤ f3 ∧ f3 < 18446744073709551616 := by rw [hf3]; exact ⟨(Fp.sub_bd _ _ _).1, by have := (Fp.sub_bd p d e).2.1; omega⟩
  rw [← hf3]
  obtain ⟨t, ht⟩ : ∃ t, t = pt p inv 5 := ⟨_, rfl⟩
  have HT : Hid (∀ (i : Int) (k : Nat) (a : Int) (W : World), i = (k : Int) → Reads .u64 W W.heap.size y (ptL p inv 5) → k < 5 → 0 ≤ a ∧ a < 18446744073709551616 →
      Calls Tryd.prog 123 #[.agg #[.int .u64 p, .slice y 5 cy], .int .i64 i, .int .u64 a] W (RetB (.int .u64 (Fp.mul p (t k) a)) W)) := Lib.hid (fun i k a W hi hr hk ha => by
    rw [ht]
    exact ctpt_any p i a inv 5 k y cy W hi hr hk (by omega) ha.1 ha.2)
  rw [← ht]
  clear hc hx h hf hw hf0 hf1 hf2 hf3 HX hy ht
  go_enter Tryd.func115, Tryd.ntmps115
  go_wp2
  obtain ⟨W, hW⟩ : ∃ W, W = w.alloc (.cells #[.int .u64 p, .slice y 5 cy] 123) := ⟨_, rfl⟩
  rw [← hW] at hp hq hc0 hc1 hc2 hc3 hc4 HB HY HXW ⊢
  clear hW
  have kp := fun s : Since W => s.at hp
  have kq := fun s : Since W => s.at hq
  have k0 := fun s : Since W => s.at hc0
  have k1 := fun s : Since W => s.at hc1
  have k2 := fun s : Since W => s.at hc2
  have k3 := fun s : Since W => s.at hc3
  have k4 := fun s : Since W => s.at hc4
  refine wp_region_since (by kernel_rfl) (by kernel_rfl) ?_
  repeat (go_big_quiet_step (first | (go_at_call 122; rename_i s; exact since_call s (cless_any _ _ _ _ _ _ _ (by omega) (by omega) (by omega) (by omega)))))
  refine wpQuiet_nil ?_
  rw [← HF0.out, ← HF1.out, ← HF2.out, ← HF3.out]
  rintro W1 ⟨⟨_, hB1⟩, rfl⟩
  clear kp kq k0 k1 k2 k3 k4 hc0 hc1 hc2 hc3 hc4
  replace hp := (Since.mk W1 hB1).at hp
  replace hq := (Since.mk W1 hB1).at hq
  dsimp only at hp hq
  replace HB := Lib.hid (below_then HB.out hB1)
  replace HY := Lib.hid ((HY.out.below hB1).more hB1.size)
  replace HXW := Lib.hid ((HXW.out.below hB1).more hB1.size)
  clear hB1
  go_wp2
  have kp := fun s : Since W1 => s.at hp
  have kq := fun s : Since W1 => s.at hq
  have hS0 : Below W1.heap.size W1 W1.drew := draws_below _ W1 1
  refine region_readsL (C := fun w' => ∃ s : Since W1, w' = s.out) [0, 1, 3, 4, 5, 6, 8, 9, 11, 12, 16, 17, 18, 19, 21, 22, 24, 25, 29, 30, 31, 32, 34, 35, 37, 38, 42, 43, 44, 45, 47, 48, 50, 51] hmx (by kernel_rfl) rfl (by kernel_rfl) ⟨⟨_, hS0⟩, rfl⟩ ?_
  simp only [List.map_cons, List.map_nil, List.getD_cons_zero, List.getD_cons_succ]
  repeat (go_big_quiet_step (skip))
  refine wpQuiet_nil ?_
  clear kp kq hp hq
  show anyC _ _ _ _ _ 56 23 _ _ _
  obtain ⟨W0, hW0⟩ : ∃ W0, W0 = W1.drew := ⟨_, rfl⟩
  rw [← hW0] at hS0 ⊢
  clear hW0
  have HYZ := Lib.hid ((HY.out.below hS0).more hS0.size)
  have HXZ := Lib.hid ((HXW.out.below hS0).more hS0.size)
  clear HY HXW
  refine anyC_one (i := 2) (by kernel_rfl) (wpOp_of_list rfl ?_)
  go_wp2_with (go_at_call 121; refine (cirsum_any p _ _ _ _ _ _ [a, b, c, d, e] _ H.out HXZ.out rfl HW.out (by unfold maxLen; simp)).mono ?_; rintro e W2 ⟨rfl, hb⟩)
  have hS2 := below_then hS0 hb
  have HY2 := Lib.hid ((HYZ.out.below hb).more hb.size)
  refine ⟨rfl, fun _ => ⟨⟨_, hS2⟩, rfl⟩, ?_⟩
  clear hb
  refine anyC_one (i := 7) (by kernel_rfl) (wpOp_of_list rfl ?_)
  go_wp2_with (go_at_call 123; refine (HT.out _ 1 _ _ rfl HY2.out (by omega) hb1).mono ?_; rintro e W3 ⟨rfl, hb⟩)
  have hS3 := below_then hS2 hb
  have HY3 := Lib.hid ((HY2.out.below hb).more hb.size)
  clear hb HY2
  refine ⟨rfl, fun _ => ⟨⟨_, hS3⟩, rfl⟩, ?_⟩
  clear hS2
  refine anyC_one (i := 10) (by kernel_rfl) (wpOp_of_list rfl ?_)
  go_wp2_with (go_at_call 123; refine (HT.out _ 2 _ _ rfl HY3.out (by omega) hb2).mono ?_; rintro e W4 ⟨rfl, hb⟩)
  have hS4 := below_then hS3 hb
  have HY4 := Lib.hid ((HY3.out.below hb).more hb.size)
  clear hb HY3
  refine ⟨rfl, fun _ => ⟨⟨_, hS4⟩, rfl⟩, ?_⟩
  clear hS3
  refine anyC_one (i := 13) (by kernel_rfl) (wpOp_of_list rfl ?_)
  go_wp2_with (go_at_call 123; refine (HT.out _ 3 _ _ rfl HY4.out (by omega) hb3).mono ?_; rintro e W5 ⟨rfl, hb⟩)
  have hS5 := below_then hS4 hb
  have HY5 := Lib.hid ((HY4.out.below hb).more hb.size)
  clear hb HY4
  refine ⟨rfl, fun _ => ⟨⟨_, hS5⟩, rfl⟩, ?_⟩
  clear hS4
  refine anyC_one (i := 14) (by kernel_rfl) (wpOp_of_list rfl ?_)
  go_wp2
  have hS6 := below_al hS5 (.cells #[.int .u64 f0, .int .u64 (Fp.mul p (t 1) f1), .int .u64 (Fp.mul p (t 2) f2), .int .u64 (Fp.mul p (t 3) f3)] 22)
  have HR6 := Lib.hid (nums_reads W5 22 [f0, Fp.mul p (t 1) f1, Fp.mul p (t 2) f2, Fp.mul p (t 3) f3])
  refine ⟨rfl, fun _ => ⟨⟨_, hS6⟩, rfl⟩, ?_⟩
  obtain ⟨W6, hW6⟩ : ∃ W6, W6 = W5.alloc (.cells #[.int .u64 f0, .int .u64 (Fp.mul p (t 1) f1), .int .u64 (Fp.mul p (t 2) f2), .int .u64 (Fp.mul p (t 3) f3)] 22) := ⟨_, rfl⟩
  rw [← hW6] at hS6 ⊢
  replace HR6 : Hid (Reads .u64 W6 W6.heap.size (some ⟨W5.heap.size, 0, none⟩) [f0, Fp.mul p (t 1) f1, Fp.mul p (t 2) f2, Fp.mul p (t 3) f3]) := Lib.hid (by rw [hW6]; exact HR6.out)
  have hb : Below W5.heap.size W5 W6 := by rw [hW6]; exact below_al (Below.refl _ _) _
  have HY6 := Lib.hid ((HY5.out.below hb).more hb.size)
  clear hb HY5 hW6 hS5
  refine anyC_one (i := 15) (by kernel_rfl) (wpOp_of_list rfl ?_)
  go_wp2_with (go_at_call 121; refine (cirsum_any p _ _ _ _ _ _ [f0, Fp.mul p (t 1) f1, Fp.mul p (t 2) f2, Fp.mul p (t 3) f3] _ H.out HR6.out rfl (words4 hb0 (HMB.out _ _) (HMB.out _ _) (HMB.out _ _)) (by unfold maxLen; simp)).mono ?_; rintro e W7 ⟨rfl, hb⟩)
  have hS7 := below_then hS6 hb
  have HY7 := Lib.hid ((HY6.out.below hb).more hb.size)
  clear hb HY6 HR6
  refine ⟨rfl, fun _ => ⟨⟨_, hS7⟩, rfl⟩, ?_⟩
  clear hS6
  refine anyC_one (i := 20) (by kernel_rfl) (wpOp_of_list rfl ?_)
  go_wp2_with (go_at_call 123; refine (HT.out _ 2 _ _ rfl HY7.out (by omega) hb1).mono ?_; rintro e W8 ⟨rfl, hb⟩)
  have hS8 := below_then hS7 hb
  have HY8 := Lib.hid ((HY7.out.below hb).more hb.size)
  clear hb HY7
  refine ⟨rfl, fun _ => ⟨⟨_, hS8⟩, rfl⟩, ?_⟩
  clear hS7
  refine anyC_one (i := 23) (by kernel_rfl) (wpOp_of_list rfl ?_)
  go_wp2_with (go_at_call 123; refine (HT.out _ 4 _ _ rfl HY8.out (by omega) hb2).mono ?_; rintro e W9 ⟨rfl, hb⟩)
  have hS9 := below_then hS8 hb
  have HY9 := Lib.hid ((HY8.out.below hb).more hb.size)
  clear hb HY8
  refine ⟨rfl, fun _ => ⟨⟨_, hS9⟩, rfl⟩, ?_⟩
  clear hS8
  refine anyC_one (i := 26) (by kernel_rfl) (wpOp_of_list rfl ?_)
  go_wp2_with (go_at_call 123; refine (HT.out _ 1 _ _ rfl HY9.out (by omega) hb3).mono ?_; rintro e W10 ⟨rfl, hb⟩)
  have hS10 := below_then hS9 hb
  have HY10 := Lib.hid ((HY9.out.below hb).more hb.size)
  clear hb HY9
  refine ⟨rfl, fun _ => ⟨⟨_, hS10⟩, rfl⟩, ?_⟩
  clear hS9
  refine anyC_one (i := 27) (by kernel_rfl) (wpOp_of_list rfl ?_)
  go_wp2
  have hS11 := below_al hS10 (.cells #[.int .u64 f0, .int .u64 (Fp.mul p (t 2) f1), .int .u64 (Fp.mul p (t 4) f2), .int .u64 (Fp.mul p (t 1) f3)] 22)
  have HR11 := Lib.hid (nums_reads W10 22 [f0, Fp.mul p (t 2) f1, Fp.mul p (t 4) f2, Fp.mul p (t 1) f3])
  refine ⟨rfl, fun _ => ⟨⟨_, hS11⟩, rfl⟩, ?_⟩
  obtain ⟨W11, hW11⟩ : ∃ W11, W11 = W10.alloc (.cells #[.int .u64 f0, .int .u64 (Fp.mul p (t 2) f1), .int .u64 (Fp.mul p (t 4) f2), .int .u64 (Fp.mul p (t 1) f3)] 22) := ⟨_, rfl⟩
  rw [← hW11] at hS11 ⊢
  replace HR11 : Hid (Reads .u64 W11 W11.heap.size (some ⟨W10.heap.size, 0, none⟩) [f0, Fp.mul p (t 2) f1, Fp.mul p (t 4) f2, Fp.mul p (t 1) f3]) := Lib.hid (by rw [hW11]; exact HR11.out)
  have hb : Below W10.heap.size W10 W11 := by rw [hW11]; exact below_al (Below.refl _ _) _
  have HY11 := Lib.hid ((HY10.out.below hb).more hb.size)
  clear hb HY10 hW11 hS10
  refine anyC_one (i := 28) (by kernel_rfl) (wpOp_of_list rfl ?_)
  go_wp2_with (go_at_call 121; refine (cirsum_any p _ _ _ _ _ _ [f0, Fp.mul p (t 2) f1, Fp.mul p (t 4) f2, Fp.mul p (t 1) f3] _ H.out HR11.out rfl (words4 hb0 (HMB.out _ _) (HMB.out _ _) (HMB.out _ _)) (by unfold maxLen; simp)).mono ?_; rintro e W12 ⟨rfl, hb⟩)
  have hS12 := below_then hS11 hb
  have HY12 := Lib.hid ((HY11.out.below hb).more hb.size)
  clear hb HY11 HR11
  refine ⟨rfl, fun _ => ⟨⟨_, hS12⟩, rfl⟩, ?_⟩
  clear hS11
  refine anyC_one (i := 33) (by kernel_rfl) (wpOp_of_list rfl ?_)
  go_wp2_with (go_at_call 123; refine (HT.out _ 3 _ _ rfl HY12.out (by omega) hb1).mono ?_; rintro e W13 ⟨rfl, hb⟩)
  have hS13 := below_then hS12 hb
  have HY13 := Lib.hid ((HY12.out.below hb).more hb.size)
  clear hb HY12
  refine ⟨rfl, fun _ => ⟨⟨_, hS13⟩, rfl⟩, ?_⟩
  clear hS12
  refine anyC_one (i := 36) (by kernel_rfl) (wpOp_of_list rfl ?_)
  go_wp2_with (go_at_call 123; refine (HT.out _ 1 _ _ rfl HY13.out (by omega) hb2).mono ?_; rintro e W14 ⟨rfl, hb⟩)
  have hS14 := below_then hS13 hb
  have HY14 := Lib.hid ((HY13.out.below hb).more hb.size)
  clear hb HY13
  refine ⟨rfl, fun _ => ⟨⟨_, hS14⟩, rfl⟩, ?_⟩
  clear hS13
  refine anyC_one (i := 39) (by kernel_rfl) (wpOp_of_list rfl ?_)
  go_wp2_with (go_at_call 123; refine (HT.out _ 4 _ _ rfl HY14.out (by omega) hb3).mono ?_; rintro e W15 ⟨rfl, hb⟩)
  have hS15 := below_then hS14 hb
  have HY15 := Lib.hid ((HY14.out.below hb).more hb.size)
  clear hb HY14
  refine ⟨rfl, fun _ => ⟨⟨_, hS15⟩, rfl⟩, ?_⟩
  clear hS14
  refine anyC_one (i := 40) (by kernel_rfl) (wpOp_of_list rfl ?_)
  go_wp2
  have hS16 := below_al hS15 (.cells #[.int .u64 f0, .int .u64 (Fp.mul p (t 3) f1), .int .u64 (Fp.mul p (t 1) f2), .int .u64 (Fp.mul p (t 4) f3)] 22)
  have HR16 := Lib.hid (nums_reads W15 22 [f0, Fp.mul p (t 3) f1, Fp.mul p (t 1) f2, Fp.mul p (t 4) f3])
  refine ⟨rfl, fun _ => ⟨⟨_, hS16⟩, rfl⟩, ?_⟩
  obtain ⟨W16, hW16⟩ : ∃ W16, W16 = W15.alloc (.cells #[.int .u64 f0, .int .u64 (Fp.mul p (t 3) f1), .int .u64 (Fp.mul p (t 1) f2), .int .u64 (Fp.mul p (t 4) f3)] 22) := ⟨_, rfl⟩
  rw [← hW16] at hS16 ⊢
  replace HR16 : Hid (Reads .u64 W16 W16.heap.size (some ⟨W15.heap.size, 0, none⟩) [f0, Fp.mul p (t 3) f1, Fp.mul p (t 1) f2, Fp.mul p (t 4) f3]) := Lib.hid (by rw [hW16]; exact HR16.out)
  have hb : Below W15.heap.size W15 W16 := by rw [hW16]; exact below_al (Below.refl _ _) _
  have HY16 := Lib.hid ((HY15.out.below hb).more hb.size)
  clear hb HY15 hW16 hS15
  refine anyC_one (i := 41) (by kernel_rfl) (wpOp_of_list rfl ?_)
  go_wp2_with (go_at_call 121; refine (cirsum_any p _ _ _ _ _ _ [f0, Fp.mul p (t 3) f1, Fp.mul p (t 1) f2, Fp.mul p (t 4) f3] _ H.out HR16.out rfl (words4 hb0 (HMB.out _ _) (HMB.out _ _) (HMB.out _ _)) (by unfold maxLen; simp)).mono ?_; rintro e W17 ⟨rfl, hb⟩)
  have hS17 := below_then hS16 hb
  have HY17 := Lib.hid ((HY16.out.below hb).more hb.size)
  clear hb HY16 HR16
  refine ⟨rfl, fun _ => ⟨⟨_, hS17⟩, rfl⟩, ?_⟩
  clear hS16
  refine anyC_one (i := 46) (by kernel_rfl) (wpOp_of_list rfl ?_)
  go_wp2_with (go_at_call 123; refine (HT.out _ 4 _ _ rfl HY17.out (by omega) hb1).mono ?_; rintro e W18 ⟨rfl, hb⟩)
  have hS18 := below_then hS17 hb
  have HY18 := Lib.hid ((HY17.out.below hb).more hb.size)
  clear hb HY17
  refine ⟨rfl, fun _ => ⟨⟨_, hS18⟩, rfl⟩, ?_⟩
  clear hS17
  refine anyC_one (i := 49) (by kernel_rfl) (wpOp_of_list rfl ?_)
  go_wp2_with (go_at_call 123; refine (HT.out _ 3 _ _ rfl HY18.out (by omega) hb2).mono ?_; rintro e W19 ⟨rfl, hb⟩)
  have hS19 := below_then hS18 hb
  have HY19 := Lib.hid ((HY18.out.below hb).more hb.size)
  clear hb HY18
  refine ⟨rfl, fun _ => ⟨⟨_, hS19⟩, rfl⟩, ?_⟩
  clear hS18
  refine anyC_one (i := 52) (by kernel_rfl) (wpOp_of_list rfl ?_)
  go_wp2_with (go_at_call 123; refine (HT.out _ 2 _ _ rfl HY19.out (by omega) hb3).mono ?_; rintro e W20 ⟨rfl, hb⟩)
  have hS20 := below_then hS19 hb
  have HY20 := Lib.hid ((HY19.out.below hb).more hb.size)
  clear hb HY19
  refine ⟨rfl, fun _ => ⟨⟨_, hS20⟩, rfl⟩, ?_⟩
  clear hS19
  refine anyC_one (i := 53) (by kernel_rfl) (wpOp_of_list rfl ?_)
  go_wp2
  have hS21 := below_al hS20 (.cells #[.int .u64 f0, .int .u64 (Fp.mul p (t 4) f1), .int .u64 (Fp.mul p (t 3) f2), .int .u64 (Fp.mul p (t 2) f3)] 22)
  have HR21 := Lib.hid (nums_reads W20 22 [f0, Fp.mul p (t 4) f1, Fp.mul p (t 3) f2, Fp.mul p (t 2) f3])
  refine ⟨rfl, fun _ => ⟨⟨_, hS21⟩, rfl⟩, ?_⟩
  obtain ⟨W21, hW21⟩ : ∃ W21, W21 = W20.alloc (.cells #[.int .u64 f0, .int .u64 (Fp.mul p (t 4) f1), .int .u64 (Fp.mul p (t 3) f2), .int .u64 (Fp.mul p (t 2) f3)] 22) := ⟨_, rfl⟩
  rw [← hW21] at hS21 ⊢
  replace HR21 : Hid (Reads .u64 W21 W21.heap.size (some ⟨W20.heap.size, 0, none⟩) [f0, Fp.mul p (t 4) f1, Fp.mul p (t 3) f2, Fp.mul p (t 2) f3]) := Lib.hid (by rw [hW21]; exact HR21.out)
  have hb : Below W20.heap.size W20 W21 := by rw [hW21]; exact below_al (Below.refl _ _) _
  have HY21 := Lib.hid ((HY20.out.below hb).more hb.size)
  clear hb HY20 hW21 hS20
  refine anyC_one (i := 54) (by kernel_rfl) (wpOp_of_list rfl ?_)
  go_wp2_with (go_at_call 121; refine (cirsum_any p _ _ _ _ _ _ [f0, Fp.mul p (t 4) f1, Fp.mul p (t 3) f2, Fp.mul p (t 2) f3] _ H.out HR21.out rfl (words4 hb0 (HMB.out _ _) (HMB.out _ _) (HMB.out _ _)) (by unfold maxLen; simp)).mono ?_; rintro e W22 ⟨rfl, hb⟩)
  have hS22 := below_then hS21 hb
  have HY22 := Lib.hid ((HY21.out.below hb).more hb.size)
  clear hb HY21 HR21
  refine ⟨rfl, fun _ => ⟨⟨_, hS22⟩, rfl⟩, ?_⟩
  clear hS21
  refine anyC_one (i := 55) (by kernel_rfl) (wpOp_of_list rfl ?_)
  go_wp2
  have hS23 := below_al hS22 (.cells #[.int .u64 (smL p [a, b, c, d, e]), .int .u64 (smL p [f0, Fp.mul p (t 1) f1, Fp.mul p (t 2) f2, Fp.mul p (t 3) f3]), .int .u64 (smL p [f0, Fp.mul p (t 2) f1, Fp.mul p (t 4) f2, Fp.mul p (t 1) f3]), .int .u64 (smL p [f0, Fp.mul p (t 3) f1, Fp.mul p (t 1) f2, Fp.mul p (t 4) f3]), .int .u64 (smL p [f0, Fp.mul p (t 4) f1, Fp.mul p (t 3) f2, Fp.mul p (t 2) f3])] 22)
  refine ⟨rfl, fun _ => ⟨⟨_, hS23⟩, rfl⟩, ?_⟩
  refine anyC_one (i := 56) (by kernel_rfl) (wpOp_of_list rfl ?_)
  go_wp2
  refine ⟨rfl, fun h => absurd rfl h, anyC_end (by kernel_rfl) ⟨rfl, ?_⟩⟩
  go_wp2
  go_ret
  have hz : w.heap.size ≤ W22.heap.size := (below_then HB.out hS22).size
  exact ⟨_, rfl, nums_owns W22 [smL p [a, b, c, d, e], smL p [f0, Fp.mul p (t 1) f1, Fp.mul p (t 2) f2, Fp.mul p (t 3) f3], smL p [f0, Fp.mul p (t 2) f1, Fp.mul p (t 4) f2, Fp.mul p (t 1) f3], smL p [f0, Fp.mul p (t 3) f1, Fp.mul p (t 1) f2, Fp.mul p (t 4) f3], smL p [f0, Fp.mul p (t 4) f1, Fp.mul p (t 3) f2, Fp.mul p (t 2) f3]] _ hz (by unfold maxLen; simp), below_then HB.out hS23⟩

end Go.Proofs.YtlbfllaaabginaaDoor

/-!   What fly's three functions come to: Points, Do, Weigh. Each radix has a method of its own, told by an array of method expressions.
-/

namespace Go.Proofs.YtlbfllaaabginaaDoor
open Go.RowKit Go.Shelf Fly

set_option maxHeartbeats 1000000 in
theorem rootOf_any (p r : Int) (inv : Bool) (w : World) (hG : Gl w) (hr : -9223372036854775808 ≤ r ∧ r < 9223372036854775808) :
    Calls Tryd.prog 111 #[.int .u64 p, .int .i64 r, .bool inv] w (RetB (.tuple #[.int .u64 (if inv then backN p r else rootN p r), .int .i64 (rootE p r)]) w) := by
  have HR := Lib.hid (root_any p r w hG hr)
  have HK := Lib.hid (back_any p r w hG hr)
  clear hG
  cases inv
  · rw [if_neg (by simp)]
    go_enter Tryd.func111, Tryd.ntmps111
    go_wp2_with (go_at_call 62; refine HR.out.mono ?_; rintro e w1 ⟨rfl, hB⟩)
    go_ret2
    exact ⟨rfl, hB⟩
  · rw [if_pos rfl]
    go_enter Tryd.func111, Tryd.ntmps111
    go_wp2_with (go_at_call 103; refine HK.out.mono ?_; rintro e w1 ⟨rfl, hB⟩)
    go_ret2
    exact ⟨rfl, hB⟩

set_option maxHeartbeats 1000000 in
theorem points15_any (p r : Int) (inv : Bool) (w : World) (hG : Gl w) (hr : -9223372036854775808 ≤ r ∧ r < 9223372036854775808) :
    Calls Tryd.prog 99 #[.int .u64 p, .int .i64 r, .bool inv] w (RetY w (ptsL p r inv) (ptE p r)) := by
  unfold ptsL
  have HRo := Lib.hid (rootOf_any p r inv w hG hr)
  clear hG
  rcases ptE_cases p r with ⟨h, hE⟩ | ⟨h, h1, hE⟩ | ⟨h, h1, h2, h3, h4, hE⟩ | ⟨h, h1, h2, h3, h4, hE⟩
  · rw [hE, if_neg (by omega)]
    have H := Lib.hid h
    clear h hE HRo
    go_enter Tryd.func99, Tryd.ntmps99
    go_wp2_with (go_at_call 60; refine (known_no p _ H.out).mono ?_; rintro e w' ⟨rfl, rfl⟩)
    go_ret2
    exact RetY.none 2 (Below.refl _ _)
  · rw [hE, if_neg (by omega)]
    have H := Lib.hid h
    clear h hE HRo
    by_cases h2 : r < 2
    · go_enter Tryd.func99, Tryd.ntmps99
      go_wp2_with (go_at_call 60; refine (known_yes p _ H.out).mono ?_; rintro e w' ⟨rfl, rfl⟩)
      go_ret2
      exact RetY.none 4 (Below.refl _ _)
    · have h3 : 5 < r := by omega
      clear h1
      go_enter Tryd.func99, Tryd.ntmps99
      go_wp2_with (go_at_call 60; refine (known_yes p _ H.out).mono ?_; rintro e w' ⟨rfl, rfl⟩)
      go_ret2
      exact RetY.none 4 (Below.refl _ _)
  · rw [hE, if_neg (by omega)]
    have H := Lib.hid h
    rw [h3] at HRo
    generalize (if inv then backN p r else rootN p r) = z at HRo
    clear h h3 h4 hE
    go_enter Tryd.func99, Tryd.ntmps99
    go_wp2_with (first
      | (go_at_call 60; refine (known_yes p _ H.out).mono ?_; rintro e w' ⟨rfl, rfl⟩)
      | (go_at_call 111; refine HRo.out.mono ?_; rintro e w1 ⟨rfl, hB⟩))
    go_ret2
    exact RetY.none 5 hB
  · rw [hE, if_pos rfl]
    obtain ⟨n, rfl⟩ := Int.eq_ofNat_of_zero_le (show 0 ≤ r by omega)
    rw [Int.toNat_natCast] at h h4 ⊢
    have H := Lib.hid h.kn
    have hz : (if inv then backN p (n : Int) else rootN p (n : Int)) = root p inv n := by
      cases inv
      · rw [if_neg (by simp), h4]; rfl
      · unfold backN
        rw [if_pos rfl, h3, if_pos rfl, Int.toNat_natCast]; rfl
    rw [h3, hz] at HRo
    obtain ⟨r0, r1, -⟩ := root_bd p inv n
    have hn : n ≤ 5 := h.hi
    have HP := Lib.hid (fun W => powers_yes p (root p inv n) n W h.kn r0 (by omega) (by omega))
    have HL : Hid (pws p (root p inv n) n = (List.range n).map (pt p inv n)) := Lib.hid rfl
    generalize root p inv n = rt at HRo HP HL
    clear h h3 h4 hE hz r0 r1
    go_enter Tryd.func99, Tryd.ntmps99
    go_wp2_with (first
      | (go_at_call 60; refine (known_yes p _ H.out).mono ?_; rintro e w' ⟨rfl, rfl⟩)
      | (go_at_call 111; refine HRo.out.mono ?_; rintro e w1 ⟨rfl, hB⟩)
      | (go_at_call 83; refine (HP.out _).mono ?_; rintro e w2 ⟨v, rfl, hO, hB2⟩; rw [HL.out] at hO))
    go_ret2
    exact ⟨_, rfl, hO.mono hB.size, below_then hB hB2⟩

/-- The method of a radix. -/
def mth (n : Nat) : FuncId := if n = 2 then 112 else if n = 3 then 113 else if n = 4 then 114 else 115

theorem len_cases {xs : List Int} (h2 : 2 ≤ xs.length) (h5 : xs.length ≤ 5) : (∃ a b, xs = [a, b]) ∨ (∃ a b c, xs = [a, b, c]) ∨ (∃ a b c d, xs = [a, b, c, d]) ∨ ∃ a b c d e, xs = [a, b, c, d, e] := by
  match xs, h2, h5 with
  | [a, b], _, _ => exact .inl ⟨a, b, rfl⟩
  | [a, b, c], _, _ => exact .inr (.inl ⟨a, b, c, rfl⟩)
  | [a, b, c, d], _, _ => exact .inr (.inr (.inl ⟨a, b, c, d, rfl⟩))
  | [a, b, c, d, e], _, _ => exact .inr (.inr (.inr ⟨a, b, c, d, e, rfl⟩))

theorem mth_enters (n : Nat) : ∀ args W, (callFunc (mth n) args).run Tryd.prog W = .ok (.enter (mth n) args) W := by
  unfold mth
  split
  · exact enters_of Tryd.func112 (by kernel_rfl) rfl
  · split
    · exact enters_of Tryd.func113 (by kernel_rfl) rfl
    · split
      · exact enters_of Tryd.func114 (by kernel_rfl) rfl
      · exact enters_of Tryd.func115 (by kernel_rfl) rfl

theorem mth_any (p : Int) (inv : Bool) (y : Option Addr) (c : Nat) (x : Option Addr) (cap : Nat) (xs : List Int) (w : World) (hf : Fine p xs) (hw : Words xs) (hx : Reads .u64 w w.heap.size x xs) (hy : Reads .u64 w w.heap.size y (ptL p inv xs.length)) :
    Calls Tryd.prog (mth xs.length) #[.agg #[.int .u64 p, .slice y xs.length c], .slice x xs.length cap] w (RetNums w (doL p inv xs)) := by
  rcases len_cases hf.rdx.lo hf.rdx.hi with ⟨a, b, rfl⟩ | ⟨a, b, d, rfl⟩ | ⟨a, b, d, e, rfl⟩ | ⟨a, b, d, e, f, rfl⟩
  · exact ctwo_any p a b inv y c x cap w hf.rdx hf hw hx
  · exact cthree_any p a b d inv y c x cap w hf.rdx hf hw hx hy
  · exact cfour_any p a b d e inv y c x cap w hf.rdx hf hw hx hy
  · exact cfive_any p a b d e f inv y c x cap w hf.rdx hf hw hx hy

set_option maxHeartbeats 1000000 in
theorem methodOf_any (n : Nat) (w : World) (h2 : 2 ≤ n) (h5 : n ≤ 5) :
    Calls Tryd.prog 100 #[.int .i64 (n : Int)] w (RetB (.func (.func (mth n)) #[] #[]) w) := by
  obtain rfl | rfl | rfl | rfl : n = 2 ∨ n = 3 ∨ n = 4 ∨ n = 5 := by omega
  all_goals
    unfold mth
    simp only [Nat.reduceEqDiff, if_true, if_false]
    go_enter Tryd.func100, Tryd.ntmps100
    go_wp2
    go_ret
    exact ⟨rfl, below_al (Below.refl _ _) _⟩

end Go.Proofs.YtlbfllaaabginaaDoor

/-!   What fly.Do and fly.Weigh come to; all of fly in one word.
-/

namespace Go.Proofs.YtlbfllaaabginaaDoor
open Go.RowKit Go.Shelf Fly

set_option maxHeartbeats 1000000 in
theorem do15_any (p : Int) (inv : Bool) (x : Option Addr) (n cap : Nat) (xs : List Int) (w : World) (hG : Gl w) (hx : Reads .u64 w w.heap.size x xs) (hn : xs.length = n) (hw : Words xs) (hl : n ≤ maxLen) :
    Calls Tryd.prog 78 #[.int .u64 p, .bool inv, .slice x n cap] w (RetY w (doL p inv xs) (doE p xs)) := by
  subst hn
  have hl' : (xs.length : Int) ≤ 9223372036854775807 := by unfold maxLen at hl; omega
  have HPt := Lib.hid (points15_any p (xs.length : Int) inv w hG (by omega))
  clear hG
  by_cases hE : ptE p xs.length = 0
  · have h := ptE_zero hE
    obtain ⟨n1, n2⟩ := And.intro h.lo h.hi
    unfold ptsL at HPt
    rw [hE, if_pos rfl, Int.toNat_natCast] at HPt
    have HX := Lib.hid hx
    obtain ⟨b, off, rfl, hb, hc⟩ := hx (by omega)
    have HI : Hid (∀ W, Below w.heap.size w W → Calls Tryd.prog 45 #[.int .u64 p, .slice (some ⟨b, off, none⟩) xs.length cap] W fun e w' => e = .returned (.bool (inB p xs)) ∧ W = w') := Lib.hid (fun W hW => in_row p b off xs.length cap _ W hl' (fun j hj => (hW.cell (p := ⟨b, off + j, none⟩) hb).trans (hc j hj)))
    cases hin : inB p xs
    · have hdE : doE p xs = 7 := by unfold doE; rw [if_pos hE, if_neg (by simp [hin])]
      unfold doL
      rw [hdE, if_neg (by omega)]
      rw [hin] at HI
      generalize (List.range xs.length).map (pt p inv xs.length) = ps at HPt
      clear h hE hc hw hl hdE hin HX
      go_enter Tryd.func78, Tryd.ntmps78
      go_wp2_with (first
        | (go_at_call 99; refine HPt.out.mono ?_; rintro e w1 ⟨v, rfl, hO1, hB1⟩)
        | (go_at_call 45; refine (HI.out _ hB1).mono ?_; rintro e w' ⟨rfl, rfl⟩))
      go_ret2
      exact RetY.none 7 hB1
    · have hf : Fine p xs := ⟨h, inB_yes hin⟩
      rw [hf.zero]
      rw [hin] at HI
      have HM : Hid (∀ (y : Option Addr) (c : Nat) (W : World), Below w.heap.size w W → Reads .u64 W W.heap.size y (ptL p inv xs.length) → Calls Tryd.prog (mth xs.length) #[.agg #[.int .u64 p, .slice y xs.length c], .slice (some ⟨b, off, none⟩) xs.length cap] W (RetNums W (doL p inv xs))) :=
        Lib.hid (fun y c W hW hr => mth_any p inv y c _ cap xs W hf hw ((HX.out.below hW).more hW.size) hr)
      have HMo := Lib.hid (fun W => methodOf_any xs.length W n1 n2)
      have HPL : Hid ((List.range xs.length).map (pt p inv xs.length) = ptL p inv xs.length) := Lib.hid rfl
      have hE1 := mth_enters xs.length
      obtain ⟨m, hm⟩ : ∃ m, m = mth xs.length := ⟨_, rfl⟩
      rw [← hm] at HM HMo hE1
      have HLen := Lib.hid (ptL_len p inv xs.length)
      rw [HPL.out] at HPt
      generalize ptL p inv xs.length = ps at HPt HM HLen
      generalize doL p inv xs = ds at HM ⊢
      clear h hE hc hw hl hin HX hf hm HPL
      go_enter Tryd.func78, Tryd.ntmps78
      go_wp2_with (first
        | (go_at_call 99; refine HPt.out.mono ?_; rintro e w1 ⟨v, rfl, hO1, hB1⟩; obtain ⟨x1, c1, rfl, -, -, hr1, -⟩ := hO1.form; rw [HLen.out]; clear hO1)
        | (go_at_call 45; refine (HI.out _ hB1).mono ?_; rintro e w' ⟨rfl, rfl⟩)
        | (go_at_call 100; refine (HMo.out _).mono ?_; rintro e w2 ⟨rfl, hB2⟩)
        | (go_at_fn m; refine (HM.out _ _ _ (below_then hB1 hB2) ((hr1.below hB2).more hB2.size)).mono ?_; rintro e w3 ⟨v3, rfl, hO3, hB3⟩))
      go_ret2
      have hB := below_then hB1 hB2
      exact ⟨_, rfl, hO3.mono hB.size, below_then hB hB3⟩
  · have hd : doE p xs = ptE p xs.length := by unfold doE; rw [if_neg hE]
    unfold doL ptsL at *
    rw [hd, if_neg hE]
    rw [if_neg hE] at HPt
    have t : (ptE p xs.length != 0) = true := bne_iff_ne.2 hE
    clear hE hx hw hl hd
    go_enter Tryd.func78, Tryd.ntmps78
    go_wp2_with (go_at_call 99; refine HPt.out.mono ?_; rintro e w1 ⟨v, rfl, hO1, hB1⟩)
    go_ret2
    exact RetY.none _ hB1

end Go.Proofs.YtlbfllaaabginaaDoor
