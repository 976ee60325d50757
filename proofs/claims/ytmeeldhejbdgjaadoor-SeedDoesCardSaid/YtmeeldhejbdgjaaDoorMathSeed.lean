/-
  Mathematics of layer 9: weights of words, words folded axis by axis from the last one on, that this is what the transform tells at a seed; and that few seeds are fooled. No function of the program is named here.
-/
import Derived.Test.YtmeeldhejbdgjaaDoorGrids
import Derived.Test.YtmeeldhejbdgjaaDoorGeoms
namespace Go.Proofs.YtmeeldhejbdgjaaDoor
open Go.RowKit

namespace Fp
/-- A sum over places, block by block. -/
theorem sum_more (f : Nat → Int) (n : Nat) : ∀ m : Nat, sum f (n + m) = sum f n + sum (fun j => f (n + j)) m
  | 0 => by simp [sum]
  | m + 1 => by
    show sum f (n + m) + f (n + m) = sum f n + (sum (fun j => f (n + j)) m + f (n + m))
    rw [sum_more f n m]; omega
theorem sum_block (f : Nat → Int) (B : Nat) : ∀ A : Nat, sum f (A * B) = sum (fun a => sum (fun b => f (a * B + b)) B) A
  | 0 => by simp [sum]
  | A + 1 => by
    rw [Nat.succ_mul, sum_more, sum_block f B A]
    rfl
/-- A sum over places, line by line. -/
theorem sum_lines (f : Nat → Int) (O L I : Nat) (hI : 1 ≤ I) : sum f (O * (L * I)) = sum (fun k => sum (fun c => f (Sh.first I L k + c * I)) L) (O * I) := by
  rw [sum_block f (L * I) O, sum_block _ I O]
  refine sum_congr fun o _ => ?_
  rw [sum_block _ I L, sum_swap]
  refine sum_congr fun q hq => sum_congr fun c _ => ?_
  have e : Sh.first I L (o * I + q) = o * (L * I) + q := by
    unfold Sh.first
    rw [Nat.mul_comm o I, Nat.mul_add_div (by omega), Nat.div_eq_of_lt hq, Nat.add_zero, Nat.mul_add_mod, Nat.mod_eq_of_lt hq, Nat.mul_assoc, Nat.mul_comm I L]
  rw [e]
  congr 1
  omega
end Fp

/-- The weight of word i of an axis, at z; and of all its words. -/
def wtN (p : Int) (neg inv : Bool) (n i : Nat) (z : Int) : Int := Fp.red p (Fp.sum (fun c => krn p neg inv n c i * z ^ c) n)
def wts (p : Int) (neg inv : Bool) (n : Nat) (z : Int) : List Int := (List.range n).map fun i => wtN p neg inv n i z
theorem wtN_bd (p : Int) (neg inv : Bool) (n i : Nat) (z : Int) : 0 ≤ wtN p neg inv n i z ∧ wtN p neg inv n i z < 18446744069414584321 ∧ (Fp.kn p = true → wtN p neg inv n i z < p) := Fp.red_bd _ _
theorem wts_len (p : Int) (neg inv : Bool) (n : Nat) (z : Int) : (wts p neg inv n z).length = n := by simp [wts]
theorem wts_get (p : Int) (neg inv : Bool) {n i : Nat} (z : Int) (h : i < n) : (wts p neg inv n z).getD i 0 = wtN p neg inv n i z := getD_range _ h
theorem wts_words (p : Int) (neg inv : Bool) (n : Nat) (z : Int) : Words (wts p neg inv n z) := fun j => by
  by_cases h : j < n
  · rw [wts_get _ _ _ _ h]; have := wtN_bd p neg inv n j z; omega
  · simp [wts, h]

/-- The course of an axis. -/
structure Crs where
  all : Int
  start : Int
  turn : Int
  step : Int
/-- The root, there or back. -/
def wrt (p : Int) (neg inv : Bool) (n : Nat) : Int := if inv = true then bkl p neg n else rtl p neg n
def crs (p : Int) (neg inv : Bool) (n : Nat) : Crs :=
  ⟨if inv = true then Fp.inv p n else 1, if inv = false ∧ neg = true then wrt p neg inv n else 1, if inv = true ∧ neg = true then wrt p neg inv n else 1,
   if neg = true then Fp.mul p (wrt p neg inv n) (wrt p neg inv n) else wrt p neg inv n⟩
/-- What the program makes of it. -/
def Crs.wt (c : Crs) (p : Int) (n : Nat) (s t z : Int) : Int := Fp.mul p (Fp.mul p c.all s) (Fp.gsum p (Fp.mul p z (Fp.mul p c.turn t)) n)
theorem wrt_bd (p : Int) (neg inv : Bool) (n : Nat) : 0 ≤ wrt p neg inv n ∧ wrt p neg inv n < 18446744069414584321 := by
  unfold wrt bkl rtl
  split
  · obtain ⟨a, b, -⟩ := Fp.inv_bd p (Fp.rt p (Fp.od neg n)); exact ⟨a, b⟩
  · obtain ⟨a, b, -⟩ := Fp.rt_bd p (Fp.od neg n); exact ⟨a, b⟩
theorem crs_bd (p : Int) (neg inv : Bool) (n : Nat) : (0 ≤ (crs p neg inv n).all ∧ (crs p neg inv n).all < 18446744069414584321) ∧ (0 ≤ (crs p neg inv n).start ∧ (crs p neg inv n).start < 18446744069414584321) ∧ (0 ≤ (crs p neg inv n).turn ∧ (crs p neg inv n).turn < 18446744069414584321) ∧ (0 ≤ (crs p neg inv n).step ∧ (crs p neg inv n).step < 18446744069414584321) := by
  have h := wrt_bd p neg inv n
  have h2 := Fp.inv_bd p n
  have h3 := Fp.mul_bd p (wrt p neg inv n) (wrt p neg inv n)
  unfold crs
  refine ⟨?_, ?_, ?_, ?_⟩ <;> dsimp only <;> split <;> omega
theorem krn_crs {p : Int} (h : Fp.kn p = true) (neg inv : Bool) (n i c : Nat) (z : Int) :
    Fp.eqm p ((crs p neg inv n).all * (crs p neg inv n).start ^ i * (z * ((crs p neg inv n).turn * (crs p neg inv n).step ^ i)) ^ c) (krn p neg inv n c i * z ^ c) := by
  obtain ⟨w, hw⟩ : ∃ w, w = wrt p neg inv n := ⟨_, rfl⟩
  have hm : Fp.eqm p (Fp.mul p w w) (w * w) := by rw [Fp.mul_red]; exact Fp.eqm_red h _
  have one : ∀ k : Nat, (1 : Int) ^ k = 1 := fun k => Int.one_pow
  cases inv <;> cases neg
  · have e : wrt p false false n = rtl p false n := by simp [wrt]
    simp only [crs, krn, Fp.ex, if_false, Bool.false_eq_true, and_false, ← hw, one, Int.one_mul]
    rw [hw, e, Int.mul_pow, ← Int.pow_mul, Int.mul_comm]
    exact Fp.eqm.rfl
  · have e : wrt p true false n = rtl p true n := by simp [wrt]
    simp only [crs, krn, Fp.ex, if_true, if_false, Bool.false_eq_true, and_true, ← hw, Int.one_mul, and_self]
    rw [← e, ← hw]
    refine (Fp.eqm.rfl.mul ((Fp.eqm.rfl.mul (hm.pow i)).pow c)).trans (Fp.eqm.of ?_)
    have e2 : w ^ (i * (2 * c + 1)) = w ^ i * (w * w) ^ (i * c) := by
      rw [show w * w = w ^ 2 by rw [Int.pow_succ, Int.pow_one], ← Int.pow_mul, ← Int.pow_add]
      congr 1
      grind
    rw [e2, Int.mul_pow, ← Int.pow_mul]
    grind
  · have e : wrt p false true n = bkl p false n := by simp [wrt]
    simp only [crs, krn, Fp.ex, if_true, if_false, Bool.false_eq_true, and_false, ← hw, one, Int.one_mul, Int.mul_one, Bool.true_eq_false]
    rw [hw, e, Int.mul_pow, ← Int.pow_mul, Nat.mul_comm c i]
    refine Fp.eqm.of ?_
    grind
  · have e : wrt p true true n = bkl p true n := by simp [wrt]
    simp only [crs, krn, Fp.ex, if_true, if_false, and_true, ← hw, one, Int.mul_one, Bool.true_eq_false, and_self]
    rw [← e, ← hw]
    refine (Fp.eqm.rfl.mul ((Fp.eqm.rfl.mul (Fp.eqm.rfl.mul (hm.pow i))).pow c)).trans (Fp.eqm.of ?_)
    have e2 : w ^ (c * (2 * i + 1)) = (w * (w * w) ^ i) ^ c := by
      rw [show w * w = w ^ 2 by rw [Int.pow_succ, Int.pow_one], ← Int.pow_mul, Nat.mul_comm c, Int.pow_mul]
      congr 1
      rw [Int.pow_succ, Int.mul_comm]
    rw [e2, Int.mul_pow]
    grind
theorem crs_wt {p : Int} (h : Fp.kn p = true) (neg inv : Bool) (n i : Nat) (z : Int) :
    (crs p neg inv n).wt p n (Fp.pw p (crs p neg inv n).start i) (Fp.pw p (crs p neg inv n).step i) z = wtN p neg inv n i z := by
  unfold Crs.wt wtN Fp.gsum Fp.pw
  obtain ⟨A, hA⟩ : ∃ A, A = (crs p neg inv n).all := ⟨_, rfl⟩
  obtain ⟨S, hS⟩ : ∃ S, S = (crs p neg inv n).start := ⟨_, rfl⟩
  obtain ⟨U, hU⟩ : ∃ U, U = (crs p neg inv n).turn := ⟨_, rfl⟩
  obtain ⟨T, hT⟩ : ∃ T, T = (crs p neg inv n).step := ⟨_, rfl⟩
  have hk : ∀ c, Fp.eqm p (A * S ^ i * (z * (U * T ^ i)) ^ c) (krn p neg inv n c i * z ^ c) := fun c => by
    rw [hA, hS, hU, hT]; exact krn_crs h neg inv n i c z
  rw [← hA, ← hS, ← hU, ← hT]
  rw [Fp.mul_redr, Fp.mul_red, Fp.mul_redr, Fp.mul_red, Fp.mul_redr, Fp.mul_red p U, Fp.mul_redr, Fp.mul_red]
  refine Fp.red_of_eqm ?_
  refine ((Fp.eqm_red h _).mul (Fp.gs_eqm (Fp.eqm_red h _) n)).trans ?_
  unfold Fp.gs
  rw [← Fp.sum_mul]
  exact Fp.sum_mod fun c _ => hk c

/-! Words folded by weights. -/
def fdN (p : Int) (xs bs : List Int) (k : Nat) : Int := Fp.red p (Fp.sum (fun i => xs.getD (k * bs.length + i) 0 * bs.getD i 0) bs.length)
def fdP (p : Int) (xs bs : List Int) (k j : Nat) : Int := Fp.red p (Fp.sum (fun i => xs.getD (k * bs.length + i) 0 * bs.getD i 0) j)
/-- How many lines there are of n words, the last one maybe shorter. -/
def cn (n L : Nat) : Nat := (n + L - 1) / L
theorem cn_lt {n L : Nat} (hL : 1 ≤ L) (k : Nat) : k < cn n L ↔ k * L < n := by
  unfold cn
  rw [← Nat.succ_le_iff, Nat.le_div_iff_mul_le hL, Nat.succ_mul]
  omega
theorem cn_mul {K L : Nat} (hL : 1 ≤ L) : cn (K * L) L = K := by
  unfold cn
  rw [Nat.add_sub_assoc hL, Nat.mul_comm, Nat.mul_add_div (by omega), Nat.div_eq_of_lt (by omega), Nat.add_zero]
theorem cn_bd {n L : Nat} (hL : 1 ≤ L) (hn : 1 ≤ n) : 1 ≤ cn n L ∧ cn n L ≤ n := by
  refine ⟨(cn_lt hL 0).2 (by omega), ?_⟩
  rcases Nat.lt_or_ge n (cn n L) with h | h
  · have := (cn_lt hL n).1 h
    have := Nat.le_mul_of_pos_right n hL
    omega
  · exact h
def fdL (p : Int) (xs bs : List Int) : List Int := (List.range (cn xs.length bs.length)).map (fdN p xs bs)
theorem fdP_bd (p : Int) (xs bs : List Int) (k j : Nat) : 0 ≤ fdP p xs bs k j ∧ fdP p xs bs k j < 18446744069414584321 ∧ (Fp.kn p = true → fdP p xs bs k j < p) := Fp.red_bd _ _
theorem fdN_bd (p : Int) (xs bs : List Int) (k : Nat) : 0 ≤ fdN p xs bs k ∧ fdN p xs bs k < 18446744069414584321 ∧ (Fp.kn p = true → fdN p xs bs k < p) := Fp.red_bd _ _
theorem fdP_zero {p : Int} (h : Fp.kn p = true) (xs bs : List Int) (k : Nat) : fdP p xs bs k 0 = 0 := by unfold fdP; rw [Fp.sum, Fp.red_kn _ h]; simp
theorem fdP_succ {p : Int} (h : Fp.kn p = true) (xs bs : List Int) (k j : Nat) : Fp.add p (fdP p xs bs k j) (Fp.mul p (xs.getD (k * bs.length + j) 0) (bs.getD j 0)) = fdP p xs bs k (j + 1) := by
  unfold fdP
  rw [Fp.add_red, Fp.mul_red, Fp.sum]
  exact Fp.red_of_eqm ((Fp.eqm_red h _).add (Fp.eqm_red h _))
theorem fdP_all (p : Int) (xs bs : List Int) (k : Nat) : fdP p xs bs k bs.length = fdN p xs bs k := rfl
theorem fdP_full (p : Int) (xs bs : List Int) {k j : Nat} (hj : j ≤ bs.length) (h : xs.length ≤ k * bs.length + j) : fdP p xs bs k j = fdN p xs bs k := by
  unfold fdP fdN
  congr 1
  obtain ⟨d, hd⟩ : ∃ d, bs.length = j + d := ⟨bs.length - j, by omega⟩
  have e : Fp.sum (fun i => xs.getD (k * bs.length + i) 0 * bs.getD i 0) bs.length = Fp.sum (fun i => xs.getD (k * bs.length + i) 0 * bs.getD i 0) (j + d) := congrArg _ hd
  rw [e, Fp.sum_more]
  have z : Fp.sum (fun i => xs.getD (k * bs.length + (j + i)) 0 * bs.getD (j + i) 0) d = 0 := by
    refine (Fp.sum_congr fun i _ => ?_).trans (Fp.sum_zero d)
    have : xs.length ≤ k * bs.length + (j + i) := by omega
    simp [this]
  rw [z, Int.add_zero]
theorem fdL_len (p : Int) (xs bs : List Int) : (fdL p xs bs).length = cn xs.length bs.length := by simp [fdL]
theorem fdL_words (p : Int) (xs bs : List Int) : Words (fdL p xs bs) := fun j => by
  by_cases h : j < cn xs.length bs.length
  · unfold fdL; rw [getD_range _ h]; have := fdN_bd p xs bs j; omega
  · simp [fdL, h]

/-- The weights of axis a, for a seed. -/
def axW (p : Int) (xa : List Ax) (inv : Bool) (r : Int) (a : Nat) : List Int := wts p (gN xa a) inv (gL xa a) (Fp.pw p r (gI xa a))
/-- The words folded along the last t axes. -/
def dn (p : Int) (xa : List Ax) (inv : Bool) (xs : List Int) (r : Int) : Nat → List Int
  | 0 => xs
  | t + 1 => fdL p (dn p xa inv xs r t) (axW p xa inv r (xa.length - 1 - t))
/-- The same, whatever axes come in whatever order. -/
def dnJ (p : Int) (xa : List Ax) (inv : Bool) (xs : List Int) (r : Int) {d : Nat} (js : List (Fin d)) : List Int := js.foldl (fun l j => fdL p l (axW p xa inv r j.1)) xs
theorem dnJ_snoc (p : Int) (xa : List Ax) (inv : Bool) (xs : List Int) (r : Int) {d : Nat} (js : List (Fin d)) (j : Fin d) : dnJ p xa inv xs r (js ++ [j]) = fdL p (dnJ p xa inv xs r js) (axW p xa inv r j.1) := by simp [dnJ]
theorem dnJ_words (p : Int) (xa : List Ax) (inv : Bool) {xs : List Int} (hw : Words xs) (r : Int) {d : Nat} (js : List (Fin d)) : Words (dnJ p xa inv xs r js) := by
  rcases List.eq_nil_or_concat js with rfl | ⟨l, j, rfl⟩
  · exact hw
  · rw [List.concat_eq_append, dnJ_snoc]; exact fdL_words _ _ _
/-- The weight of place i along axis a, and the product of those along the last t axes, and the first m. -/
def plW (p : Int) (xa : List Ax) (inv : Bool) (r : Int) (a i : Nat) : Int := wtN p (gN xa a) inv (gL xa a) (i / gI xa a % gL xa a) (Fp.pw p r (gI xa a))
def wq (p : Int) (xa : List Ax) (inv : Bool) (r : Int) (i : Nat) : Nat → Int
  | 0 => 1
  | t + 1 => plW p xa inv r (xa.length - 1 - t) i * wq p xa inv r i t
def wf (p : Int) (xa : List Ax) (inv : Bool) (r : Int) (i : Nat) : Nat → Int
  | 0 => 1
  | m + 1 => wf p xa inv r i m * plW p xa inv r m i
theorem wf_wq (p : Int) (xa : List Ax) (inv : Bool) (r : Int) (i : Nat) : ∀ t, t ≤ xa.length → wf p xa inv r i (xa.length - t) * wq p xa inv r i t = wf p xa inv r i xa.length
  | 0, _ => by rw [wq, Int.mul_one, Nat.sub_zero]
  | t + 1, h => by
    have := wf_wq p xa inv r i t (by omega)
    rw [show xa.length - t = (xa.length - 1 - t) + 1 by omega, wf] at this
    rw [wq, show xa.length - (t + 1) = xa.length - 1 - t by omega, ← Int.mul_assoc]
    exact this
theorem wq_all (p : Int) (xa : List Ax) (inv : Bool) (r : Int) (i : Nat) : wq p xa inv r i xa.length = wf p xa inv r i xa.length := by
  have := wf_wq p xa inv r i xa.length (Nat.le_refl _)
  rwa [Nat.sub_self, wf, Int.one_mul] at this

section
variable {p : Int} {xa : List Ax} {xs : List Int} {inv : Bool} {r : Int}
theorem axW_len (p : Int) (xa : List Ax) (inv : Bool) (r : Int) (a : Nat) : (axW p xa inv r a).length = gL xa a := wts_len _ _ _ _ _
theorem Grid.dn_len (h : Grid p xa xs) : ∀ t, t ≤ xa.length → (dn p xa inv xs r t).length = Sh.prod ((szs xa).take (xa.length - t))
  | 0, _ => by rw [dn, Nat.sub_zero, ← szs_len, List.take_length]; exact h.len
  | t + 1, ht => by
    have hl : xa.length - 1 - t < xa.length := by omega
    rw [dn, fdL_len, h.dn_len t (by omega), axW_len, show xa.length - t = (xa.length - 1 - t) + 1 by omega, ← Sh.prod_take _ _ (by rw [szs_len]; exact hl), show xa.length - (t + 1) = xa.length - 1 - t by omega]
    exact cn_mul (h.ax.L hl)
theorem dn_words (p : Int) (xa : List Ax) (inv : Bool) (r : Int) (hw : Words xs) (t : Nat) : Words (dn p xa inv xs r t) := by
  cases t with
  | zero => exact hw
  | succ t => exact fdL_words _ _ _
theorem Axes.dnJ_len (h : Axes p xa) (inv : Bool) (r : Int) (h1 : 1 ≤ xs.length) (js : List (Fin xa.length)) : 1 ≤ (dnJ p xa inv xs r js).length ∧ (dnJ p xa inv xs r js).length ≤ xs.length := by
  have : ∀ (l : List (Fin xa.length)) (ys : List Int), 1 ≤ ys.length → 1 ≤ (l.foldl (fun l j => fdL p l (axW p xa inv r j.1)) ys).length ∧ (l.foldl (fun l j => fdL p l (axW p xa inv r j.1)) ys).length ≤ ys.length := by
    intro l
    induction l with
    | nil => intro ys hy; exact ⟨hy, Nat.le_refl _⟩
    | cons j l ih =>
      intro ys hy
      have hb := cn_bd (h.L j.2) hy
      have e : (fdL p ys (axW p xa inv r j.1)).length = cn ys.length (gL xa j.1) := by rw [fdL_len, axW_len]
      obtain ⟨a, b⟩ := ih (fdL p ys (axW p xa inv r j.1)) (by rw [e]; exact hb.1)
      rw [e] at b
      exact ⟨a, Nat.le_trans b hb.2⟩
  exact this js xs h1
/-- Folded words are sums of words times weights. -/
theorem Grid.dn_is (h : Grid p xa xs) : ∀ t, t ≤ xa.length → ∀ k, k < Sh.prod ((szs xa).take (xa.length - t)) →
    Fp.eqm p ((dn p xa inv xs r t).getD k 0) (Fp.sum (fun i => xs.getD (k * Sh.prod ((szs xa).drop (xa.length - t)) + i) 0 * wq p xa inv r (k * Sh.prod ((szs xa).drop (xa.length - t)) + i) t) (Sh.prod ((szs xa).drop (xa.length - t))))
  | 0, _, k, _ => by
    have e : Sh.prod ((szs xa).drop (xa.length - 0)) = 1 := by rw [Nat.sub_zero, ← szs_len, List.drop_length]; rfl
    rw [e, dn]
    refine Fp.eqm.of ?_
    show _ = 0 + xs.getD (k * 1 + 0) 0 * 1
    rw [Nat.mul_one, Nat.add_zero, Int.mul_one, Int.zero_add]
  | t + 1, ht, k, hk => by
    obtain ⟨a, ha'⟩ : ∃ a, a = xa.length - 1 - t := ⟨_, rfl⟩
    have e1 : xa.length - (t + 1) = a := by omega
    have e2 : xa.length - t = a + 1 := by omega
    have ha : a < xa.length := by omega
    have ha2 : a < (szs xa).length := by rw [szs_len]; exact ha
    have hL := h.ax.L ha
    have hI := h.ax.I a
    have ih := h.dn_is t (by omega)
    have hlen := h.dn_len (inv := inv) (r := r) t (by omega)
    rw [e2] at ih hlen
    rw [e1] at hk ⊢
    have hpt := Sh.prod_take (szs xa) a ha2
    have hpd := Sh.prod_drop (szs xa) a ha2
    rw [dn, ← ha', ← hpd]
    unfold fdL
    rw [getD_range _ (by rw [hlen, axW_len, ← hpt]; unfold gL at hL ⊢; rw [cn_mul hL]; exact hk)]
    unfold fdN
    refine (Fp.eqm_red h.ax.kn _).trans ?_
    rw [axW_len]
    show Fp.eqm p _ (Fp.sum _ (gL xa a * gI xa a))
    rw [Fp.sum_block]
    refine Fp.sum_mod fun c hc => ?_
    have hkc : k * gL xa a + c < Sh.prod ((szs xa).take (a + 1)) := by
      rw [← hpt]
      have : (k + 1) * gL xa a ≤ Sh.prod ((szs xa).take a) * gL xa a := Nat.mul_le_mul_right _ hk
      rw [Nat.succ_mul] at this
      unfold gL at *
      omega
    have hw : (axW p xa inv r a).getD c 0 = wtN p (gN xa a) inv (gL xa a) c (Fp.pw p r (gI xa a)) := wts_get _ _ _ _ hc
    rw [hw]
    refine ((ih _ hkc).mul Fp.eqm.rfl).trans (Fp.eqm.of ?_)
    rw [← Fp.sum_mulr]
    refine Fp.sum_congr fun i hi => ?_
    have hpl : (k * gL xa a + c) * gI xa a + i = k * (gL xa a * gI xa a) + (c * gI xa a + i) := by rw [Nat.add_mul, Nat.mul_assoc]; omega
    show xs.getD ((k * gL xa a + c) * gI xa a + i) 0 * wq p xa inv r ((k * gL xa a + c) * gI xa a + i) t * _ = xs.getD (k * (gL xa a * gI xa a) + (c * gI xa a + i)) 0 * wq p xa inv r (k * (gL xa a * gI xa a) + (c * gI xa a + i)) (t + 1)
    rw [wq, ← ha', ← hpl]
    have hcd : ((k * gL xa a + c) * gI xa a + i) / gI xa a % gL xa a = c := by
      rw [Nat.mul_comm (k * gL xa a + c), Nat.mul_add_div (by omega), Nat.div_eq_of_lt (show i < gI xa a from hi), Nat.add_zero, Nat.mul_comm k, Nat.mul_add_mod, Nat.mod_eq_of_lt hc]
    unfold plW
    rw [hcd, Int.mul_assoc, Int.mul_comm (wq _ _ _ _ _ _)]

/-- A place with its coordinates from axis m on taken to 0. -/
def tp (xa : List Ax) (m i : Nat) : Nat := i / Sh.prod ((szs xa).drop m) * Sh.prod ((szs xa).drop m)
theorem tp_succ (xa : List Ax) {a : Nat} (ha : a < xa.length) (i : Nat) : tp xa (a + 1) i = tp xa a i + i / gI xa a % gL xa a * gI xa a := by
  have hpd := Sh.prod_drop (szs xa) a (by rw [szs_len]; exact ha)
  unfold tp
  rw [← hpd]
  show i / gI xa a * gI xa a = i / (gL xa a * gI xa a) * (gL xa a * gI xa a) + i / gI xa a % gL xa a * gI xa a
  rw [Nat.mul_comm (gL xa a) (gI xa a), ← Nat.div_div_eq_div_mul, Nat.mul_comm (gI xa a) (gL xa a), ← Nat.mul_assoc, ← Nat.add_mul]
  congr 1
  have := Nat.div_add_mod (i / gI xa a) (gL xa a)
  rw [Nat.mul_comm (gL xa a)] at this
  exact this.symm
/-- Going through axis a goes over to what its words are taken times. -/
theorem Grid.move (h : Grid p xa xs) {a : Nat} (ha : a < xa.length) (G f : Nat → Int)
    (hG : ∀ k c, k < Sh.prod (szs xa) / gL xa a → c < gL xa a → G (Sh.first (gI xa a) (gL xa a) k + c * gI xa a) = G (Sh.first (gI xa a) (gL xa a) k)) :
    Fp.eqm p (Fp.sum (fun i => (Go.Proofs.YtmeeldhejbdgjaaDoor.thr p xa a inv xs).getD i 0 * (G i * f (i / gI xa a % gL xa a))) (Sh.prod (szs xa)))
      (Fp.sum (fun i => xs.getD i 0 * (G i * Fp.sum (fun c => f c * krn p (gN xa a) inv (gL xa a) c (i / gI xa a % gL xa a)) (gL xa a))) (Sh.prod (szs xa))) := by
  have hI := h.ax.I a
  have hK := h.ax.lines ha
  rw [h.ax.prod ha, Fp.sum_lines _ _ _ _ hI, Fp.sum_lines _ _ _ _ hI]
  refine Fp.sum_mod fun k hk => ?_
  rw [← hK] at hk
  refine (Fp.sum_mod (g := fun c => Fp.sum (fun j => xs.getD (Sh.first (gI xa a) (gL xa a) k + j * gI xa a) 0 * (G (Sh.first (gI xa a) (gL xa a) k) * (f c * krn p (gN xa a) inv (gL xa a) c j))) (gL xa a)) fun c hc => ?_).trans ?_
  · have hlt := h.ax.at_lt ha hk hc
    rw [Sh.at_coord hI hc, hG k c hk hc]
    have e1 : (Go.Proofs.YtmeeldhejbdgjaaDoor.thr p xa a inv xs).getD (Sh.first (gI xa a) (gL xa a) k + c * gI xa a) 0 = thrN p xa a inv xs (Sh.first (gI xa a) (gL xa a) k + c * gI xa a) := by
      unfold Go.Proofs.YtmeeldhejbdgjaaDoor.thr
      rw [getD_range _ (by rw [h.len]; exact hlt)]
    rw [e1]
    refine ((h.thrN_eqm ha hlt).mul Fp.eqm.rfl).trans (Fp.eqm.of ?_)
    rw [← Fp.sum_mulr]
    refine Fp.sum_congr fun j hj => ?_
    unfold pt
    rw [Sh.at_line hI hc, Sh.at_coord hI hc]
    generalize xs.getD _ 0 = x
    generalize krn _ _ _ _ _ _ = y
    generalize G _ = u
    generalize f c = v
    grind
  · rw [Fp.sum_swap]
    refine Fp.eqm.of (Fp.sum_congr fun j hj => ?_)
    rw [Sh.at_coord hI hj, hG k j hk hj, Fp.sum_mul, Fp.sum_mul]
theorem Axes.tp_line (h : Axes p xa) {a : Nat} (ha : a < xa.length) (k : Nat) {c : Nat} (hc : c < gL xa a) : tp xa a (Sh.first (gI xa a) (gL xa a) k + c * gI xa a) = tp xa a (Sh.first (gI xa a) (gL xa a) k) := by
  have hpd := Sh.prod_drop (szs xa) a (by rw [szs_len]; exact ha)
  have hI := h.I a
  have e : ∀ c, c < gL xa a → (Sh.first (gI xa a) (gL xa a) k + c * gI xa a) / (gI xa a * gL xa a) = k / gI xa a := fun c hc => by
    rw [← Nat.div_div_eq_div_mul, Sh.at_div hI, Nat.mul_comm, Nat.mul_add_div (by omega), Nat.div_eq_of_lt hc, Nat.add_zero]
  have e0 := e 0 (h.L ha)
  rw [Nat.zero_mul, Nat.add_zero] at e0
  unfold tp
  rw [← hpd]
  show (_ / (gL xa a * gI xa a)) * _ = (_ / (gL xa a * gI xa a)) * _
  rw [Nat.mul_comm (gL xa a) (gI xa a), e c hc, e0]
theorem Axes.wq_line (h : Axes p xa) (r : Int) (inv : Bool) {a : Nat} (ha : a < xa.length) {k : Nat} (hk : k < Sh.prod (szs xa) / gL xa a) {c : Nat} (hc : c < gL xa a) : ∀ t, t ≤ xa.length - 1 - a →
    wq p xa inv r (Sh.first (gI xa a) (gL xa a) k + c * gI xa a) t = wq p xa inv r (Sh.first (gI xa a) (gL xa a) k) t
  | 0, _ => rfl
  | t + 1, ht => by
    rw [wq, wq, h.wq_line r inv ha hk hc t (by omega)]
    congr 1
    unfold plW
    congr 1
    have h0 := h.at_lt ha hk (h.L ha)
    have hl := Sh.at_line (L := gL xa a) (h.I a) (h.L ha) k
    rw [Nat.zero_mul, Nat.add_zero] at h0 hl
    have := h.coord_pt ha (b := xa.length - 1 - t) (by omega) (by omega) h0 hc
    unfold pt at this
    rwa [hl] at this
/-- What a seed makes of the transform, axis by axis. -/
theorem Grid.moved (h : Grid p xa xs) (r : Int) : ∀ t, t ≤ xa.length →
    Fp.eqm p (Fp.sum (fun i => (Go.Proofs.YtmeeldhejbdgjaaDoor.doTo p xa inv xs xa.length).getD i 0 * r ^ i) (Sh.prod (szs xa)))
      (Fp.sum (fun i => (Go.Proofs.YtmeeldhejbdgjaaDoor.doTo p xa inv xs (xa.length - t)).getD i 0 * (r ^ tp xa (xa.length - t) i * wq p xa inv r i t)) (Sh.prod (szs xa)))
  | 0, _ => by
    refine Fp.eqm.of (Fp.sum_congr fun i _ => ?_)
    have e : tp xa (xa.length - 0) i = i := by
      unfold tp
      rw [Nat.sub_zero, ← szs_len, List.drop_length]
      show i / 1 * 1 = i
      rw [Nat.div_one, Nat.mul_one]
    rw [e, wq, Int.mul_one, Nat.sub_zero]
  | t + 1, ht => by
    obtain ⟨a, ha'⟩ : ∃ a, a = xa.length - 1 - t := ⟨_, rfl⟩
    have e1 : xa.length - (t + 1) = a := by omega
    have e2 : xa.length - t = a + 1 := by omega
    have ha : a < xa.length := by omega
    refine (h.moved r t (by omega)).trans ?_
    rw [e1, e2, Go.Proofs.YtmeeldhejbdgjaaDoor.doTo]
    refine Fp.eqm.trans (Fp.eqm.of ?_) ((((h.doTo (inv := inv) a).move (inv := inv) ha (fun i => r ^ tp xa a i * wq p xa inv r i t) (fun c => (r ^ gI xa a) ^ c) ?_)).trans ?_)
    · refine Fp.sum_congr fun i _ => ?_
      rw [tp_succ xa ha, Int.pow_add, Nat.mul_comm _ (gI xa a), Int.pow_mul]
      congr 1
      rw [Int.mul_assoc, Int.mul_assoc, Int.mul_comm (wq _ _ _ _ _ _)]
    · intro k c hk hc
      rw [h.ax.tp_line ha k hc, h.ax.wq_line r inv ha hk hc t (by omega)]
    · refine Fp.sum_mod fun i _ => ?_
      rw [wq, ← ha']
      refine Fp.eqm.rfl.mul ?_
      rw [Int.mul_assoc]
      refine Fp.eqm.rfl.mul ?_
      rw [Int.mul_comm]
      refine Fp.eqm.mul ?_ Fp.eqm.rfl
      unfold plW wtN
      refine Fp.eqm.trans ?_ (Fp.eqm_red h.ax.kn _).symm
      refine Fp.sum_mod fun c _ => ?_
      rw [Int.mul_comm]
      exact Fp.eqm.rfl.mul ((Fp.eqm_red h.ax.kn _).symm.pow c)
/-- What a seed makes of the transform: all words times their weights. -/
theorem Grid.ev_all (h : Grid p xa xs) (r : Int) : Fp.eqm p (Fp.ev p (Go.Proofs.YtmeeldhejbdgjaaDoor.doTo p xa inv xs xa.length) r) (Fp.sum (fun i => xs.getD i 0 * wq p xa inv r i xa.length) (Sh.prod (szs xa))) := by
  unfold Fp.ev
  refine (Fp.eqm_red h.ax.kn _).trans ?_
  rw [Fp.hn_sum, doTo_len, h.len]
  refine (h.moved r xa.length (Nat.le_refl _)).trans (Fp.eqm.of ?_)
  refine Fp.sum_congr fun i hi => ?_
  have e : tp xa (xa.length - xa.length) i = 0 := by
    unfold tp
    rw [Nat.sub_self, List.drop_zero, Nat.div_eq_of_lt hi, Nat.zero_mul]
  rw [e, Int.pow_zero, Int.one_mul, Nat.sub_self]
  rfl
/-- The word that is left, when all axes are folded, is what the seed makes of the transform. -/
theorem Grid.expect (h : Grid p xa xs) (r : Int) : dn p xa inv xs r xa.length = [Fp.ev p (Go.Proofs.YtmeeldhejbdgjaaDoor.doTo p xa inv xs xa.length) r] := by
  have h1 : 1 ≤ xa.length := by have := h.ax.ok.one; rwa [szs_len] at this
  have hl := h.dn_len (inv := inv) (r := r) xa.length (Nat.le_refl _)
  have hi := h.dn_is (inv := inv) (r := r) xa.length (Nat.le_refl _) 0 (by rw [Nat.sub_self]; exact Nat.lt_succ_self 0)
  rw [Nat.sub_self, List.drop_zero] at hi
  rw [Nat.sub_self] at hl
  have hl1 : (dn p xa inv xs r xa.length).length = 1 := hl
  have hb : 0 ≤ (dn p xa inv xs r xa.length).getD 0 0 ∧ (dn p xa inv xs r xa.length).getD 0 0 < p := by
    obtain ⟨t, ht⟩ : ∃ t, xa.length = t + 1 := ⟨xa.length - 1, by omega⟩
    have hl2 := hl1
    rw [ht, dn] at hl2 ⊢
    rw [fdL_len] at hl2
    unfold fdL
    rw [getD_range _ (by omega)]
    have := fdN_bd p (dn p xa inv xs r t) (axW p xa inv r (xa.length - 1 - t)) 0
    exact ⟨this.1, this.2.2 h.ax.kn⟩
  have he : (dn p xa inv xs r xa.length).getD 0 0 = Fp.ev p (Go.Proofs.YtmeeldhejbdgjaaDoor.doTo p xa inv xs xa.length) r := by
    have hbe := Fp.ev_bd p (Go.Proofs.YtmeeldhejbdgjaaDoor.doTo p xa inv xs xa.length) r
    refine eq_of_eqm (hi.trans (Fp.eqm.trans (Fp.eqm.of ?_) (h.ev_all r).symm)) hb ⟨hbe.1, hbe.2.2 h.ax.kn⟩
    exact Fp.sum_congr fun i _ => by rw [Nat.zero_mul, Nat.zero_add]
  match hd : dn p xa inv xs r xa.length, hl1 with
  | [x], _ => rw [hd] at he; simpa using he
end

end Go.Proofs.YtmeeldhejbdgjaaDoor
