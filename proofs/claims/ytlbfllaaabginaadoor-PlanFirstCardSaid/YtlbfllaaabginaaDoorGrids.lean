/-
  Several texts in one: MathGrid, Axes, GridCheck, GridRef, GridWords, Through, GridDo.
-/
import Derived.Test.YtlbfllaaabginaaDoorShapes
import Derived.Test.YtlbfllaaabginaaDoorLines6
import Derived.Test.YtlbfllaaabginaaDoorRows2
import Derived.Deep.Slices
import Derived.Deep.Strs
import Derived.ChangeSame
import Derived.SizedLaws

/-!   Mathematics of layer 7: what is wrong with axes and their words, the words transformed along one axis and along all of them; that they come back, that two axes may change places, that an axis of length 1 changes nothing. No function of the program is named here.
-/

namespace Go.Proofs.YtlbfllaaabginaaDoor
open Go.RowKit

structure Ax where
  n : Int
  neg : Bool
def noAx : Ax := ⟨0, false⟩
instance : Inhabited Ax := ⟨noAx⟩
/-- How long axes are, as the program has it, and as plain numbers. -/
def dims (xa : List Ax) : List Int := xa.map Ax.n
def szs (xa : List Ax) : List Nat := xa.map fun a => a.n.toNat
theorem dims_len (xa : List Ax) : (dims xa).length = xa.length := by simp [dims]
theorem szs_len (xa : List Ax) : (szs xa).length = xa.length := by simp [szs]
theorem dims_get (xa : List Ax) (k : Nat) : (dims xa).getD k 0 = (xa.getD k noAx).n := by
  by_cases h : k < xa.length
  · simp [dims, h]
  · simp [dims, h, noAx]
theorem szs_get (xa : List Ax) (k : Nat) : (szs xa).getD k 0 = (xa.getD k noAx).n.toNat := by
  by_cases h : k < xa.length
  · simp [szs, h]
  · simp [szs, h, noAx]
theorem szs_of {xa : List Ax} {ns : List Nat} (h : dims xa = Sh.ints ns) : szs xa = ns := by
  have := congrArg (List.map Int.toNat) h
  simpa [dims, szs, Sh.ints, Function.comp_def] using this
theorem dims_or (xa : List Ax) : (Sh.Ok (szs xa) ∧ dims xa = Sh.ints (szs xa)) ∨ Sh.No (dims xa) := by
  rcases Sh.ok_or (dims xa) with ⟨ns, h1, h2⟩ | h
  · rw [szs_of h2]; exact .inl ⟨h1, h2⟩
  · exact .inr h

/-- An axis' size may be; it has its root. -/
def axS (xa : List Ax) (k : Nat) : Bool := Fac.sm (xa.getD k noAx).n
def axR (p : Int) (xa : List Ax) (k : Nat) : Prop := (p - 1) % ((Fp.od (xa.getD k noAx).neg (xa.getD k noAx).n.toNat : Nat) : Int) = 0
/-- There is nothing wrong with axes. -/
structure Axes (p : Int) (xa : List Ax) : Prop where
  kn : Fp.kn p = true
  ok : Sh.Ok (szs xa)
  is : dims xa = Sh.ints (szs xa)
  sm : ∀ k, k < xa.length → axS xa k = true
  dvd : ∀ k, k < xa.length → axR p xa k
/-- Whether axes may be, by trying. -/
def okB (xa : List Ax) : Bool := decide (1 ≤ (szs xa).length) && decide ((szs xa).length ≤ 4) && (szs xa).all (fun d => decide (1 ≤ d)) && decide (Sh.prod (szs xa) ≤ 4096) && decide (dims xa = Sh.ints (szs xa))
theorem okB_iff (xa : List Ax) : okB xa = true ↔ Sh.Ok (szs xa) ∧ dims xa = Sh.ints (szs xa) := by
  unfold okB
  simp only [Bool.and_eq_true, decide_eq_true_eq, List.all_eq_true]
  constructor
  · rintro ⟨⟨⟨⟨h1, h2⟩, h3⟩, h4⟩, h5⟩
    exact ⟨⟨h1, h2, h3, h4⟩, h5⟩
  · rintro ⟨⟨h1, h2, h3, h4⟩, h5⟩
    exact ⟨⟨⟨⟨h1, h2⟩, h3⟩, h4⟩, h5⟩
def sizesB (xa : List Ax) : Bool := (List.range xa.length).all (axS xa)
def rootsB (p : Int) (xa : List Ax) : Bool := (List.range xa.length).all fun k => decide ((p - 1) % ((Fp.od (xa.getD k noAx).neg (xa.getD k noAx).n.toNat : Nat) : Int) = 0)
theorem sizesB_iff (xa : List Ax) : sizesB xa = true ↔ ∀ k, k < xa.length → axS xa k = true := by
  unfold sizesB; simp only [List.all_eq_true, List.mem_range]
theorem rootsB_iff (p : Int) (xa : List Ax) : rootsB p xa = true ↔ ∀ k, k < xa.length → axR p xa k := by
  unfold rootsB axR; simp only [List.all_eq_true, List.mem_range, decide_eq_true_eq]
/-- What is wrong with axes. -/
def gridE (p : Int) (xa : List Ax) : Int := if Fp.kn p = false then 2 else if okB xa = false then 3 else if sizesB xa = false then 4 else if rootsB p xa = false then 5 else 0
theorem b_false {b : Bool} {P : Prop} (h : b = true ↔ P) (hn : ¬ P) : b = false := by
  cases b
  · rfl
  · exact absurd (h.1 rfl) hn
theorem b_not {b : Bool} {P : Prop} (h : b = true ↔ P) (hp : P) : ¬ b = false := by rw [h.2 hp]; decide
section
variable {p : Int} {xa : List Ax}
theorem gridE_prime (h : Fp.kn p = false) : gridE p xa = 2 := by unfold gridE; rw [if_pos h]
theorem gridE_dims (h : Fp.kn p = true) (hn : Sh.No (dims xa)) : gridE p xa = 3 := by
  unfold gridE; rw [if_neg (by simp [h]), if_pos (b_false (okB_iff xa) fun ⟨h1, h2⟩ => hn _ h1 h2)]
theorem gridE_size (h : Fp.kn p = true) (ho : Sh.Ok (szs xa)) (hd : dims xa = Sh.ints (szs xa)) {k : Nat} (hk : k < xa.length) (hs : axS xa k = false) : gridE p xa = 4 := by
  unfold gridE
  rw [if_neg (by simp [h]), if_neg (b_not (okB_iff xa) ⟨ho, hd⟩), if_pos (b_false (sizesB_iff xa) fun e => by rw [e k hk] at hs; cases hs)]
theorem gridE_order (h : Fp.kn p = true) (ho : Sh.Ok (szs xa)) (hd : dims xa = Sh.ints (szs xa)) (hs : ∀ k, k < xa.length → axS xa k = true) {k : Nat} (hk : k < xa.length) (hr : ¬ axR p xa k) : gridE p xa = 5 := by
  unfold gridE
  rw [if_neg (by simp [h]), if_neg (b_not (okB_iff xa) ⟨ho, hd⟩), if_neg (b_not (sizesB_iff xa) hs), if_pos (b_false (rootsB_iff p xa) fun e => hr (e k hk))]
theorem Axes.zero (h : Axes p xa) : gridE p xa = 0 := by
  unfold gridE
  rw [if_neg (by simp [h.kn]), if_neg (b_not (okB_iff xa) ⟨h.ok, h.is⟩), if_neg (b_not (sizesB_iff xa) h.sm), if_neg (b_not (rootsB_iff p xa) h.dvd)]
theorem gridE_cases (p : Int) (xa : List Ax) : gridE p xa = 0 ∧ Axes p xa ∨ (gridE p xa = 2 ∨ gridE p xa = 3 ∨ gridE p xa = 4 ∨ gridE p xa = 5) := by
  cases h : Fp.kn p
  · exact .inr (.inl (gridE_prime h))
  · rcases dims_or xa with ⟨ho, hd⟩ | hn
    · by_cases hs : ∃ k, k < xa.length ∧ axS xa k = false
      · obtain ⟨k, hk, e⟩ := hs
        exact .inr (.inr (.inr (.inl (gridE_size h ho hd hk e))))
      · have hs' : ∀ k, k < xa.length → axS xa k = true := fun k hk => by
          cases e : axS xa k
          · exact absurd ⟨k, hk, e⟩ hs
          · rfl
        by_cases hr : ∃ k, k < xa.length ∧ ¬ axR p xa k
        · obtain ⟨k, hk, e⟩ := hr
          exact .inr (.inr (.inr (.inr (gridE_order h ho hd hs' hk e))))
        · have hA : Axes p xa := ⟨h, ho, hd, hs', fun k hk => Classical.byContradiction fun e => hr ⟨k, hk, e⟩⟩
          exact .inl ⟨hA.zero, hA⟩
    · exact .inr (.inr (.inl (gridE_dims h hn)))
theorem gridE_zero (h : gridE p xa = 0) : Axes p xa := by
  rcases gridE_cases p xa with ⟨_, h'⟩ | h'
  · exact h'
  · omega
theorem gridE_bd (p : Int) (xa : List Ax) : 0 ≤ gridE p xa ∧ gridE p xa ≤ 5 := by
  rcases gridE_cases p xa with ⟨h, _⟩ | h <;> omega
end

/-- What is wrong with axes and their words. -/
def wordsE (p : Int) (xa : List Ax) (xs : List Int) : Int :=
  if gridE p xa ≠ 0 then gridE p xa else if xs.length ≠ Sh.prod (szs xa) then 6 else if Fp.isIn p (fun j => xs.getD j 0) xs.length = false then 7 else 0
/-- There is nothing wrong with them. -/
structure Grid (p : Int) (xa : List Ax) (xs : List Int) : Prop where
  ax : Axes p xa
  len : xs.length = Sh.prod (szs xa)
  lt : ∀ j, j < xs.length → xs.getD j 0 < p
section
variable {p : Int} {xa : List Ax} {xs ys : List Int}
theorem wordsE_grid (h : gridE p xa ≠ 0) : wordsE p xa xs = gridE p xa := by unfold wordsE; rw [if_pos h]
theorem wordsE_len (h : gridE p xa = 0) (hl : xs.length ≠ Sh.prod (szs xa)) : wordsE p xa xs = 6 := by unfold wordsE; rw [if_neg (by simp [h]), if_pos hl]
theorem wordsE_word (h : gridE p xa = 0) (hl : xs.length = Sh.prod (szs xa)) (hi : Fp.isIn p (fun j => xs.getD j 0) xs.length = false) : wordsE p xa xs = 7 := by
  unfold wordsE; rw [if_neg (by simp [h]), if_neg (by simp [hl]), if_pos hi]
theorem wordsE_ok (h : gridE p xa = 0) (hl : xs.length = Sh.prod (szs xa)) (hi : Fp.isIn p (fun j => xs.getD j 0) xs.length = true) : wordsE p xa xs = 0 := by
  unfold wordsE; rw [if_neg (by simp [h]), if_neg (by simp [hl]), if_neg (by rw [hi]; decide)]
theorem Grid.zero (h : Grid p xa xs) : wordsE p xa xs = 0 := wordsE_ok h.ax.zero h.len ((Fp.isIn_iff h.ax.kn _).2 h.lt)
theorem wordsE_zero (h : wordsE p xa xs = 0) : Grid p xa xs := by
  by_cases h1 : gridE p xa = 0
  · have hA := gridE_zero h1
    by_cases h2 : xs.length = Sh.prod (szs xa)
    · cases h3 : Fp.isIn p (fun j => xs.getD j 0) xs.length
      · rw [wordsE_word h1 h2 h3] at h; omega
      · exact ⟨hA, h2, (Fp.isIn_iff hA.kn _).1 h3⟩
    · rw [wordsE_len h1 h2] at h; omega
  · rw [wordsE_grid h1] at h; exact absurd h h1
theorem wordsE_bd (p : Int) (xa : List Ax) (xs : List Int) : 0 ≤ wordsE p xa xs ∧ wordsE p xa xs ≤ 7 := by
  have := gridE_bd p xa
  unfold wordsE
  split
  · omega
  · split
    · omega
    · split <;> omega
/-- Other words of p, as many. -/
theorem Grid.other (h : Grid p xa xs) (hl : ys.length = xs.length) (hy : ∀ j, j < ys.length → ys.getD j 0 < p) : Grid p xa ys := ⟨h.ax, hl.trans h.len, hy⟩
theorem Grid.le (h : Grid p xa xs) : 1 ≤ xs.length ∧ xs.length ≤ 4096 := by rw [h.len]; exact ⟨h.ax.ok.here, h.ax.ok.le⟩
end

/-- A line transformed, there or back; by its places; and by what each word goes into another one. -/
def trN (p : Int) (neg inv : Bool) (xs : List Int) (c : Nat) : Int := if inv = true then bwdN p xs neg c else fwdN p xs neg c
def tr (p : Int) (neg inv : Bool) (xs : List Int) : List Int := if inv = true then bwd p xs neg else fwd p xs neg
def krn (p : Int) (neg inv : Bool) (n c j : Nat) : Int := if inv = true then Fp.inv p n * bkl p neg n ^ Fp.ex neg c j else rtl p neg n ^ Fp.ex neg j c
section
variable {p : Int} {xs : List Int} {neg : Bool}
theorem trN_bd (h : Fp.kn p = true) (inv : Bool) (c : Nat) : 0 ≤ trN p neg inv xs c ∧ trN p neg inv xs c < p := by
  unfold trN; cases inv
  · simpa using fwdN_bd h c
  · simpa using bwdN_bd h c
theorem Line.tr (h : Line p xs neg) (inv : Bool) : tr p neg inv xs = (List.range xs.length).map (trN p neg inv xs) := by
  unfold Go.Proofs.YtlbfllaaabginaaDoor.tr; cases inv
  · have e : trN p neg false xs = fwdN p xs neg := by funext c; simp [trN]
    rw [e]; simpa using h.fwd
  · have e : trN p neg true xs = bwdN p xs neg := by funext c; simp [trN]
    rw [e]; simpa using h.bwd
theorem Line.trN_eqm (h : Line p xs neg) (inv : Bool) (c : Nat) : Fp.eqm p (trN p neg inv xs c) (Fp.sum (fun j => nth xs j * krn p neg inv xs.length c j) xs.length) := by
  cases inv
  · have e : trN p neg false xs c = fwdN p xs neg c := by simp [trN]
    rw [e]
    unfold fwdN
    refine (Fp.eqm_md p _).trans (Fp.eqm.of ?_)
    unfold Fp.fw
    exact Fp.sum_congr fun j _ => by simp [krn]
  · have e : trN p neg true xs c = bwdN p xs neg c := by simp [trN]
    rw [e]
    refine (bwdN_eqm h.kn c).trans (Fp.eqm.of ?_)
    unfold Fp.bw
    rw [← Fp.sum_mul]
    refine Fp.sum_congr fun j _ => ?_
    simp only [krn, if_true]
    rw [Int.mul_left_comm]
theorem Line.tr_back (h : Line p xs neg) (hw : Words xs) (inv : Bool) : Go.Proofs.YtlbfllaaabginaaDoor.tr p neg (!inv) (Go.Proofs.YtlbfllaaabginaaDoor.tr p neg inv xs) = xs := by
  unfold Go.Proofs.YtlbfllaaabginaaDoor.tr; cases inv
  · simpa using h.back hw
  · simpa using h.forth hw
theorem Line.trLine (h : Line p xs neg) (inv : Bool) : Line p (Go.Proofs.YtlbfllaaabginaaDoor.tr p neg inv xs) neg := by
  rw [h.tr inv]; exact h.map (trN_bd h.kn inv)
theorem Line.trLen (h : Line p xs neg) (inv : Bool) : (Go.Proofs.YtlbfllaaabginaaDoor.tr p neg inv xs).length = xs.length := by rw [h.tr inv]; simp
/-- A line of one word stays. -/
theorem Line.tr_one (h : Line p xs neg) (hw : Words xs) (h1 : xs.length = 1) (inv : Bool) : Go.Proofs.YtlbfllaaabginaaDoor.tr p neg inv xs = xs := by
  have hf : ∀ ys : List Int, Line p ys neg → Words ys → ys.length = 1 → Go.Proofs.YtlbfllaaabginaaDoor.fwd p ys neg = ys := fun ys hy hwy hl => by
    rw [hy.fwd]
    refine list_eq_range rfl fun k hk => ?_
    obtain rfl : k = 0 := by omega
    have e : Fp.fw (rtl p neg ys.length) neg ys.length (nth ys) 0 = ys.getD 0 0 := by
      rw [hl]
      show 0 + nth ys 0 * rtl p neg 1 ^ Fp.ex neg 0 0 = _
      have : Fp.ex neg 0 0 = 0 := by unfold Fp.ex; split <;> simp
      rw [this, Int.pow_zero]; unfold nth; omega
    unfold fwdN
    rw [e, Int.emod_eq_of_lt (hwy 0).1 (hy.lt 0 (by omega))]
  cases inv
  · have : Go.Proofs.YtlbfllaaabginaaDoor.tr p neg false xs = Go.Proofs.YtlbfllaaabginaaDoor.fwd p xs neg := by simp [Go.Proofs.YtlbfllaaabginaaDoor.tr]
    rw [this]; exact hf xs h hw h1
  · have : Go.Proofs.YtlbfllaaabginaaDoor.tr p neg true xs = Go.Proofs.YtlbfllaaabginaaDoor.bwd p xs neg := by simp [Go.Proofs.YtlbfllaaabginaaDoor.tr]
    rw [this]
    exact (hf _ h.bwdLine h.bwdWords (by rw [h.bwdLen]; exact h1)).symm.trans (h.forth hw)
end

/-- How far two words of a line of axis a stand apart; how long it is; whether it is Neg. -/
def gI (xa : List Ax) (a : Nat) : Nat := Sh.prod ((szs xa).drop (a + 1))
def gL (xa : List Ax) (a : Nat) : Nat := (szs xa).getD a 0
def gN (xa : List Ax) (a : Nat) : Bool := (xa.getD a noAx).neg
/-- The words of the k-th line of axis a. -/
def lnOf (xa : List Ax) (a : Nat) (xs : List Int) (k : Nat) : List Int := (List.range (gL xa a)).map fun j => xs.getD (Sh.first (gI xa a) (gL xa a) k + j * gI xa a) 0
def thrN (p : Int) (xa : List Ax) (a : Nat) (inv : Bool) (xs : List Int) (i : Nat) : Int := trN p (gN xa a) inv (lnOf xa a xs (Sh.lnum (gI xa a) (gL xa a) i)) (i / gI xa a % gL xa a)
/-- The words xs, transformed along axis a; and along the first m axes. -/
def thr (p : Int) (xa : List Ax) (a : Nat) (inv : Bool) (xs : List Int) : List Int := (List.range xs.length).map (thrN p xa a inv xs)
def doTo (p : Int) (xa : List Ax) (inv : Bool) (xs : List Int) : Nat → List Int
  | 0 => xs
  | m + 1 => thr p xa m inv (doTo p xa inv xs m)
/-- The place i with the coordinate of axis a turned to j. -/
def pt (xa : List Ax) (a i j : Nat) : Nat := Sh.first (gI xa a) (gL xa a) (Sh.lnum (gI xa a) (gL xa a) i) + j * gI xa a

section
variable {p : Int} {xa : List Ax} {xs : List Int} {a b : Nat} {inv inv' : Bool}
theorem thr_len (p : Int) (xa : List Ax) (a : Nat) (inv : Bool) (xs : List Int) : (thr p xa a inv xs).length = xs.length := by simp [thr]
theorem lnOf_len (xa : List Ax) (a : Nat) (xs : List Int) (k : Nat) : (lnOf xa a xs k).length = gL xa a := by simp [lnOf]
theorem doTo_len (p : Int) (xa : List Ax) (inv : Bool) (xs : List Int) (m : Nat) : (doTo p xa inv xs m).length = xs.length := by
  induction m with
  | zero => rfl
  | succ m ih => rw [doTo, thr_len, ih]
theorem Axes.I (h : Axes p xa) (a : Nat) : 1 ≤ gI xa a := h.ok.pos_drop _
theorem Axes.L (h : Axes p xa) (ha : a < xa.length) : 1 ≤ gL xa a := h.ok.pos_at (by rw [szs_len]; exact ha)
theorem Axes.L_le (h : Axes p xa) (ha : a < xa.length) : gL xa a ≤ 4096 := h.ok.le_at (by rw [szs_len]; exact ha)
theorem Axes.prod (_h : Axes p xa) (ha : a < xa.length) : Sh.prod (szs xa) = Sh.prod ((szs xa).take a) * (gL xa a * gI xa a) := Sh.parts _ _ (by rw [szs_len]; exact ha)
theorem Axes.lines (h : Axes p xa) (ha : a < xa.length) : Sh.prod (szs xa) / gL xa a = Sh.prod ((szs xa).take a) * gI xa a := Sh.parts_div h.ok _ (by rw [szs_len]; exact ha)
theorem Axes.at_lt (h : Axes p xa) (ha : a < xa.length) {k j : Nat} (hk : k < Sh.prod (szs xa) / gL xa a) (hj : j < gL xa a) : Sh.first (gI xa a) (gL xa a) k + j * gI xa a < Sh.prod (szs xa) := by
  rw [h.lines ha] at hk
  rw [h.prod ha]
  exact Sh.at_lt hk hj
theorem Axes.line_lt (h : Axes p xa) (ha : a < xa.length) {i : Nat} (hi : i < Sh.prod (szs xa)) : Sh.lnum (gI xa a) (gL xa a) i < Sh.prod (szs xa) / gL xa a := by
  rw [h.prod ha] at hi
  rw [h.lines ha]
  exact Sh.line_lt hi
theorem Axes.int (h : Axes p xa) (_ha : a < xa.length) : (xa.getD a noAx).n = ((gL xa a : Nat) : Int) := by
  have := congrArg (fun l : List Int => l.getD a 0) h.is
  rw [dims_get, Sh.ints_get] at this
  exact this
theorem Axes.sm' (h : Axes p xa) (ha : a < xa.length) : Fac.sm ((gL xa a : Nat) : Int) = true := by
  have := h.sm a ha
  unfold axS at this
  rwa [h.int ha] at this
theorem Axes.dvd' (h : Axes p xa) (ha : a < xa.length) : (p - 1) % ((Fp.od (gN xa a) (gL xa a) : Nat) : Int) = 0 := by
  have := h.dvd a ha
  unfold axR at this
  rwa [h.int ha, Int.toNat_natCast] at this
theorem Axes.coord_lt (h : Axes p xa) (ha : a < xa.length) (i : Nat) : i / gI xa a % gL xa a < gL xa a := Nat.mod_lt _ (h.L ha)
theorem Grid.line (h : Grid p xa xs) (ha : a < xa.length) {k : Nat} (hk : k < Sh.prod (szs xa) / gL xa a) : Line p (lnOf xa a xs k) (gN xa a) := by
  refine ⟨h.ax.kn, by rw [lnOf_len]; exact h.ax.sm' ha, by rw [lnOf_len]; exact h.ax.dvd' ha, fun j hj => ?_⟩
  rw [lnOf_len] at hj
  unfold lnOf
  rw [getD_range _ hj]
  exact h.lt _ (by rw [h.len]; exact h.ax.at_lt ha hk hj)
theorem words_lnOf (hw : Words xs) (xa : List Ax) (a k : Nat) : Words (lnOf xa a xs k) := fun j => by
  by_cases hj : j < gL xa a
  · unfold lnOf; rw [getD_range _ hj]; exact hw _
  · simp [lnOf, hj]
theorem thrN_bd (h : Fp.kn p = true) (i : Nat) : 0 ≤ thrN p xa a inv xs i ∧ thrN p xa a inv xs i < p := trN_bd h inv _
theorem Grid.thr (h : Grid p xa xs) : Grid p xa (thr p xa a inv xs) := h.other (thr_len _ _ _ _ _) fun j hj => by
  rw [thr_len] at hj
  unfold Go.Proofs.YtlbfllaaabginaaDoor.thr
  rw [getD_range _ hj]
  exact (thrN_bd h.ax.kn j).2
theorem Grid.thrWords (h : Grid p xa xs) : Words (Go.Proofs.YtlbfllaaabginaaDoor.thr p xa a inv xs) := words_map h.ax.kn fun i => thrN_bd h.ax.kn i
theorem Grid.doTo (h : Grid p xa xs) (m : Nat) : Grid p xa (doTo p xa inv xs m) := by
  induction m with
  | zero => exact h
  | succ m ih => exact ih.thr
theorem Grid.doWords (h : Grid p xa xs) (hw : Words xs) (m : Nat) : Words (Go.Proofs.YtlbfllaaabginaaDoor.doTo p xa inv xs m) := by
  cases m with
  | zero => exact hw
  | succ m => exact (h.doTo m).thrWords

/-- A line of what is transformed is that line, transformed. -/
theorem Grid.line_thr (h : Grid p xa xs) (ha : a < xa.length) {k : Nat} (hk : k < Sh.prod (szs xa) / gL xa a) : lnOf xa a (Go.Proofs.YtlbfllaaabginaaDoor.thr p xa a inv xs) k = tr p (gN xa a) inv (lnOf xa a xs k) := by
  rw [(h.line ha hk).tr inv, lnOf_len]
  unfold lnOf
  refine List.map_congr_left fun j hj => ?_
  have hj := List.mem_range.1 hj
  have hlt := h.ax.at_lt ha hk hj
  unfold Go.Proofs.YtlbfllaaabginaaDoor.thr
  rw [getD_range _ (by rw [h.len]; exact hlt)]
  unfold thrN
  rw [Sh.at_line (h.ax.I a) hj, Sh.at_coord (h.ax.I a) hj]
  rfl
/-- Back from axis a is what it was. -/
theorem Grid.thr_back (h : Grid p xa xs) (hw : Words xs) (ha : a < xa.length) : Go.Proofs.YtlbfllaaabginaaDoor.thr p xa a (!inv) (Go.Proofs.YtlbfllaaabginaaDoor.thr p xa a inv xs) = xs := by
  have e : Go.Proofs.YtlbfllaaabginaaDoor.thr p xa a (!inv) (Go.Proofs.YtlbfllaaabginaaDoor.thr p xa a inv xs) = (List.range xs.length).map (thrN p xa a (!inv) (Go.Proofs.YtlbfllaaabginaaDoor.thr p xa a inv xs)) := by
    show (List.range (Go.Proofs.YtlbfllaaabginaaDoor.thr p xa a inv xs).length).map _ = _
    rw [thr_len]
  rw [e]
  refine list_eq_range rfl fun i hi => ?_
  rw [h.len] at hi
  have hk := h.ax.line_lt ha hi
  have hc := h.ax.coord_lt ha i
  unfold thrN
  rw [h.line_thr ha hk]
  have hl := (h.line ha hk).trLine inv
  have h1 : (tr p (gN xa a) (!inv) (tr p (gN xa a) inv (lnOf xa a xs (Sh.lnum (gI xa a) (gL xa a) i)))).getD (i / gI xa a % gL xa a) 0 = trN p (gN xa a) (!inv) (tr p (gN xa a) inv (lnOf xa a xs (Sh.lnum (gI xa a) (gL xa a) i))) (i / gI xa a % gL xa a) := by
    rw [hl.tr, getD_range _ (by rw [(h.line ha hk).trLen, lnOf_len]; exact hc)]
  rw [← h1, (h.line ha hk).tr_back (words_lnOf hw _ _ _)]
  unfold lnOf
  rw [getD_range _ hc, Sh.back (h.ax.I a)]
/-- An axis of length 1 changes nothing. -/
theorem Grid.thr_one (h : Grid p xa xs) (hw : Words xs) (ha : a < xa.length) (h1 : gL xa a = 1) : Go.Proofs.YtlbfllaaabginaaDoor.thr p xa a inv xs = xs := by
  unfold Go.Proofs.YtlbfllaaabginaaDoor.thr
  refine list_eq_range rfl fun i hi => ?_
  rw [h.len] at hi
  have hk := h.ax.line_lt ha hi
  have hc := h.ax.coord_lt ha i
  have hl := h.line ha hk
  have e := hl.tr_one (words_lnOf hw _ _ _) (by rw [lnOf_len]; exact h1) inv
  have h2 : (lnOf xa a xs (Sh.lnum (gI xa a) (gL xa a) i)).getD (i / gI xa a % gL xa a) 0 = trN p (gN xa a) inv (lnOf xa a xs (Sh.lnum (gI xa a) (gL xa a) i)) (i / gI xa a % gL xa a) := by
    conv => lhs; rw [← e, hl.tr inv]
    rw [getD_range _ (by rw [lnOf_len]; exact hc)]
  unfold thrN
  rw [← h2]
  unfold lnOf
  rw [getD_range _ hc, Sh.back (h.ax.I a)]
/-- Of words that are one line it is the line's transform. -/
theorem Grid.thr_line (h : Grid p xa xs) (ha : a < xa.length) (hI : gI xa a = 1) (hL : gL xa a = xs.length) : Go.Proofs.YtlbfllaaabginaaDoor.thr p xa a inv xs = tr p (gN xa a) inv xs := by
  have h0 : 0 < Sh.prod (szs xa) / gL xa a := by
    have := h.ax.line_lt ha (i := 0) (by have := h.ax.ok.here; omega)
    omega
  have e : lnOf xa a xs 0 = xs := by
    unfold lnOf
    rw [hI, hL]
    refine list_eq_range rfl fun j _ => ?_
    simp [Sh.first]
  have hl := h.line ha h0
  rw [e] at hl
  rw [hl.tr inv]
  unfold Go.Proofs.YtlbfllaaabginaaDoor.thr
  refine List.map_congr_left fun i hi => ?_
  have hi := List.mem_range.1 hi
  unfold thrN
  have e1 : Sh.lnum (gI xa a) (gL xa a) i = 0 := by
    rw [hI, hL]; unfold Sh.lnum; rw [Nat.div_one, Nat.div_eq_of_lt hi, Nat.mod_one]
  rw [e1, e, hI, hL, Nat.div_one, Nat.mod_eq_of_lt hi]

/-! Two axes. -/
theorem Axes.pt_lt (h : Axes p xa) (ha : a < xa.length) {i j : Nat} (hi : i < Sh.prod (szs xa)) (hj : j < gL xa a) : pt xa a i j < Sh.prod (szs xa) := h.at_lt ha (h.line_lt ha hi) hj
theorem Axes.pt_fl (h : Axes p xa) (ha : a < xa.length) {i j : Nat} (hi : i < Sh.prod (szs xa)) (hj : j < gL xa a) : pt xa a i j = Sh.fl (szs xa) ((Sh.crd (szs xa) i).set a j) := by
  have ha' : a < (szs xa).length := by rw [szs_len]; exact ha
  obtain ⟨z, hz⟩ : ∃ z, z = Sh.first (gI xa a) (gL xa a) (Sh.lnum (gI xa a) (gL xa a) i) := ⟨_, rfl⟩
  have hzl : z < Sh.prod (szs xa) := by
    have := h.at_lt ha (h.line_lt ha hi) (h.L ha)
    rw [← hz] at this
    omega
  have hc0 : (Sh.crd (szs xa) z).getD a 0 = 0 := by
    rw [Sh.crd_get _ _ _ ha', hz]
    have := Sh.at_coord (L := gL xa a) (h.I a) (h.L ha) (Sh.lnum (gI xa a) (gL xa a) i)
    rw [Nat.zero_mul, Nat.add_zero] at this
    exact this
  have hput : ∀ c, c < gL xa a → Sh.fl (szs xa) ((Sh.crd (szs xa) z).set a c) = z + c * gI xa a := fun c _ => by
    rw [Sh.fl_set (Sh.crd_len _ _) a c ha' hc0, Sh.fl_crd' hzl]
    rfl
  have hin := Sh.crd_in h.ok.pos z
  have hb := Sh.back (L := gL xa a) (h.I a) i
  rw [← hz] at hb
  have hci := h.coord_lt ha i
  have e : Sh.crd (szs xa) i = (Sh.crd (szs xa) z).set a (i / gI xa a % gL xa a) := by
    conv => lhs; rw [← hb, ← hput _ hci]
    exact Sh.crd_fl (hin.set a _ hci)
  rw [e, List.set_set, hput j hj]
  unfold pt
  rw [hz]
theorem Axes.crd_pt (h : Axes p xa) (ha : a < xa.length) {i j : Nat} (hi : i < Sh.prod (szs xa)) (hj : j < gL xa a) : Sh.crd (szs xa) (pt xa a i j) = (Sh.crd (szs xa) i).set a j := by
  rw [h.pt_fl ha hi hj]
  exact Sh.crd_fl ((Sh.crd_in h.ok.pos i).set a j hj)
theorem Axes.coord_pt (h : Axes p xa) (ha : a < xa.length) (hb : b < xa.length) (hne : a ≠ b) {i j : Nat} (hi : i < Sh.prod (szs xa)) (hj : j < gL xa a) : pt xa a i j / gI xa b % gL xa b = i / gI xa b % gL xa b := by
  have hb' : b < (szs xa).length := by rw [szs_len]; exact hb
  have e1 := Sh.crd_get (szs xa) (pt xa a i j) b hb'
  have e2 := Sh.crd_get (szs xa) i b hb'
  rw [h.crd_pt ha hi hj, List.getD_eq_getElem?_getD, List.getElem?_set_ne hne, ← List.getD_eq_getElem?_getD, e2] at e1
  exact e1.symm
theorem Axes.pt_comm (h : Axes p xa) (ha : a < xa.length) (hb : b < xa.length) (hne : a ≠ b) {i j l : Nat} (hi : i < Sh.prod (szs xa)) (hj : j < gL xa a) (hl : l < gL xa b) : pt xa b (pt xa a i j) l = pt xa a (pt xa b i l) j := by
  rw [h.pt_fl hb (h.pt_lt ha hi hj) hl, h.crd_pt ha hi hj, h.pt_fl ha (h.pt_lt hb hi hl) hj, h.crd_pt hb hi hl, List.set_comm _ _ hne]
/-- What is transformed along axis a, as a sum. -/
theorem Grid.thrN_eqm (h : Grid p xa xs) (ha : a < xa.length) {i : Nat} (hi : i < Sh.prod (szs xa)) :
    Fp.eqm p (thrN p xa a inv xs i) (Fp.sum (fun j => xs.getD (pt xa a i j) 0 * krn p (gN xa a) inv (gL xa a) (i / gI xa a % gL xa a) j) (gL xa a)) := by
  have hl := h.line ha (h.ax.line_lt ha hi)
  unfold thrN
  refine (hl.trN_eqm inv _).trans (Fp.eqm.of ?_)
  rw [lnOf_len]
  refine Fp.sum_congr fun j hj => ?_
  unfold lnOf
  rw [nth_range _ hj]
  rfl
theorem Grid.thr_two (h : Grid p xa xs) (ha : a < xa.length) (hb : b < xa.length) (hne : a ≠ b) {i : Nat} (hi : i < Sh.prod (szs xa)) :
    Fp.eqm p (thrN p xa a inv (Go.Proofs.YtlbfllaaabginaaDoor.thr p xa b inv' xs) i) (Fp.sum (fun j => Fp.sum (fun l => xs.getD (pt xa b (pt xa a i j) l) 0 * (krn p (gN xa b) inv' (gL xa b) (i / gI xa b % gL xa b) l * krn p (gN xa a) inv (gL xa a) (i / gI xa a % gL xa a) j)) (gL xa b)) (gL xa a)) := by
  refine ((h.thr (a := b) (inv := inv')).thrN_eqm ha hi).trans ?_
  refine Fp.sum_mod fun j hj => ?_
  have hp := h.ax.pt_lt ha hi hj
  have e1 : (Go.Proofs.YtlbfllaaabginaaDoor.thr p xa b inv' xs).getD (pt xa a i j) 0 = thrN p xa b inv' xs (pt xa a i j) := by
    unfold Go.Proofs.YtlbfllaaabginaaDoor.thr
    rw [getD_range _ (by rw [h.len]; exact hp)]
  rw [e1]
  refine ((h.thrN_eqm hb hp).mul Fp.eqm.rfl).trans (Fp.eqm.of ?_)
  rw [← Fp.sum_mulr]
  refine Fp.sum_congr fun l _ => ?_
  rw [h.ax.coord_pt ha hb hne hi hj, Int.mul_assoc]
/-- In whatever order two axes are gone through, each there or back, it is the same. -/
theorem Grid.thr_comm (h : Grid p xa xs) (ha : a < xa.length) (hb : b < xa.length) (hne : a ≠ b) :
    Go.Proofs.YtlbfllaaabginaaDoor.thr p xa a inv (Go.Proofs.YtlbfllaaabginaaDoor.thr p xa b inv' xs) = Go.Proofs.YtlbfllaaabginaaDoor.thr p xa b inv' (Go.Proofs.YtlbfllaaabginaaDoor.thr p xa a inv xs) := by
  have e : ∀ (c d : Nat) (v v' : Bool), Go.Proofs.YtlbfllaaabginaaDoor.thr p xa c v (Go.Proofs.YtlbfllaaabginaaDoor.thr p xa d v' xs) = (List.range xs.length).map (thrN p xa c v (Go.Proofs.YtlbfllaaabginaaDoor.thr p xa d v' xs)) := fun c d v v' => by
    show (List.range (Go.Proofs.YtlbfllaaabginaaDoor.thr p xa d v' xs).length).map _ = _
    rw [thr_len]
  rw [e, e]
  refine List.map_congr_left fun i hi => ?_
  have hi := List.mem_range.1 hi
  rw [h.len] at hi
  refine eq_of_eqm ?_ (thrN_bd h.ax.kn i) (thrN_bd h.ax.kn i)
  refine (h.thr_two ha hb hne hi).trans (Fp.eqm.trans (Fp.eqm.of ?_) (h.thr_two hb ha (Ne.symm hne) hi).symm)
  rw [Fp.sum_swap]
  refine Fp.sum_congr fun l hl => Fp.sum_congr fun j hj => ?_
  rw [h.ax.pt_comm ha hb hne hi hj hl, Int.mul_comm (krn _ _ _ _ _ l)]

/-- One axis, taken ahead of those from m on. -/
theorem Grid.thr_doTo (h : Grid p xa xs) (ha : a < xa.length) {m : Nat} (hm : m ≤ a) : Go.Proofs.YtlbfllaaabginaaDoor.thr p xa a inv' (Go.Proofs.YtlbfllaaabginaaDoor.doTo p xa inv xs m) = Go.Proofs.YtlbfllaaabginaaDoor.doTo p xa inv (Go.Proofs.YtlbfllaaabginaaDoor.thr p xa a inv' xs) m := by
  induction m with
  | zero => rfl
  | succ m ih =>
    rw [Go.Proofs.YtlbfllaaabginaaDoor.doTo, Go.Proofs.YtlbfllaaabginaaDoor.doTo, (h.doTo m).thr_comm ha (by omega) (by omega), ih (by omega)]
/-- Back from all axes is what it was. -/
theorem Grid.do_back (h : Grid p xa xs) (hw : Words xs) {m : Nat} (hm : m ≤ xa.length) : Go.Proofs.YtlbfllaaabginaaDoor.doTo p xa (!inv) (Go.Proofs.YtlbfllaaabginaaDoor.doTo p xa inv xs m) m = xs := by
  induction m generalizing xs with
  | zero => rfl
  | succ m ih =>
    have h1 : Go.Proofs.YtlbfllaaabginaaDoor.doTo p xa (!inv) (Go.Proofs.YtlbfllaaabginaaDoor.doTo p xa inv xs (m + 1)) (m + 1) = Go.Proofs.YtlbfllaaabginaaDoor.thr p xa m (!inv) (Go.Proofs.YtlbfllaaabginaaDoor.doTo p xa (!inv) (Go.Proofs.YtlbfllaaabginaaDoor.thr p xa m inv (Go.Proofs.YtlbfllaaabginaaDoor.doTo p xa inv xs m)) m) := rfl
    rw [h1, (h.doTo m).thr.thr_doTo (by omega) (Nat.le_refl _), (h.doTo m).thr_back (h.doWords hw m) (by omega)]
    exact ih h hw (by omega)
end

end Go.Proofs.YtlbfllaaabginaaDoor

/-!   Slices of axes, read as lists; how long they are (grid.Dims, and the document's).
-/

namespace Go.Proofs.YtlbfllaaabginaaDoor
open Go.RowKit Go.Deep Go.ChangeShapes

/-- The address x holds the axes xa, in blocks below B (asked only if there are any). -/
def ReadsA (w : World) (B : Nat) (x : Option Addr) (xa : List Ax) : Prop :=
  0 < xa.length → ∃ b off, x = some ⟨b, off, none⟩ ∧ b < B ∧ ∀ j, j < xa.length →
    w.cell? ⟨b, off + j * 2, none⟩ = some (.int .i64 (xa.getD j noAx).n) ∧ w.cell? ⟨b, off + j * 2 + 1, none⟩ = some (.bool (xa.getD j noAx).neg)

section
variable {w w' : World} {B B' : Nat} {x : Option Addr} {xa : List Ax}
theorem ReadsA.nil : ReadsA w B x [] := fun h => absurd h (by simp)
theorem ReadsA.keep (h : ReadsA w B x xa) (hk : ∀ p : Addr, p.block < B → w'.cell? p = w.cell? p) : ReadsA w' B x xa := fun hn => by
  obtain ⟨b, off, e, hb, hc⟩ := h hn
  exact ⟨b, off, e, hb, fun j hj => ⟨(hk _ (by exact hb)).trans (hc j hj).1, (hk _ (by exact hb)).trans (hc j hj).2⟩⟩
theorem ReadsA.more (h : ReadsA w B x xa) (hB : B ≤ B') : ReadsA w B' x xa := fun hn => by
  obtain ⟨b, off, e, hb, hc⟩ := h hn
  exact ⟨b, off, e, by omega, hc⟩
theorem ReadsA.below (h : ReadsA w B x xa) (hb : Below B w w') : ReadsA w' B x xa := h.keep fun _ hp => hb.cell hp
theorem ReadsA.draws (h : ReadsA w B x xa) (n : Nat) : ReadsA (w.drewN n) B x xa := h
end

/-- A slice of axes that came in. -/
def AxisIn (w : World) (a : Option Addr) (len cap : Nat) (xa : List Ax) : Prop := xa.length = len ∧ len ≤ cap ∧ cap ≤ maxLen ∧ ReadsA w w.heap.size a xa ∧ ∀ k, -9223372036854775808 ≤ (xa.getD k noAx).n ∧ (xa.getD k noAx).n < 9223372036854775808

theorem cells_axis : Tryd.prog.cellsOf 53 = 2 := by kernel_rfl
theorem cells_intA : Tryd.prog.cellsOf 3 = 1 := by kernel_rfl
theorem cells_boolA : Tryd.prog.cellsOf 4 = 1 := by kernel_rfl

set_option maxRecDepth 100000 in
theorem open_Axis {H : Type} {enc : TypeId × Value → H} {w : World} {base : Nat} {spare : Nat → Bool} {held : Bool} {fuel : Nat} {cs : List Value} {x : DataW H × List MemPlace} {a : Option Addr} {len cap : Nat}
    (h : DataW.trod enc Tryd.prog w base spare held fuel 23 cs = some x) (hcs : cs = [.slice a len cap]) : ∃ xa, AxisIn w a len cap xa := by
  rcases open_slice Tryd.underlying23 h with ⟨e, _⟩ | ⟨ad, l, c, m, n, D, Pl, e, _, hl, hm, hmm, _, hx⟩
  · rw [hcs] at e
    simp at e
    obtain ⟨rfl, rfl, rfl⟩ := e
    exact ⟨[], rfl, Nat.le_refl _, by unfold maxLen; omega, ReadsA.nil, fun k => by simp [noAx]⟩
  · rw [hcs] at e
    simp at e
    obtain ⟨rfl, rfl, rfl⟩ := e
    have hlm : len ≤ m := by rw [hmm]; split <;> omega
    have each : ∀ i, i < m → ∃ s : Ax, w.cell? (ad.add (i * 2)) = some (.int .i64 s.n) ∧ w.cell? (ad.add (i * 2 + 1)) = some (.bool s.neg) ∧ -9223372036854775808 ≤ s.n ∧ s.n < 9223372036854775808 := by
      intro i hi
      obtain ⟨cs', h1, h2⟩ := hx i hi
      rw [cells_axis] at h1
      obtain ⟨_, hlen, hcell⟩ := World.cells?_some h1
      obtain ⟨y0, y1, k, _, _, g0, g1⟩ := trod_struct2 Tryd.underlying53 h2
      match cs', hlen with
      | [v0, v1], _ =>
        dsimp only at g0 g1
        rw [cells_intA] at g0
        rw [cells_boolA] at g1
        obtain ⟨n0, e0, _, hwf⟩ := DataW.trod_int Tryd.underlying3 g0
        obtain ⟨n1, e1, _⟩ := DataW.trod_bool Tryd.underlying4 g1
        simp at e0 e1
        have c0 := hcell 0 (by omega)
        have c1 := hcell 1 (by omega)
        rw [add_add] at c0 c1
        have hb := i64_of hwf
        exact ⟨⟨n0, n1⟩, by simpa [e0] using c0, by simpa [e1] using c1, hb.1, hb.2⟩
    obtain ⟨q, hq⟩ := choose_lt each
    refine ⟨(List.range len).map q, by simp, hl, hm, fun hn => ?_, fun k => ?_⟩
    · simp at hn
      obtain ⟨b, off, spot⟩ := ad
      have hspot : spot = none := by simpa [Addr.add] using World.cell?_spot (hq 0 (by omega)).1
      subst hspot
      refine ⟨b, off, rfl, World.block_lt_of_cell? _ _ (by simpa [Addr.add] using (hq 0 (by omega)).1), fun j hj => ?_⟩
      simp at hj
      obtain ⟨c0, c1, _⟩ := hq j (by omega)
      rw [Go.WideShapes.add_plain] at c0 c1
      have eg : ((List.range len).map q).getD j noAx = q j := by simp [hj]
      rw [eg]
      exact ⟨c0, c1⟩
    · by_cases hk : k < len
      · have eg : ((List.range len).map q).getD k noAx = q k := by simp [hk]
        rw [eg]
        exact (hq k (by omega)).2.2
      · simp [hk, noAx]

theorem bytes_axis : Tryd.prog.bytesOf 53 = 16 := by kernel_rfl

/-- How many axes the form's own reach lets come in. -/
theorem axis_bound {H : Type} {enc : TypeId × Value → H} {w : World} {base : Nat} {spare : Nat → Bool} {held : Bool} {fuel : Nat} {cs : List Value} {x : DataW H × List MemPlace} {a : Option Addr} {len cap : Nat}
    (h : DataW.trod enc Tryd.prog w base spare held fuel 23 cs = some x) (hcs : cs = [.slice a len cap]) {ts : List TypeId} {ds : List (DataW H)} (hz : (DataW.weightsEach Tryd.prog ts ds).all (· ≤ reachBytes) = true) {j : Nat} (ht : ts[j]? = some 23) (hd : ds[j]? = some x.1) : len ≤ 8796093022208 := by
  rcases open_slice Tryd.underlying23 h with ⟨e, _⟩ | ⟨ad, l, c, m, n, D, Pl, e, _, hl, hm, hmm, hx, _⟩
  · rw [hcs] at e
    simp at e
    omega
  · rw [hcs] at e
    simp at e
    obtain ⟨rfl, rfl, rfl⟩ := e
    rw [hx] at hd
    have := sized_slice hz ht hd Tryd.underlying23
    rw [bytes_axis, List.length_map, List.length_range] at this
    have := reachBytes_lt
    omega

theorem Half.alloc {k : IntKind} {e : TypeId} {w : World} {base g n i : Nat} {f f0 : Nat → Int} (h : Half k e w base g n f f0 i) (o : Obj) : Half k e (w.alloc o) base g n f f0 i := Owns.alloc h o

/-- It returns a list of integers, in memory of its own. -/
def RetI (w : World) (xs : List Int) (e : Ending) (w' : World) : Prop := ∃ v, e = .returned v ∧ Owns .i64 3 w' w.heap.size v xs ∧ Below w.heap.size w w'

theorem dims_take (xa : List Ax) (k : Nat) (h : k < xa.length) : (dims xa).take (k + 1) = (dims xa).take k ++ [(xa.getD k noAx).n] := by
  rw [List.take_succ_eq_append_getElem (by rw [dims_len]; exact h)]
  simp [dims, h]

set_option maxHeartbeats 1000000 in
theorem dims_any (x : Option Addr) (n cap : Nat) (xa : List Ax) (w : World) (hx : ReadsA w w.heap.size x xa) (hn : xa.length = n) (hl : n ≤ 8796093022208) :
    Calls Tryd.prog 50 #[.slice x n cap] w (RetI w (dims xa)) := by
  subst hn
  have HX := Lib.hid hx; clear hx
  have hE : (List.range xa.length).map (fun j => (xa.getD j noAx).n) = dims xa := by
    have := list_range (dims xa)
    rw [dims_len] at this
    refine Eq.trans (List.map_congr_left fun j _ => ?_) this
    rw [dims_get]
  have HE := Lib.hid hE; clear hE
  obtain ⟨i0, hi, hy0, hy1, hy2⟩ := info_parts info_int
  have HY2 := Lib.hid hy2; clear hy2
  go_enter Tryd.func50, Tryd.ntmps50
  go_wp2_with (at_make; refine wpList_make_full _ rfl _ _ 65 rfl w.heap.size 3 i0 (.int .i64 0) 1 Tryd.underlying65 hi hy0 hy1 .i64 .i64 _ _ xa.length rfl rfl rfl rfl (by rw [HY2.out]; omega) (by unfold maxLen; omega) (Nat.le_refl _) ?_; intro w1 hown hgrow)
  have hst := Half.start (f := fun j => (xa.getD j noAx).n) hown
  have hbl := (Below.refl w.heap.size w).grown hgrow (Nat.le_refl _) (fun k e => by cases e)
  clear hown hgrow hi hy0 hy1
  go_loopw [11] (fun i wr => ∃ j : Nat, j ≤ xa.length ∧ i = .int .i64 (j : Int) ∧ Half .i64 3 wr w.heap.size w.heap.size xa.length (fun j => (xa.getD j noAx).n) (fun _ => 0) j ∧ Below w.heap.size w wr) (fun i _ => xa.length - (intOf i).toNat)
  case atStart => exact ⟨0, Nat.zero_le _, rfl, hst, hbl⟩
  case round =>
    obtain ⟨j, hj, rfl, hH, hB⟩ := hrel
    clear hst hbl
    by_cases hlt : j < xa.length
    · obtain ⟨b, off, rfl, hb, hc⟩ := (HX.out.below hB) (by omega)
      obtain ⟨c0, c1⟩ := hc j hlt
      obtain ⟨u, hu⟩ : ∃ u, u = xa.getD j noAx := ⟨_, rfl⟩
      rw [← hu] at c0 c1
      have hs := hH.step.alloc (.cells #[.int .i64 u.n, .bool u.neg] 53)
      have hsB := below_al (hB.setCell (p := ⟨w.heap.size, j, none⟩) (Nat.le_refl _) (.int .i64 (xa.getD j noAx).n)) (.cells #[.int .i64 u.n, .bool u.neg] 53)
      have HS := Lib.hid (And.intro hs hsB)
      rw [← hu] at HS
      have hcn := hH.cellNext hlt
      have hf := hH.frozen j
      have hg := hH.lt.2
      clear hc hu hH hB HX HE hs hsB
      go_wp2
      go_roundw
      case rel => exact ⟨j + 1, by omega, by congr 1, HS.out.1, HS.out.2⟩
      case measure => simp [intOf]; omega
    · obtain rfl : j = xa.length := by omega
      have hR : RetI w (dims xa) (.returned (.slice (some ⟨w.heap.size, 0, none⟩) xa.length xa.length)) wr := ⟨_, rfl, by rw [← HE.out]; exact hH.all, hB⟩
      clear hH hB HX HE
      go_wp2
      go_ret
      exact hR

set_option maxHeartbeats 1000000 in
theorem rdims_any (x : Option Addr) (n cap : Nat) (xa : List Ax) (w : World) (hx : ReadsA w w.heap.size x xa) (hn : xa.length = n) (hl : n ≤ 8796093022208) :
    Calls Tryd.prog 32 #[.slice x n cap] w (RetI w (dims xa)) := by
  subst hn
  have HX := Lib.hid hx; clear hx
  have HT := Lib.hid (dims_take xa)
  have HL := Lib.hid (dims_len xa)
  obtain ⟨i0, hti, hy0, hy1, hy2⟩ := info_parts info_int
  go_enter Tryd.func32, Tryd.ntmps32
  go_wp2
  go_loopw [3, 8] (fun v j wr => ∃ (k : Nat) (o : Value), k ≤ xa.length ∧ j = .int .i64 (k : Int) ∧ o = v ∧ Owns .i64 3 wr w.heap.size o ((dims xa).take k) ∧ Below w.heap.size w wr) (fun _ j _ => xa.length - (intOf j).toNat)
  case atStart => exact ⟨0, _, Nat.zero_le _, rfl, rfl, Owns.nil, Below.refl _ _⟩
  case round =>
    obtain ⟨k, o, hk, rfl, rfl, hO, hB⟩ := hrel
    by_cases hlt : k < xa.length
    · obtain ⟨b, off, rfl, hb, hc⟩ := (HX.out.below hB) (by omega)
      obtain ⟨c0, c1⟩ := hc k hlt
      have hT := HT.out k hlt
      obtain ⟨u, hu⟩ : ∃ u, u = xa.getD k noAx := ⟨_, rfl⟩
      rw [← hu] at c0 c1 hT
      have HT' := Lib.hid hT
      have hw2 := Lib.hid (hB.alloc hB.size (.cells #[.int .i64 u.n, .bool u.neg] 53))
      have HO := Lib.hid (hO.alloc (.cells #[.int .i64 u.n, .bool u.neg] 53))
      have hn4 : Hid (((dims xa).take k).length = k) := Lib.hid (by rw [List.length_take, HL.out]; omega)
      have HSr : Hid (Src .i64 ((wr.alloc (.cells #[.int .i64 u.n, .bool u.neg] 53)).alloc (.cells #[.int .i64 u.n] 3)) (some ⟨wr.heap.size + 1, 0, none⟩) 1 1 [u.n]) := Lib.hid (by
        have := src_one (wr.alloc (.cells #[.int .i64 u.n, .bool u.neg] 53)) .i64 3 u.n
        rwa [World.size_alloc] at this)
      clear hc hu hO hT HX HT
      go_wp2_with (at_builtin; refine wpList_append_list rfl _ _ 65 rfl w.heap.size 3 i0 .i64 8 Tryd.underlying65 hti hy0 hy1 hy2 _ _ rfl (HO.out.alloc _) _ 1 1 [u.n] rfl HSr.out (by have := hn4.out; unfold maxLen; omega) (by have := hn4.out; omega) (by have := hw2.out.size; simp at this; simp; omega) ?_; intro v' w3 hO2 hg2)
      go_roundw
      case rel =>
        refine ⟨k + 1, _, by omega, by congr 1, rfl, ?_, ?_⟩
        · rw [HT'.out]; exact hO2
        · exact (below_al hw2.out _).grown hg2 (by have := hw2.out.size; simp at this; simp; omega) (fun g e => HO.out.ownBlock g e)
      case measure => simp [intOf]; omega
    · have HO : Hid (Owns .i64 3 wr w.heap.size o (dims xa)) := Lib.hid (by rw [List.take_of_length_le (by have := HL.out; omega)] at hO; exact hO)
      have HB := Lib.hid hB
      clear hO hB HX HT
      go_wp2
      go_ret
      exact ⟨_, rfl, HO.out, HB.out⟩

end Go.Proofs.YtlbfllaaabginaaDoor

/-!   What grid.Check and checkWords come to, over every input, and the document's (brackenref07.Check, words, Few).
-/

namespace Go.Proofs.YtlbfllaaabginaaDoor
open Go.RowKit

theorem orderOf7_any (n : Nat) (neg : Bool) (w : World) (hn : n ≤ 4096) :
    Calls Tryd.prog 63 #[.agg #[.int .i64 (n : Int), .bool neg]] w (RetB (.int .i64 ((Fp.od neg n : Nat) : Int)) w) := by
  cases neg
  · go_enter Tryd.func63, Tryd.ntmps63
    go_wp2
    go_ret
    exact ⟨rfl, below_al (Below.refl _ _) _⟩
  · have hz : (2 : Int) * (n : Int) = ((Fp.od true n : Nat) : Int) := by simp [Fp.od]
    have hb : Fp.od true n ≤ 8192 := by simp [Fp.od]; omega
    generalize Fp.od true n = u at hz hb ⊢
    go_enter Tryd.func63, Tryd.ntmps63
    go_wp2
    go_ret
    exact ⟨rfl, below_al (Below.refl _ _) _⟩

/-- An axis whose size may be. -/
theorem ax_of {u : Ax} (h : Fac.sm u.n = true) : ∃ L : Nat, u.n = (L : Int) ∧ 1 ≤ L ∧ L ≤ 4096 := by
  obtain ⟨h1, h2, _⟩ := Fac.sm_of h
  exact ⟨u.n.toNat, by omega, by omega, by omega⟩

set_option maxHeartbeats 2000000 in
set_option maxRecDepth 100000 in
theorem check7_any (p : Int) (x : Option Addr) (n cap : Nat) (xa : List Ax) (w : World) (hG : Gl w) (hx : ReadsA w w.heap.size x xa) (hn : xa.length = n) (hl : n ≤ 8796093022208) :
    Calls Tryd.prog 28 #[.int .u64 p, .slice x n cap] w (RetB (.int .i64 (gridE p xa)) w) := by
  have HD := Lib.hid (dims_any x n cap xa w hx hn hl)
  cases hk : Fp.kn p
  · rw [gridE_prime hk]
    have H := Lib.hid hk
    clear hk hG hx hn HD
    go_enter Tryd.func28, Tryd.ntmps28
    go_wp2_with (go_at_call 60; refine (known_no _ _ H.out).mono ?_; rintro e w' ⟨rfl, rfl⟩)
    go_ret
    exact ⟨rfl, Below.refl _ _⟩
  · rcases dims_or xa with ⟨ho, hd⟩ | hno
    · have H := Lib.hid hk
      have HX := Lib.hid hx
      have HG := Lib.hid hG
      have HO := Lib.hid ho
      have HDM := Lib.hid hd
      have HDL := Lib.hid (dims_len xa)
      subst hn
      clear hk hx hG ho hd
      go_enter Tryd.func28, Tryd.ntmps28
      go_wp2_with (first
        | (go_at_call 60; refine (known_yes _ _ H.out).mono ?_; rintro e w' ⟨rfl, rfl⟩)
        | (go_at_call 50; refine HD.out.mono ?_; rintro e w1 ⟨v, rfl, hO, b1⟩; obtain ⟨y, c, rfl, -, -, hr, -⟩ := hO.form; have R1 := Lib.hid hr; have B1 := Lib.hid b1; clear hO hr b1)
        | (go_at_call 51; refine (all_ok (szs xa) HO.out y _ c w1 w1.heap.size (by rw [← HDM.out]; exact R1.out) (by rw [HDL.out, szs_len])).mono ?_; rintro e w' ⟨rfl, rfl⟩))
      clear R1 HD
      go_loopw [27] (fun i wr => ∃ k : Nat, k ≤ xa.length ∧ i = .int .i64 (k : Int) ∧ Hid (∀ j, j < k → axS xa j = true) ∧ Below w.heap.size w wr) (fun i _ => xa.length - (intOf i).toNat)
      case atStart => exact ⟨0, Nat.zero_le _, rfl, Lib.hid (fun j hj => by omega), B1.out⟩
      case round =>
        obtain ⟨k, hk, rfl, HA, hB⟩ := hrel
        by_cases hlt : k < xa.length
        · obtain ⟨b, off, rfl, hb, hc⟩ := (HX.out.below hB) (by omega)
          obtain ⟨c0, c1⟩ := hc k hlt
          obtain ⟨u, hu⟩ : ∃ u, u = xa.getD k noAx := ⟨_, rfl⟩
          rw [← hu] at c0 c1
          have HS := Lib.hid (fun W => smooth_any u.n W)
          have HB := Lib.hid (below_al hB (.cells #[.int .i64 u.n, .bool u.neg] 53))
          cases hs : axS xa k
          · have HE := Lib.hid (gridE_size (p := p) H.out HO.out HDM.out hlt hs)
            have e : Fac.sm u.n = false := by rw [hu]; exact hs
            rw [e] at HS
            clear hc hu hB hs e HX HG HO HDM HDL HA B1 H
            go_wp2_with (go_at_call 61; refine (HS.out _).mono ?_; rintro e w2 ⟨rfl, b2⟩)
            go_ret
            exact ⟨by rw [HE.out]; rfl, below_then HB.out b2⟩
          · have e : Fac.sm u.n = true := by rw [hu]; exact hs
            rw [e] at HS
            have HA' : Hid (∀ j, j < k + 1 → axS xa j = true) := Lib.hid (fun j hj => by
              by_cases e : j = k
              · rw [e]; exact hs
              · exact HA.out j (by omega))
            clear hc hu hB hs e HX HG HO HDM HDL HA B1 H
            go_wp2_with (go_at_call 61; refine (HS.out _).mono ?_; rintro e w2 ⟨rfl, b2⟩)
            go_roundw
            case rel => exact ⟨k + 1, by omega, by go_num, HA', below_then HB.out b2⟩
            case measure => simp [intOf]; omega
        · obtain rfl : k = xa.length := by omega
          have hB' := Lib.hid hB
          clear hB B1
          go_wp2
          go_loopw [38] (fun i wq => ∃ k : Nat, k ≤ xa.length ∧ i = .int .i64 (k : Int) ∧ Hid (∀ j, j < k → axR p xa j) ∧ Below w.heap.size w wq) (fun i _ => xa.length - (intOf i).toNat)
          case atStart => exact ⟨0, Nat.zero_le _, rfl, Lib.hid (fun j hj => by omega), hB'.out⟩
          case round =>
            clear hB'
            obtain ⟨k, hk, rfl, HR, hB⟩ := hrel
            by_cases hlt : k < xa.length
            · obtain ⟨b, off, rfl, hb, hc⟩ := (HX.out.below hB) (by omega)
              obtain ⟨c0, c1⟩ := hc k hlt
              obtain ⟨u, hu⟩ : ∃ u, u = xa.getD k noAx := ⟨_, rfl⟩
              rw [← hu] at c0 c1
              obtain ⟨L, hL, l1, l2⟩ := ax_of (u := u) (by rw [hu]; exact HA.out k hlt)
              rw [hL] at c0
              obtain ⟨neg, hneg⟩ : ∃ neg, neg = u.neg := ⟨_, rfl⟩
              rw [← hneg] at c1
              have HB := Lib.hid (below_al hB (.cells #[.int .i64 (L : Int), .bool neg] 53))
              have HOr := Lib.hid (fun W => orderOf7_any L neg W l2)
              have HRt := Lib.hid (fun W (hG' : Gl W) => root_any p ((Fp.od neg L : Nat) : Int) W hG' (by have := Fp.od_bd neg l1 l2; omega))
              have hiff : axR p xa k ↔ (p - 1) % ((Fp.od neg L : Nat) : Int) = 0 := by
                unfold axR
                rw [← hu, hL, Int.toNat_natCast, hneg]
              by_cases hr : (p - 1) % ((Fp.od neg L : Nat) : Int) = 0
              · rw [rootE_yes H.out l1 l2 hr] at HRt
                have HR' : Hid (∀ j, j < k + 1 → axR p xa j) := Lib.hid (fun j hj => by
                  by_cases e : j = k
                  · rw [e]; exact hiff.2 hr
                  · exact HR.out j (by omega))
                generalize rootN p ((Fp.od neg L : Nat) : Int) = rn at HRt
                generalize Fp.od neg L = o at HOr HRt hr hiff
                clear hc hu hB hL hneg hr hiff HX HO HDM HDL HA HR H
                go_wp2_with (first
                  | (go_at_call 63; refine (HOr.out _).mono ?_; rintro e w2 ⟨rfl, b2⟩; have B2 := Lib.hid (below_then HB.out b2); clear b2)
                  | (go_at_call 62; refine (HRt.out _ (HG.out.then B2.out)).mono ?_; rintro e w3 ⟨rfl, b3⟩; have B3 := Lib.hid (below_then B2.out b3); clear b3))
                go_roundw
                case rel => exact ⟨k + 1, by omega, by go_num, HR', B3.out⟩
                case measure => simp [intOf]; omega
              · rw [rootE_no H.out l1 l2 hr] at HRt
                have HE := Lib.hid (gridE_order (p := p) H.out HO.out HDM.out HA.out hlt (fun e => hr (hiff.1 e)))
                generalize rootN p ((Fp.od neg L : Nat) : Int) = rn at HRt
                generalize Fp.od neg L = o at HOr HRt hr hiff
                clear hc hu hB hL hneg hr hiff HX HO HDM HDL HA HR H
                go_wp2_with (first
                  | (go_at_call 63; refine (HOr.out _).mono ?_; rintro e w2 ⟨rfl, b2⟩; have B2 := Lib.hid (below_then HB.out b2); clear b2)
                  | (go_at_call 62; refine (HRt.out _ (HG.out.then B2.out)).mono ?_; rintro e w3 ⟨rfl, b3⟩; have B3 := Lib.hid (below_then B2.out b3); clear b3))
                go_ret
                exact ⟨by rw [HE.out]; rfl, B3.out⟩
            · obtain rfl : k = xa.length := by omega
              have HE := Lib.hid (Axes.zero (p := p) (xa := xa) ⟨H.out, HO.out, HDM.out, HA.out, HR.out⟩)
              have HB := Lib.hid hB
              clear hB HX HO HDM HDL HA HR H HG
              go_wp2
              go_ret
              exact ⟨by rw [HE.out]; rfl, HB.out⟩
    · rw [gridE_dims hk hno]
      have H := Lib.hid hk
      have HN := Lib.hid hno
      have HDL := Lib.hid (dims_len xa)
      clear hk hG hx hn hno
      go_enter Tryd.func28, Tryd.ntmps28
      go_wp2_with (first
        | (go_at_call 60; refine (known_yes _ _ H.out).mono ?_; rintro e w' ⟨rfl, rfl⟩)
        | (go_at_call 50; refine HD.out.mono ?_; rintro e w1 ⟨v, rfl, hO, b1⟩; obtain ⟨y, c, rfl, -, -, hr, -⟩ := hO.form; have R1 := Lib.hid hr; have B1 := Lib.hid b1; clear hO hr b1)
        | (go_at_call 51; refine (all_no (dims xa) HN.out y _ c w1 w1.heap.size R1.out rfl).mono ?_; rintro e w' ⟨rfl, rfl⟩))
      go_ret
      exact ⟨rfl, B1.out⟩

end Go.Proofs.YtlbfllaaabginaaDoor

/-!   What the document's own Check of axes comes to (brackenref07), over every input.
-/

namespace Go.Proofs.YtlbfllaaabginaaDoor
open Go.RowKit

set_option maxHeartbeats 2000000 in
set_option maxRecDepth 100000 in
theorem rcheck7_any (p : Int) (x : Option Addr) (n cap : Nat) (xa : List Ax) (w : World) (hx : ReadsA w w.heap.size x xa) (hn : xa.length = n) (hl : n ≤ 8796093022208) :
    Calls Tryd.prog 33 #[.int .u64 p, .slice x n cap] w (RetB (.int .i64 (gridE p xa)) w) := by
  have HD := Lib.hid (rdims_any x n cap xa w hx hn hl)
  cases hk : Fp.kn p
  · rw [gridE_prime hk]
    have H := Lib.hid hk
    clear hk hx hn HD
    go_enter Tryd.func33, Tryd.ntmps33
    go_wp2_with (go_at_call 65; refine (rknown_no _ _ H.out).mono ?_; rintro e w' ⟨rfl, rfl⟩)
    go_ret
    exact ⟨rfl, Below.refl _ _⟩
  · rcases dims_or xa with ⟨ho, hd⟩ | hno
    · have H := Lib.hid hk
      have HX := Lib.hid hx
      have HO := Lib.hid ho
      have HDM := Lib.hid hd
      have HDL := Lib.hid (dims_len xa)
      subst hn
      clear hk hx ho hd
      go_enter Tryd.func33, Tryd.ntmps33
      go_wp2_with (first
        | (go_at_call 65; refine (rknown_yes _ _ H.out).mono ?_; rintro e w' ⟨rfl, rfl⟩)
        | (go_at_call 32; refine HD.out.mono ?_; rintro e w1 ⟨v, rfl, hO, b1⟩; obtain ⟨y, c, rfl, -, -, hr, -⟩ := hO.form; have R1 := Lib.hid hr; have B1 := Lib.hid b1; clear hO hr b1)
        | (go_at_call 31; refine (rall_ok (szs xa) HO.out y _ c w1 w1.heap.size (by rw [← HDM.out]; exact R1.out) (by rw [HDL.out, szs_len])).mono ?_; rintro e w' ⟨rfl, rfl⟩))
      clear R1 HD
      go_loopw [27] (fun i wr => ∃ k : Nat, k ≤ xa.length ∧ i = .int .i64 (k : Int) ∧ Hid (∀ j, j < k → axS xa j = true) ∧ Below w.heap.size w wr) (fun i _ => xa.length - (intOf i).toNat)
      case atStart => exact ⟨0, Nat.zero_le _, rfl, Lib.hid (fun j hj => by omega), B1.out⟩
      case round =>
        obtain ⟨k, hk, rfl, HA, hB⟩ := hrel
        by_cases hlt : k < xa.length
        · obtain ⟨b, off, rfl, hb, hc⟩ := (HX.out.below hB) (by omega)
          obtain ⟨c0, c1⟩ := hc k hlt
          obtain ⟨u, hu⟩ : ∃ u, u = xa.getD k noAx := ⟨_, rfl⟩
          rw [← hu] at c0 c1
          have HS := Lib.hid (fun W => rsmooth_any u.n W)
          have HB := Lib.hid (below_al hB (.cells #[.int .i64 u.n, .bool u.neg] 53))
          cases hs : axS xa k
          · have HE := Lib.hid (gridE_size (p := p) H.out HO.out HDM.out hlt hs)
            have e : Fac.sm u.n = false := by rw [hu]; exact hs
            rw [e] at HS
            clear hc hu hB hs e HX HO HDM HDL HA B1 H
            go_wp2_with (go_at_call 66; refine (HS.out _).mono ?_; rintro e w2 ⟨rfl, b2⟩)
            go_ret
            exact ⟨by rw [HE.out]; rfl, below_then HB.out b2⟩
          · have e : Fac.sm u.n = true := by rw [hu]; exact hs
            rw [e] at HS
            have HA' : Hid (∀ j, j < k + 1 → axS xa j = true) := Lib.hid (fun j hj => by
              by_cases e : j = k
              · rw [e]; exact hs
              · exact HA.out j (by omega))
            clear hc hu hB hs e HX HO HDM HDL HA B1 H
            go_wp2_with (go_at_call 66; refine (HS.out _).mono ?_; rintro e w2 ⟨rfl, b2⟩)
            go_roundw
            case rel => exact ⟨k + 1, by omega, by go_num, HA', below_then HB.out b2⟩
            case measure => simp [intOf]; omega
        · obtain rfl : k = xa.length := by omega
          have hB' := Lib.hid hB
          clear hB B1
          go_wp2
          go_loopw [38] (fun i wq => ∃ k : Nat, k ≤ xa.length ∧ i = .int .i64 (k : Int) ∧ Hid (∀ j, j < k → axR p xa j) ∧ Below w.heap.size w wq) (fun i _ => xa.length - (intOf i).toNat)
          case atStart => exact ⟨0, Nat.zero_le _, rfl, Lib.hid (fun j hj => by omega), hB'.out⟩
          case round =>
            clear hB'
            obtain ⟨k, hk, rfl, HR, hB⟩ := hrel
            by_cases hlt : k < xa.length
            · obtain ⟨b, off, rfl, hb, hc⟩ := (HX.out.below hB) (by omega)
              obtain ⟨c0, c1⟩ := hc k hlt
              obtain ⟨u, hu⟩ : ∃ u, u = xa.getD k noAx := ⟨_, rfl⟩
              rw [← hu] at c0 c1
              obtain ⟨L, hL, l1, l2⟩ := ax_of (u := u) (by rw [hu]; exact HA.out k hlt)
              rw [hL] at c0
              obtain ⟨neg, hneg⟩ : ∃ neg, neg = u.neg := ⟨_, rfl⟩
              rw [← hneg] at c1
              have HB := Lib.hid (below_al hB (.cells #[.int .i64 (L : Int), .bool neg] 53))
              have HRt := Lib.hid (fun W => (rroot_any p ((Fp.od neg L : Nat) : Int) W (by have := Fp.od_bd neg l1 l2; omega)).mono fun _ _ h => h.below)
              have od1 : neg = false → Fp.od neg L = L := fun e => by rw [e]; simp [Fp.od]
              have od2 : neg = true → (2 : Int) * (L : Int) = ((Fp.od neg L : Nat) : Int) := fun e => by rw [e]; simp [Fp.od]
              have od3 := (Fp.od_bd neg l1 l2).2
              have hiff : axR p xa k ↔ (p - 1) % ((Fp.od neg L : Nat) : Int) = 0 := by
                unfold axR
                rw [← hu, hL, Int.toNat_natCast, hneg]
              by_cases hr : (p - 1) % ((Fp.od neg L : Nat) : Int) = 0
              · rw [rootE_yes H.out l1 l2 hr] at HRt
                have HR' : Hid (∀ j, j < k + 1 → axR p xa j) := Lib.hid (fun j hj => by
                  by_cases e : j = k
                  · rw [e]; exact hiff.2 hr
                  · exact HR.out j (by omega))
                generalize rootN p ((Fp.od neg L : Nat) : Int) = rn at HRt
                generalize Fp.od neg L = o at HRt hr hiff od1 od2 od3
                clear hc hu hB hL hneg hr hiff HX HO HDM HDL HA HR H
                cases neg
                · obtain rfl := od1 rfl
                  clear od1 od2
                  go_wp2_with (go_at_call 67; refine (HRt.out _).mono ?_; rintro e w3 ⟨rfl, b3⟩; have B3 := Lib.hid (below_then HB.out b3); clear b3)
                  go_roundw
                  case rel => exact ⟨k + 1, by omega, by go_num, HR', B3.out⟩
                  case measure => simp [intOf]; omega
                · have od2 := od2 rfl
                  clear od1
                  go_wp2_with (go_at_call 67; refine (HRt.out _).mono ?_; rintro e w3 ⟨rfl, b3⟩; have B3 := Lib.hid (below_then HB.out b3); clear b3)
                  go_roundw
                  case rel => exact ⟨k + 1, by omega, by go_num, HR', B3.out⟩
                  case measure => simp [intOf]; omega
              · rw [rootE_no H.out l1 l2 hr] at HRt
                have HE := Lib.hid (gridE_order (p := p) H.out HO.out HDM.out HA.out hlt (fun e => hr (hiff.1 e)))
                generalize rootN p ((Fp.od neg L : Nat) : Int) = rn at HRt
                generalize Fp.od neg L = o at HRt hr hiff od1 od2 od3
                clear hc hu hB hL hneg hr hiff HX HO HDM HDL HA HR H
                cases neg
                · obtain rfl := od1 rfl
                  clear od1 od2
                  go_wp2_with (go_at_call 67; refine (HRt.out _).mono ?_; rintro e w3 ⟨rfl, b3⟩; have B3 := Lib.hid (below_then HB.out b3); clear b3)
                  go_ret
                  exact ⟨by rw [HE.out]; rfl, B3.out⟩
                · have od2 := od2 rfl
                  clear od1
                  go_wp2_with (go_at_call 67; refine (HRt.out _).mono ?_; rintro e w3 ⟨rfl, b3⟩; have B3 := Lib.hid (below_then HB.out b3); clear b3)
                  go_ret
                  exact ⟨by rw [HE.out]; rfl, B3.out⟩
            · obtain rfl : k = xa.length := by omega
              have HE := Lib.hid (Axes.zero (p := p) (xa := xa) ⟨H.out, HO.out, HDM.out, HA.out, HR.out⟩)
              have HB := Lib.hid hB
              clear hB HX HO HDM HDL HA HR H
              go_wp2
              go_ret
              exact ⟨by rw [HE.out]; rfl, HB.out⟩
    · rw [gridE_dims hk hno]
      have H := Lib.hid hk
      have HN := Lib.hid hno
      have HDL := Lib.hid (dims_len xa)
      clear hk hx hn hno
      go_enter Tryd.func33, Tryd.ntmps33
      go_wp2_with (first
        | (go_at_call 65; refine (rknown_yes _ _ H.out).mono ?_; rintro e w' ⟨rfl, rfl⟩)
        | (go_at_call 32; refine HD.out.mono ?_; rintro e w1 ⟨v, rfl, hO, b1⟩; obtain ⟨y, c, rfl, -, -, hr, -⟩ := hO.form; have R1 := Lib.hid hr; have B1 := Lib.hid b1; clear hO hr b1)
        | (go_at_call 31; refine (rall_no (dims xa) HN.out y _ c w1 w1.heap.size R1.out rfl).mono ?_; rintro e w' ⟨rfl, rfl⟩))
      go_ret
      exact ⟨rfl, B1.out⟩

end Go.Proofs.YtlbfllaaabginaaDoor

/-!   What grid.checkWords comes to, and the document's words and Few (brackenref07), over every input.
-/

namespace Go.Proofs.YtlbfllaaabginaaDoor
open Go.RowKit

theorem bne_of_ne {a b : Int} (h : a ≠ b) : (a != b) = true := by rw [bne_iff_ne]; exact h
theorem bne_self' (a : Int) : (a != a) = false := by simp

set_option maxHeartbeats 1000000 in
theorem checkWords_any (p : Int) (x : Option Addr) (n cap : Nat) (xa : List Ax) (y : Option Addr) (m cap' : Nat) (xs : List Int) (w : World) (hG : Gl w) (hx : ReadsA w w.heap.size x xa) (hn : xa.length = n) (hl : n ≤ 8796093022208) (hy : Reads .u64 w w.heap.size y xs) (hm : xs.length = m) (hml : m ≤ maxLen) :
    Calls Tryd.prog 48 #[.int .u64 p, .slice x n cap, .slice y m cap'] w (RetB (.int .i64 (wordsE p xa xs)) w) := by
  have HC := Lib.hid (check7_any p x n cap xa w hG hx hn hl)
  have HD := Lib.hid (fun W (hB : Below w.heap.size w W) => dims_any x n cap xa W ((hx.below hB).more hB.size) hn hl)
  by_cases hE : gridE p xa = 0
  · have hA := gridE_zero hE
    have hml' : (m : Int) ≤ 9223372036854775807 := by unfold maxLen at hml; omega
    have HO := Lib.hid hA.ok
    have HDM := Lib.hid hA.is
    have HDL := Lib.hid (dims_len xa)
    by_cases hp : xs.length = Sh.prod (szs xa)
    · have h1 := hA.ok.here
      have h2 := hA.ok.le
      obtain ⟨b, off, rfl, hb, hc⟩ := hy (by omega)
      have HI : Hid (∀ W, Below w.heap.size w W → Calls Tryd.prog 45 #[.int .u64 p, .slice (some ⟨b, off, none⟩) m cap'] W fun e w' => e = .returned (.bool (Fp.isIn p (fun j => xs.getD j 0) xs.length)) ∧ W = w') := Lib.hid (fun W hW => by
        rw [hm]
        exact in_row p b off m cap' _ W hml' (fun j hj => (hW.cell (p := ⟨b, off + j, none⟩) hb).trans (hc j (by omega))))
      have hne : ((m : Int) != ((Sh.prod (szs xa) : Nat) : Int)) = false := by rw [← hp, hm]; exact bne_self' _
      cases hi : Fp.isIn p (fun j => xs.getD j 0) xs.length
      · rw [wordsE_word hE hp hi]
        rw [hi] at HI
        rw [hE] at HC
        clear hE hA hp hi hc hx hy hm hn h1 h2 hG
        go_enter Tryd.func48, Tryd.ntmps48
        go_wp2_with (first
        | (go_at_call 28; refine HC.out.mono ?_; rintro e w0 ⟨rfl, b0⟩; have B0 := Lib.hid b0; clear b0)
        | (go_at_call 50; refine (HD.out _ B0.out).mono ?_; rintro e w1 ⟨v, rfl, hO, b1⟩; obtain ⟨y1, c, rfl, -, -, hr, -⟩ := hO.form; have R1 := Lib.hid hr; have B1 := Lib.hid (below_then B0.out b1); clear hO hr b1)
        | (go_at_call 51; refine (all_ok (szs xa) HO.out y1 _ c w1 w1.heap.size (by rw [← HDM.out]; exact R1.out) (by rw [HDL.out, szs_len])).mono ?_; rintro e w' ⟨rfl, rfl⟩)
        | (go_at_call 45; refine (HI.out _ B1.out).mono ?_; rintro e w' ⟨rfl, rfl⟩))
        go_ret
        exact ⟨rfl, B1.out⟩
      · rw [wordsE_ok hE hp hi]
        rw [hi] at HI
        rw [hE] at HC
        clear hE hA hp hi hc hx hy hm hn h1 h2 hG
        go_enter Tryd.func48, Tryd.ntmps48
        go_wp2_with (first
        | (go_at_call 28; refine HC.out.mono ?_; rintro e w0 ⟨rfl, b0⟩; have B0 := Lib.hid b0; clear b0)
        | (go_at_call 50; refine (HD.out _ B0.out).mono ?_; rintro e w1 ⟨v, rfl, hO, b1⟩; obtain ⟨y1, c, rfl, -, -, hr, -⟩ := hO.form; have R1 := Lib.hid hr; have B1 := Lib.hid (below_then B0.out b1); clear hO hr b1)
        | (go_at_call 51; refine (all_ok (szs xa) HO.out y1 _ c w1 w1.heap.size (by rw [← HDM.out]; exact R1.out) (by rw [HDL.out, szs_len])).mono ?_; rintro e w' ⟨rfl, rfl⟩)
        | (go_at_call 45; refine (HI.out _ B1.out).mono ?_; rintro e w' ⟨rfl, rfl⟩))
        go_ret
        exact ⟨rfl, B1.out⟩
    · rw [wordsE_len hE hp]
      have hne : (m : Int) ≠ ((Sh.prod (szs xa) : Nat) : Int) := by omega
      have hne : ((m : Int) != ((Sh.prod (szs xa) : Nat) : Int)) = true := bne_of_ne hne
      rw [hE] at HC
      clear hE hA hp hx hy hm hn hG
      go_enter Tryd.func48, Tryd.ntmps48
      go_wp2_with (first
        | (go_at_call 28; refine HC.out.mono ?_; rintro e w0 ⟨rfl, b0⟩; have B0 := Lib.hid b0; clear b0)
        | (go_at_call 50; refine (HD.out _ B0.out).mono ?_; rintro e w1 ⟨v, rfl, hO, b1⟩; obtain ⟨y1, c, rfl, -, -, hr, -⟩ := hO.form; have R1 := Lib.hid hr; have B1 := Lib.hid (below_then B0.out b1); clear hO hr b1)
        | (go_at_call 51; refine (all_ok (szs xa) HO.out y1 _ c w1 w1.heap.size (by rw [← HDM.out]; exact R1.out) (by rw [HDL.out, szs_len])).mono ?_; rintro e w' ⟨rfl, rfl⟩))
      go_ret
      exact ⟨rfl, B1.out⟩
  · rw [wordsE_grid hE]
    have t := ne_of_bne hE
    generalize gridE p xa = er at HC t
    clear hE hx hy hm hn HD hG
    go_enter Tryd.func48, Tryd.ntmps48
    go_wp2_with (go_at_call 28; refine HC.out.mono ?_; rintro e w0 ⟨rfl, b0⟩; have B0 := Lib.hid b0; clear b0)
    go_ret
    exact ⟨rfl, B0.out⟩

/-- Whether axes are few enough to be played: one bool, whatever the world. -/
theorem few_any (x : Option Addr) (n cap : Nat) (xa : List Ax) (most : Int) (w : World) (hx : ReadsA w w.heap.size x xa) (hn : xa.length = n) (hl : n ≤ 8796093022208) :
    ∃ b : Bool, Hid (∀ W, Below w.heap.size w W → Calls Tryd.prog 12 #[.slice x n cap, .int .i64 most] W (RetB (.bool b) W)) := by
  have HD := Lib.hid (fun W (hB : Below w.heap.size w W) => rdims_any x n cap xa W ((hx.below hB).more hB.size) hn hl)
  have HDL := Lib.hid (dims_len xa)
  by_cases h10 : n ≤ 10
  · have d1 : decide ((n : Int) ≤ 10) = true := by simp; omega
    rcases dims_or xa with ⟨ho, hd⟩ | hno
    · have HO := Lib.hid ho
      have HDM := Lib.hid hd
      obtain ⟨d, hd2⟩ : ∃ d, decide (((Sh.prod (szs xa) : Nat) : Int) ≤ most) = d := ⟨_, rfl⟩
      refine ⟨d, Lib.hid fun W hW => ?_⟩
      have HW := Lib.hid hW
      clear ho hd hx hn hW
      cases d
      all_goals
        go_enter Tryd.func12, Tryd.ntmps12
        go_wp2_with (first
          | (go_at_call 32; refine (HD.out _ HW.out).mono ?_; rintro e w1 ⟨v, rfl, hO, b1⟩; obtain ⟨y1, c, rfl, -, -, hr, -⟩ := hO.form; have R1 := Lib.hid hr; have B1 := Lib.hid b1; clear hO hr b1)
          | (go_at_call 31; refine (rall_ok (szs xa) HO.out y1 _ c w1 w1.heap.size (by rw [← HDM.out]; exact R1.out) (by rw [HDL.out, szs_len])).mono ?_; rintro e w' ⟨rfl, rfl⟩))
        go_ret
        exact ⟨rfl, B1.out⟩
    · have HN := Lib.hid hno
      refine ⟨true, Lib.hid fun W hW => ?_⟩
      have HW := Lib.hid hW
      clear hx hn hW hno
      go_enter Tryd.func12, Tryd.ntmps12
      go_wp2_with (first
        | (go_at_call 32; refine (HD.out _ HW.out).mono ?_; rintro e w1 ⟨v, rfl, hO, b1⟩; obtain ⟨y1, c, rfl, -, -, hr, -⟩ := hO.form; have R1 := Lib.hid hr; have B1 := Lib.hid b1; clear hO hr b1)
        | (go_at_call 31; refine (rall_no (dims xa) HN.out y1 _ c w1 w1.heap.size R1.out rfl).mono ?_; rintro e w' ⟨rfl, rfl⟩))
      go_ret
      exact ⟨rfl, B1.out⟩
  · have d1 : decide ((n : Int) ≤ 10) = false := by simp; omega
    have hno : Sh.No (dims xa) := fun ns ok e => by
      have := ok.four
      have h2 := congrArg List.length e
      rw [dims_len, Sh.ints_len] at h2
      omega
    have HN := Lib.hid hno
    refine ⟨false, Lib.hid fun W hW => ?_⟩
    have HW := Lib.hid hW
    clear hx hn hW hno
    go_enter Tryd.func12, Tryd.ntmps12
    go_wp2_with (first
      | (go_at_call 32; refine (HD.out _ HW.out).mono ?_; rintro e w1 ⟨v, rfl, hO, b1⟩; obtain ⟨y1, c, rfl, -, -, hr, -⟩ := hO.form; have R1 := Lib.hid hr; have B1 := Lib.hid b1; clear hO hr b1)
      | (go_at_call 31; refine (rall_no (dims xa) HN.out y1 _ c w1 w1.heap.size R1.out rfl).mono ?_; rintro e w' ⟨rfl, rfl⟩))
    go_ret
    exact ⟨rfl, B1.out⟩

end Go.Proofs.YtlbfllaaabginaaDoor

/-!   What grid.transformed and through come to: the words of which each line of one axis is transformed.
-/

namespace Go.Proofs.YtlbfllaaabginaaDoor
open Go.RowKit Go.Shelf

/-- It returns a list of words, in memory of its own. -/
def RetU (w : World) (xs : List Int) (e : Ending) (w' : World) : Prop := ∃ v, e = .returned v ∧ Owns .u64 22 w' w.heap.size v xs ∧ Below w.heap.size w w'

theorem transformed_any (p : Int) (x : Option Addr) (n cap : Nat) (xs : List Int) (neg inv : Bool) (w : World) (hG : Gl w) (hx : Reads .u64 w w.heap.size x xs) (hn : xs.length = n) (hw : Words xs) (hl : n ≤ maxLen) :
    Calls Tryd.prog 75 #[.int .u64 p, .slice x n cap, .bool neg, .bool inv] w (RetU w (tr p neg inv xs)) := by
  cases inv
  · have e : tr p neg false xs = fwd p xs neg := by simp [tr]
    rw [e]
    have HF := Lib.hid (forward_any p x n cap xs neg w hG hx hn hw hl)
    clear e hG hx hw hl hn
    go_enter Tryd.func75, Tryd.ntmps75
    go_wp2_with (go_at_call 96; refine HF.out.mono ?_; rintro e w1 ⟨v, rfl, hO, b1⟩)
    go_ret
    exact ⟨_, rfl, hO, b1⟩
  · have e : tr p neg true xs = bwd p xs neg := by simp [tr]
    rw [e]
    have HF := Lib.hid (inverse_any p x n cap xs neg w hG hx hn hw hl)
    clear e hG hx hw hl hn
    go_enter Tryd.func75, Tryd.ntmps75
    go_wp2_with (go_at_call 95; refine HF.out.mono ?_; rintro e w1 ⟨v, rfl, hO, b1⟩)
    go_ret
    exact ⟨_, rfl, hO, b1⟩

/-- What has been written when k lines are done, and of the next one j words. -/
def yf (I L k j : Nat) (f : Nat → Int) (i : Nat) : Int := if Sh.lnum I L i < k ∨ (Sh.lnum I L i = k ∧ i / I % L < j) then f i else 0
section
variable {I L k j : Nat} {f : Nat → Int}
theorem yf_zero (i : Nat) : yf I L 0 0 f i = 0 := by unfold yf; rw [if_neg (by omega)]
theorem yf_turn (hL : 1 ≤ L) (i : Nat) : yf I L k L f i = yf I L (k + 1) 0 f i := by
  have := Nat.mod_lt (i / I) hL
  unfold yf
  by_cases h : Sh.lnum I L i < k + 1
  · rw [if_pos (by omega), if_pos (by omega)]
  · rw [if_neg (by omega), if_neg (by omega)]
theorem yf_here (hI : 1 ≤ I) (hj : j < L) : yf I L k (j + 1) f (Sh.first I L k + j * I) = f (Sh.first I L k + j * I) := by
  unfold yf
  rw [Sh.at_line hI hj, Sh.at_coord hI hj, if_pos (by omega)]
theorem yf_else (hI : 1 ≤ I) {i : Nat} (hne : i ≠ Sh.first I L k + j * I) : yf I L k (j + 1) f i = yf I L k j f i := by
  unfold yf
  by_cases h : Sh.lnum I L i = k ∧ i / I % L = j
  · have := Sh.back (L := L) hI i
    rw [h.1, h.2] at this
    exact absurd this.symm hne
  · by_cases h1 : Sh.lnum I L i < k ∨ (Sh.lnum I L i = k ∧ i / I % L < j)
    · rw [if_pos h1, if_pos (by omega)]
    · rw [if_neg h1, if_neg (by omega)]
end

section
variable {k : IntKind} {e : TypeId} {wr : World} {base g n : Nat} {f : Nat → Int}
theorem Owns.else {cap : Nat} {xs : List Int} (h : Owns k e wr base (.slice (some ⟨g, 0, none⟩) n cap) xs) (hn : xs.length = n) {ad : Addr} (hne : g ≠ ad.block) (v : Value) : Owns k e (wr.setCell ad v) base (.slice (some ⟨g, 0, none⟩) n cap) xs := by
  subst hn
  exact owned_set h v hne
theorem RowAt.else (h : RowAt k e wr base g n f) {ad : Addr} (hne : g ≠ ad.block) (v : Value) : RowAt k e (wr.setCell ad v) base g n f := Owns.else h (by simp) hne v
theorem RowAt.below {w' : World} (h : RowAt k e wr base g n f) (hb : Below wr.heap.size wr w') : RowAt k e w' base g n f := Owns.below h hb
theorem RowAt.reads (h : RowAt k e wr base g n f) : Reads k wr wr.heap.size (some ⟨g, 0, none⟩) ((List.range n).map f) := Owns.reads h
theorem Half.row {f0 : Nat → Int} (h : Half k e wr base g n f f0 n) : RowAt k e wr base g n f := h.all
end
theorem RetU.open {xs : List Int} {n : Nat} {w w' : World} {e : Ending} (h : RetU w xs e w') (hn : xs.length = n) (h0 : 0 < n) :
    ∃ g cap, e = .returned (.slice (some ⟨g, 0, none⟩) n cap) ∧ w.heap.size ≤ g ∧ g < w'.heap.size ∧ n ≤ cap ∧ cap ≤ maxLen ∧ Owns .u64 22 w' w.heap.size (.slice (some ⟨g, 0, none⟩) n cap) xs ∧ Below w.heap.size w w' := by
  subst hn
  obtain ⟨v, rfl, hO, hB⟩ := h
  obtain ⟨x, cap, rfl, h1, h2, h3, h4⟩ := hO.form
  obtain ⟨g, rfl, h5, h6⟩ := h4 h0
  exact ⟨g, cap, rfl, h5, h6, h1, h2, hO, hB⟩
theorem lineOf_get (xa : List Ax) (a k : Nat) {j : Nat} (hj : j < gL xa a) : (lineOf (szs xa) a k).getD j 0 = ((Sh.first (gI xa a) (gL xa a) k + j * gI xa a : Nat) : Int) := getD_range _ hj

/-- The box of an axis. -/
theorem box_cells {w1 W : World} {L : Int} {neg : Bool} {t : TypeId} (h : Below (w1.heap.size + 1) (w1.alloc (.cells #[.int .i64 L, .bool neg] t)) W) : W.cell? ⟨w1.heap.size, 0, none⟩ = some (.int .i64 L) ∧ W.cell? ⟨w1.heap.size, 1, none⟩ = some (.bool neg) :=
  ⟨(h.cell (p := ⟨w1.heap.size, 0, none⟩) (Nat.lt_succ_self _)).trans (by simp), (h.cell (p := ⟨w1.heap.size, 1, none⟩) (Nat.lt_succ_self _)).trans (by simp)⟩

set_option maxRecDepth 100000 in
set_option maxHeartbeats 4000000 in
theorem through_any (p : Int) (x : Option Addr) (n cap : Nat) (xa : List Ax) (a : Nat) (inv : Bool) (y : Option Addr) (m cap' : Nat) (xs : List Int) (w : World) (hG : Gl w) (hx : ReadsA w w.heap.size x xa) (hn : xa.length = n) (ha : a < n) (hy : Reads .u64 w w.heap.size y xs) (hm : xs.length = m) (hw : Words xs) (h : Grid p xa xs) :
    Calls Tryd.prog 49 #[.int .u64 p, .slice x n cap, .int .i64 (a : Int), .bool inv, .slice y m cap'] w (RetU w (thr p xa a inv xs)) := by
  subst hn
  have h4 : xa.length ≤ 4 := by have := h.ax.ok.four; rwa [szs_len] at this
  have HD := Lib.hid (dims_any x xa.length cap xa w hx rfl (by omega))
  have l1 := h.ax.L ha
  have l2 := h.ax.L_le ha
  have i1 := h.ax.I a
  obtain ⟨m1, m2⟩ := h.le
  have hP : m = Sh.prod (szs xa) := by rw [← h.len, hm]
  have hlen := h.len
  have HE : Hid ((List.range m).map (thrN p xa a inv xs) = thr p xa a inv xs) := Lib.hid (by unfold thr; rw [hm])
  have HAt := Lib.hid (fun (k j : Nat) (hk : k < Sh.prod (szs xa) / gL xa a) (hj : j < gL xa a) => h.ax.at_lt ha hk hj)
  have HLK := Lib.hid (fun (i : Nat) (hi : i < Sh.prod (szs xa)) => h.ax.line_lt ha hi)
  have HW := Lib.hid (fun (k : Nat) => words_lnOf hw xa a k)
  have HLi := Lib.hid (fun (k : Nat) (hk : k < Sh.prod (szs xa) / gL xa a) (y' : Option Addr) (c : Nat) (hc : xa.length ≤ c) (W : World) (B : Nat) (hr : Reads .i64 W B y' (dims xa)) =>
    line_ok (szs xa) h.ax.ok a k (by rw [szs_len]; exact ha) hk y' xa.length c W B (by rw [← h.ax.is]; exact hr) (szs_len xa) hc)
  have HGt := Lib.hid (fun (k j : Nat) (hj : j < gL xa a) => lineOf_get xa a k hj)
  have HLl : Hid (∀ k, (lineOf (szs xa) a k).length = gL xa a) := Lib.hid (fun (k : Nat) => lineOf_len (szs xa) a k)
  have hLint := h.ax.int ha
  have HTn : Hid (∀ k, k < Sh.prod (szs xa) / gL xa a → ∀ j, j < gL xa a → (tr p (gN xa a) inv (lnOf xa a xs k)).getD j 0 = thrN p xa a inv xs (Sh.first (gI xa a) (gL xa a) k + j * gI xa a)) := Lib.hid (fun k hk j hj => by
    rw [(h.line ha hk).tr inv, getD_range _ (by rw [lnOf_len]; exact hj)]
    unfold thrN
    rw [Sh.at_line i1 hj, Sh.at_coord i1 hj])
  have HTl : Hid (∀ k, k < Sh.prod (szs xa) / gL xa a → (tr p (gN xa a) inv (lnOf xa a xs k)).length = gL xa a) := Lib.hid (fun k hk => by rw [(h.line ha hk).trLen, lnOf_len])
  obtain ⟨b, off, rfl, hb, hc⟩ := hx (by omega)
  obtain ⟨c0, c1⟩ := hc a ha
  rw [hLint] at c0
  obtain ⟨b', off', rfl, hb', hcx⟩ := hy (by omega)
  have HCX := Lib.hid hcx
  have HG := Lib.hid hG
  rw [← hP] at HAt HLK HLi HTn HTl
  obtain ⟨neg, hneg⟩ : ∃ neg, neg = (xa.getD a noAx).neg := ⟨_, rfl⟩
  have hneg' : gN xa a = neg := by rw [hneg]; rfl
  rw [← hneg] at c1
  rw [hneg'] at HTn HTl
  obtain ⟨L, hL⟩ : ∃ L, L = gL xa a := ⟨_, rfl⟩
  obtain ⟨I, hI⟩ : ∃ I, I = gI xa a := ⟨_, rfl⟩
  have HLO : Hid (∀ k, lnOf xa a xs k = (List.range L).map fun j => xs.getD (Sh.first I L k + j * I) 0) := Lib.hid (fun k => by rw [hL, hI]; rfl)
  rw [← hL] at c0 l1 l2 HAt HLK HLi HGt HTn HTl HLl
  rw [← hI] at i1 HAt HLK HGt HTn
  obtain ⟨K, hK⟩ : ∃ K, K = m / L := ⟨_, rfl⟩
  rw [← hK] at HAt HLK HLi HTn HTl
  have q1 : (m : Int) / (L : Int) = (K : Int) := by rw [hK]; exact cast_div m L
  have q2 : (L : Int) ≠ 0 := by omega
  have q3 : K ≤ m := by rw [hK]; exact Nat.div_le_self _ _
  have m3 : 1 ≤ m ∧ m ≤ 4096 := by omega
  obtain ⟨i0, hi, hz0, hz1, hz2⟩ := info_parts info_u64
  have HZ2 := Lib.hid hz2
  generalize thr p xa a inv xs = res at HE ⊢
  generalize thrN p xa a inv xs = tn at HE HTn
  have HM := Lib.hid hm
  clear h hx hy hw hG hc hcx hlen hP hLint hneg hneg' hL hI hK hz2 hm m1 m2
  go_enter Tryd.func49, Tryd.ntmps49
  go_wp2_with (first
    | (go_at_call 50; refine HD.out.mono ?_; rintro e w1 ⟨v, rfl, hO, b1⟩; obtain ⟨yd, cd, rfl, hcd, -, hr, -⟩ := hO.form; rw [dims_len] at hcd; rw [dims_len]; have RD := Lib.hid hr; have B1 := Lib.hid b1; have cc0 := (b1.cell (p := ⟨b, off + a * 2, none⟩) hb).trans c0; have cc1 := (b1.cell (p := ⟨b, off + a * 2 + 1, none⟩) hb).trans c1; clear hO hr b1)
    | (at_make; refine wpList_make_full _ rfl _ _ 37 rfl (w1.heap.size + 1) 22 i0 (.int .u64 0) 1 Tryd.underlying37 hi hz0 hz1 .i64 .i64 _ _ m rfl rfl rfl rfl (by rw [HZ2.out]; omega) (by unfold maxLen; omega) (by simp) ?_; intro w2 hown2 hgrow2; rw [World.size_alloc] at hown2; have S2 := Lib.hid (hown2.lt _ rfl).2; have BA2 := Lib.hid ((Below.refl (w1.heap.size + 1) _).grown hgrow2 (by simp) (fun k e => by cases e)); have Y2 := Lib.hid (RowAt.start hown2); have bx2 := (box_cells BA2.out).1; clear hown2 hgrow2)
    | (at_make; refine wpList_make_full _ rfl _ _ 37 rfl (w1.heap.size + 1) 22 i0 (.int .u64 0) 1 Tryd.underlying37 hi hz0 hz1 .i64 .i64 _ _ L rfl rfl rfl rfl (by rw [HZ2.out]; omega) (by unfold maxLen; omega) (Nat.le_of_lt S2.out) ?_; intro w3 hown3 hgrow3; have S3 := Lib.hid (hown3.lt _ rfl).2; have BA3 := Lib.hid (BA2.out.grown hgrow3 (Nat.le_of_lt S2.out) (fun k e => by cases e)); have Y3 := Lib.hid (Y2.out.below ((Below.refl _ w2).grown hgrow3 (Nat.le_refl _) (fun k e => by cases e))); have L3 := Lib.hid (RowAt.start hown3); have bx3 := (box_cells BA3.out).1; clear hown3 hgrow3))
  have hne : w1.heap.size + 1 ≠ w2.heap.size := Nat.ne_of_lt S2.out
  have HWA := Lib.hid (below_al B1.out (.cells #[.int .i64 (L : Int), .bool neg] 53))
  have RDA : Hid (Reads .i64 (w1.alloc (.cells #[.int .i64 (L : Int), .bool neg] 53)) (w1.heap.size + 1) yd (dims xa)) := Lib.hid ((RD.out.below ((Below.refl _ w1).alloc (Nat.le_refl _) _)).more (Nat.le_succ _))
  have s1 : w.heap.size ≤ w1.heap.size + 1 := Nat.le_succ_of_le B1.out.size
  clear cc0 cc1 c0 c1 RD B1 HD Y2 BA2 bx2 hi hz0 hz1 HZ2
  go_loopw [39] (fun i wr => ∃ (k : Nat) (fl : Nat → Int), k ≤ K ∧ i = .int .i64 (k : Int) ∧ RowAt .u64 22 wr (w1.heap.size + 1) w2.heap.size L fl ∧ RowAt .u64 22 wr (w1.heap.size + 1) (w1.heap.size + 1) m (yf I L k 0 tn) ∧ Below (w1.heap.size + 1) (w1.alloc (.cells #[.int .i64 (L : Int), .bool neg] 53)) wr) (fun i _ => K - (intOf i).toNat)
  case atStart => exact ⟨0, fun _ => 0, Nat.zero_le _, rfl, L3.out, Y3.out.congr (fun i _ => (yf_zero i).symm), BA3.out⟩
  case round =>
    clear Y3 L3 BA3 bx3 S3
    obtain ⟨k, fl, hk, rfl, hRL, hRY, hB⟩ := hrel
    by_cases hlt : k < K
    · have hdk : decide (k < K) = true := by simpa using hlt
      have hW := (HLi.out k hlt yd cd hcd wr (w1.heap.size + 1) (RDA.out.below hB))
      have HC := Lib.hid hW
      have HRL := Lib.hid hRL
      have HRY := Lib.hid hRY
      have HB := Lib.hid hB
      have hgl := hRL.lt
      have hgy := hRY.lt
      clear hW hRL hRY hB
      go_wp2_with (go_at_call 74; refine HC.out.mono ?_; intro e w4 hr; obtain ⟨g, cp, rfl, hg1, hg2, hcp, -, hOp, -, b4⟩ := hr.open (HLl.out k) (by omega); have OP := Lib.hid hOp; have B4 := Lib.hid b4; clear hr hOp b4)
      have RL4 := Lib.hid (HRL.out.below B4.out)
      have RY4 := Lib.hid (HRY.out.below B4.out)
      have BB4 := Lib.hid (HB.out.trans (B4.out.mono (Nat.le_of_lt hgy.2)))
      have HF0 := Lib.hid (RL4.out.half (fun j => xs.getD (Sh.first I L k + j * I) 0))
      have hgne : g ≠ w2.heap.size := by omega
      have hgne' : g ≠ w1.heap.size + 1 := by omega
      clear HRL HRY HB RL4 HC B4
      go_loopw [51] (fun i wi => ∃ j : Nat, j ≤ L ∧ i = .int .i64 (j : Int) ∧ Half .u64 22 wi (w1.heap.size + 1) w2.heap.size L (fun j => xs.getD (Sh.first I L k + j * I) 0) fl j ∧ RowAt .u64 22 wi (w1.heap.size + 1) (w1.heap.size + 1) m (yf I L k 0 tn) ∧ Owns .i64 3 wi wr.heap.size (.slice (some ⟨g, 0, none⟩) L cp) (lineOf (szs xa) a k) ∧ Below (w1.heap.size + 1) (w1.alloc (.cells #[.int .i64 (L : Int), .bool neg] 53)) wi) (fun i _ => L - (intOf i).toNat)
      case atStart => exact ⟨0, Nat.zero_le _, rfl, HF0.out, RY4.out, OP.out, BB4.out⟩
      case round =>
        clear HF0 RY4 OP BB4
        obtain ⟨j, hj, rfl, hH, hY, hO, hB⟩ := hrel
        by_cases hlj : j < L
        · have hdj : decide (j < L) = true := by simpa using hlj
          have e1 := hO.cell j (by rw [HLl.out]; exact hlj)
          rw [HGt.out k j hlj] at e1
          have e2 := HAt.out k j hlt hlj
          have e3 := hH.cellNext hlj
          have e4 := hH.frozen j
          have hs := hH.step
          obtain ⟨s, hs'⟩ : ∃ s, s = Sh.first I L k + j * I := ⟨_, rfl⟩
          rw [← hs'] at e1 e2 hs
          have e5 := ((HWA.out.trans (hB.mono s1)).cell (p := ⟨b', off' + s, none⟩) hb').trans (HCX.out s (by rw [HM.out]; exact e2))
          obtain ⟨u, hu⟩ : ∃ u, u = xs.getD s 0 := ⟨_, rfl⟩
          rw [← hu] at e5 hs
          have HS := Lib.hid (And.intro hs (And.intro (hY.else (ad := ⟨w2.heap.size, j, none⟩) hne (.int .u64 u)) (And.intro (hO.else (HLl.out k) (ad := ⟨w2.heap.size, j, none⟩) hgne (.int .u64 u)) (hB.setCell (p := ⟨w2.heap.size, j, none⟩) (Nat.le_of_lt S2.out) (.int .u64 u)))))
          have hgl2 := hH.lt.2
          clear hs hH hY hO hB hs' hu
          go_wp2
          go_roundw
          case rel => exact ⟨j + 1, by omega, by go_num, HS.out.1, HS.out.2.1, HS.out.2.2.1, HS.out.2.2.2⟩
          case measure => simp [intOf]; omega
        · obtain rfl : j = L := by omega
          have hRow := hH.row
          have hG5 := HG.out.then (HWA.out.trans (hB.mono s1))
          have HT := Lib.hid (transformed_any p (some ⟨w2.heap.size, 0, none⟩) j j (lnOf xa a xs k) neg inv wr hG5 (by rw [HLO.out]; exact hRow.reads) (by rw [HLO.out, List.length_map, List.length_range]) (HW.out k) (by unfold maxLen; omega))
          have bx := (box_cells hB).2
          have hgy5 := hY.lt
          have hgl5 := hRow.lt
          have hg5 := (World.ownsRow.lt hO g rfl).2
          have HY := Lib.hid hY
          have HR5 := Lib.hid hRow
          have HO5 := Lib.hid hO
          have HB5 := Lib.hid hB
          clear hH hRow hG5 hY hO hB
          go_wp2_with (go_at_call 75; refine HT.out.mono ?_; intro e w6 hr; obtain ⟨t6, ct, rfl, ht1, ht2, hct, -, hOt, b6⟩ := hr.open (HTl.out k hlt) (by omega); have OT := Lib.hid hOt; have B6 := Lib.hid b6; clear hr hOt b6)
          have RY6 := Lib.hid (HY.out.below B6.out)
          have RL6 := Lib.hid (HR5.out.below B6.out)
          have OP6 := Lib.hid (HO5.out.below B6.out)
          have BB6 := Lib.hid (HB5.out.trans (B6.out.mono (Nat.le_of_lt hgy5.2)))
          have htne : t6 ≠ w1.heap.size + 1 := by omega
          clear HY HR5 HO5 HB5 HT B6 bx
          go_loopw [71] (fun i wi => ∃ q : Nat, q ≤ j ∧ i = .int .i64 (q : Int) ∧ RowAt .u64 22 wi (w1.heap.size + 1) (w1.heap.size + 1) m (yf I j k q tn) ∧ RowAt .u64 22 wi (w1.heap.size + 1) w2.heap.size j (fun j' => xs.getD (Sh.first I j k + j' * I) 0) ∧ Owns .i64 3 wi (w1.heap.size + 1) (.slice (some ⟨g, 0, none⟩) j cp) (lineOf (szs xa) a k) ∧ Owns .u64 22 wi (w1.heap.size + 1) (.slice (some ⟨t6, 0, none⟩) j ct) (tr p neg inv (lnOf xa a xs k)) ∧ Below (w1.heap.size + 1) (w1.alloc (.cells #[.int .i64 (j : Int), .bool neg] 53)) wi) (fun i _ => j - (intOf i).toNat)
          case atStart => exact ⟨0, Nat.zero_le _, rfl, RY6.out, RL6.out, OP6.out.mono (by omega), OT.out.mono (by omega), BB6.out⟩
          case round =>
            clear RY6 RL6 OP6 OT BB6
            obtain ⟨q, hq, rfl, hY, hRow, hO, hT, hB⟩ := hrel
            by_cases hlq : q < j
            · have e1 := hO.cell q (by rw [HLl.out]; exact hlq)
              rw [HGt.out k q hlq] at e1
              have e2 := HAt.out k q hlt hlq
              have e3 := hT.cell q (by rw [HTl.out k hlt]; exact hlq)
              rw [HTn.out k hlt q hlq] at e3
              have hs := hY.set (Sh.first I j k + q * I) (f' := yf I j k (q + 1) tn) (fun t _ hne => yf_else i1 hne)
              rw [yf_here i1 hlq] at hs
              obtain ⟨s, hs'⟩ : ∃ s, s = Sh.first I j k + q * I := ⟨_, rfl⟩
              rw [← hs'] at e1 e2 e3 hs
              obtain ⟨u, hu⟩ : ∃ u, u = tn s := ⟨_, rfl⟩
              rw [← hu] at e3 hs
              have e4 := hY.cell s e2
              have e5 := hY.frozen s
              have hgy6 := hY.lt.2
              obtain ⟨o, ho⟩ : ∃ o, o = yf I j k q tn s := ⟨_, rfl⟩
              rw [← ho] at e4
              have HS := Lib.hid (And.intro hs (And.intro (hRow.else (ad := ⟨w1.heap.size + 1, s, none⟩) (Ne.symm hne) (.int .u64 u)) (And.intro (hO.else (HLl.out k) (ad := ⟨w1.heap.size + 1, s, none⟩) hgne' (.int .u64 u)) (And.intro (hT.else (HTl.out k hlt) (ad := ⟨w1.heap.size + 1, s, none⟩) htne (.int .u64 u)) (hB.setCell (p := ⟨w1.heap.size + 1, s, none⟩) (Nat.le_refl _) (.int .u64 u))))))
              clear hs hY hRow hO hT hB hs' hu ho
              go_wp2
              go_roundw
              case rel => exact ⟨q + 1, by omega, by go_num, HS.out.1, HS.out.2.1, HS.out.2.2.1, HS.out.2.2.2.1, HS.out.2.2.2.2⟩
              case measure => simp [intOf]; omega
            · obtain rfl : q = j := by omega
              have HS := Lib.hid (And.intro hRow (And.intro (hY.congr (fun t _ => yf_turn l1 t)) hB))
              clear hY hRow hO hT hB
              go_wp2
              go_roundw
              case rel => exact ⟨k + 1, _, by omega, by go_num, HS.out.1, HS.out.2.1, HS.out.2.2⟩
              case measure => simp [intOf]; omega
    · obtain rfl : k = K := by omega
      have hR : RetU w res (.returned (.slice (some ⟨w1.heap.size + 1, 0, none⟩) m m)) wr := ⟨_, rfl, by
        rw [← HE.out]
        refine Owns.mono (base := w1.heap.size + 1) (hRY.congr fun i hi => ?_) s1
        unfold yf
        rw [if_pos (.inl (HLK.out i hi))], HWA.out.trans (hB.mono s1)⟩
      clear hRL hRY hB
      go_wp2
      go_ret
      exact hR

end Go.Proofs.YtlbfllaaabginaaDoor

/-!   What grid.Axis and Do come to, over every input.
-/

namespace Go.Proofs.YtlbfllaaabginaaDoor
open Go.RowKit Go.Shelf

/-- What Axis tells: an error, and the words. -/
def axE (p : Int) (xa : List Ax) (a : Int) (xs : List Int) : Int := if wordsE p xa xs ≠ 0 then wordsE p xa xs else if a < 0 ∨ (xa.length : Int) ≤ a then 1 else 0
def axL (p : Int) (xa : List Ax) (a : Int) (inv : Bool) (xs : List Int) : List Int := if axE p xa a xs = 0 then thr p xa a.toNat inv xs else []
/-- What Do tells. -/
def doL (p : Int) (xa : List Ax) (inv : Bool) (xs : List Int) : List Int := if wordsE p xa xs = 0 then doTo p xa inv xs xa.length else []
section
variable {p : Int} {xa : List Ax} {a : Int} {xs : List Int}
theorem axE_words (h : wordsE p xa xs ≠ 0) : axE p xa a xs = wordsE p xa xs := by unfold axE; rw [if_pos h]
theorem axE_arg (h : wordsE p xa xs = 0) (ha : a < 0 ∨ (xa.length : Int) ≤ a) : axE p xa a xs = 1 := by unfold axE; rw [if_neg (by simp [h]), if_pos ha]
theorem axE_ok (h : wordsE p xa xs = 0) (ha : ¬ (a < 0 ∨ (xa.length : Int) ≤ a)) : axE p xa a xs = 0 := by unfold axE; rw [if_neg (by simp [h]), if_neg ha]
theorem axE_zero (h : axE p xa a xs = 0) : Grid p xa xs ∧ ∃ k : Nat, a = (k : Int) ∧ k < xa.length := by
  by_cases hw : wordsE p xa xs = 0
  · by_cases ha : a < 0 ∨ (xa.length : Int) ≤ a
    · rw [axE_arg hw ha] at h; omega
    · exact ⟨wordsE_zero hw, a.toNat, by omega, by omega⟩
  · rw [axE_words hw] at h; exact absurd h hw
theorem Grid.axE (h : Grid p xa xs) {k : Nat} (hk : k < xa.length) : axE p xa (k : Int) xs = 0 := axE_ok h.zero (by omega)
theorem Grid.axL (h : Grid p xa xs) {k : Nat} (hk : k < xa.length) (inv : Bool) : Go.Proofs.YtlbfllaaabginaaDoor.axL p xa (k : Int) inv xs = Go.Proofs.YtlbfllaaabginaaDoor.thr p xa k inv xs := by
  unfold Go.Proofs.YtlbfllaaabginaaDoor.axL; rw [if_pos (h.axE hk), Int.toNat_natCast]
theorem axL_no (h : Go.Proofs.YtlbfllaaabginaaDoor.axE p xa a xs ≠ 0) (inv : Bool) : Go.Proofs.YtlbfllaaabginaaDoor.axL p xa a inv xs = [] := by unfold Go.Proofs.YtlbfllaaabginaaDoor.axL; rw [if_neg h]
theorem Grid.doL (h : Grid p xa xs) (inv : Bool) : doL p xa inv xs = Go.Proofs.YtlbfllaaabginaaDoor.doTo p xa inv xs xa.length := by unfold Go.Proofs.YtlbfllaaabginaaDoor.doL; rw [if_pos h.zero]
theorem doL_no (h : wordsE p xa xs ≠ 0) (inv : Bool) : Go.Proofs.YtlbfllaaabginaaDoor.doL p xa inv xs = [] := by unfold Go.Proofs.YtlbfllaaabginaaDoor.doL; rw [if_neg h]
theorem axE_bd (p : Int) (xa : List Ax) (a : Int) (xs : List Int) : 0 ≤ Go.Proofs.YtlbfllaaabginaaDoor.axE p xa a xs ∧ Go.Proofs.YtlbfllaaabginaaDoor.axE p xa a xs ≤ 7 := by
  have := wordsE_bd p xa xs
  unfold Go.Proofs.YtlbfllaaabginaaDoor.axE
  split
  · omega
  · split <;> omega
end

set_option maxHeartbeats 1000000 in
theorem do_any (p : Int) (x : Option Addr) (n cap : Nat) (xa : List Ax) (inv : Bool) (y : Option Addr) (m cap' : Nat) (xs : List Int) (w : World) (hG : Gl w) (hx : ReadsA w w.heap.size x xa) (hn : xa.length = n) (hl : n ≤ 8796093022208) (hy : Reads .u64 w w.heap.size y xs) (hm : xs.length = m) (hw : Words xs) (hml : m ≤ maxLen) :
    Calls Tryd.prog 25 #[.int .u64 p, .slice x n cap, .bool inv, .slice y m cap'] w (LineRet w (doL p xa inv xs) (wordsE p xa xs)) := by
  have HC := Lib.hid (checkWords_any p x n cap xa y m cap' xs w hG hx hn hl hy hm hml)
  by_cases hE : wordsE p xa xs = 0
  · have hGr := wordsE_zero hE
    rw [hE] at HC ⊢
    rw [hGr.doL]
    have n1 : 1 ≤ n := by have := hGr.ax.ok.one; rw [szs_len] at this; omega
    have n4 : n ≤ 4 := by have := hGr.ax.ok.four; rw [szs_len] at this; omega
    have HT := Lib.hid (fun W (k : Nat) (hk : k < n) (y' : Option Addr) (c : Nat) (hB : Below w.heap.size w W) (hr : Reads .u64 W W.heap.size y' (doTo p xa inv xs k)) => through_any p x n cap xa k inv y' m c (doTo p xa inv xs k) W (hG.then hB) ((hx.below hB).more hB.size) hn hk hr (by rw [doTo_len]; exact hm) (hGr.doWords hw k) (hGr.doTo k))
    have HL := Lib.hid (fun k => (doTo_len p xa inv xs k).trans hm)
    have HS : Hid (∀ k, thr p xa k inv (doTo p xa inv xs k) = doTo p xa inv xs (k + 1)) := Lib.hid (fun k => rfl)
    have H0 : Hid (doTo p xa inv xs 0 = xs) := Lib.hid rfl
    have HX := Lib.hid (fun W (hB : Below w.heap.size w W) => (hy.below hB).more hB.size)
    rw [hn]
    generalize doTo p xa inv xs = dl at HT HL HS H0 ⊢
    clear hE hG hx hy hw hm hml hGr hn
    go_enter Tryd.func25, Tryd.ntmps25
    go_wp2_with (go_at_call 48; refine HC.out.mono ?_; rintro e w1 ⟨rfl, b1⟩; have B1 := Lib.hid b1; clear b1)
    clear HC
    go_loopw [11, 23] (fun v i wr => ∃ (k : Nat) (y' : Option Addr) (c : Nat), k ≤ n ∧ i = .int .i64 (k : Int) ∧ .slice y' m c = v ∧ Reads .u64 wr wr.heap.size y' (dl k) ∧ (k = 0 ∨ Owns .u64 22 wr w.heap.size (.slice y' m c) (dl k)) ∧ Below w.heap.size w wr) (fun _ i _ => n - (intOf i).toNat)
    case atStart => exact ⟨0, y, cap', Nat.zero_le _, rfl, rfl, by rw [H0.out]; exact HX.out _ B1.out, .inl rfl, B1.out⟩
    case round =>
      obtain ⟨k, y', c, hk, rfl, rfl, hr, ho, hB⟩ := hrel
      by_cases hlt : k < n
      · have HTk := Lib.hid (HT.out wr k hlt y' c hB hr)
        rw [HS.out] at HTk
        have HB := Lib.hid hB
        clear hr ho hB B1 HX H0
        go_wp2_with (go_at_call 49; refine HTk.out.mono ?_; rintro e w2 ⟨v, rfl, hO, b2⟩; obtain ⟨y2, c2, rfl, -, -, hr2, -⟩ := hO.form; rw [HL.out] at hO ⊢; have R2 := Lib.hid hr2; have O2 := Lib.hid hO; have B2 := Lib.hid b2; clear hO hr2 b2)
        go_roundw
        case rel => exact ⟨k + 1, y2, c2, by omega, by go_num, rfl, R2.out, .inr (O2.out.mono HB.out.size), below_then HB.out B2.out⟩
        case measure => simp [intOf]; omega
      · obtain rfl : k = n := by omega
        have hR : LineRet w (dl k) 0 (.returned (.tuple #[.slice y' m c, .int .i64 0])) wr := ⟨_, rfl, by
          rcases ho with h0 | ho
          · omega
          · exact ho, hB⟩
        clear hr ho hB B1 HX H0
        go_wp2
        go_ret2
        exact hR
  · rw [doL_no hE]
    have t := ne_of_bne hE
    generalize wordsE p xa xs = er at HC t ⊢
    clear hE hG hx hy hw hn hm hml
    go_enter Tryd.func25, Tryd.ntmps25
    go_wp2_with (go_at_call 48; refine HC.out.mono ?_; rintro e w1 ⟨rfl, b1⟩)
    go_ret2
    exact ⟨_, rfl, Owns.nil, b1⟩

end Go.Proofs.YtlbfllaaabginaaDoor
