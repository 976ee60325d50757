/-
  Mathematics of layer 7: what is wrong with axes and their words, the words transformed along one axis and along all of them; that they come back, that two axes may change places, that an axis of length 1 changes nothing. No function of the program is named here.
-/
import Derived.Test.YtjmgieepgdjomaaDoorShapes
import Derived.Test.YtjmgieepgdjomaaDoorLines6
namespace Go.Proofs.YtjmgieepgdjomaaDoor
open Go.RowKit

structure Ax where
  n : Int
  neg : Bool
def noAx : Ax := ⟨0, false⟩
instance : Inhabited Ax := ⟨noAx⟩
/-- How long axes are, as the program has it, and as plain numbers. -/
def dims (xa : List Ax) : List Int := xa.map Ax.n
def szs (xa : List Ax) : List Nat := xa.map fun a => a.n.toNat
theorem dims_len (xa : List Ax) : (dims xa).length = xa.length := by simp [dims]
theorem szs_len (xa : List Ax) : (szs xa).length = xa.length := by simp [szs]
theorem dims_get (xa : List Ax) (k : Nat) : (dims xa).getD k 0 = (xa.getD k noAx).n := by
  by_cases h : k < xa.length
  · simp [dims, h]
  · simp [dims, h, noAx]
theorem szs_get (xa : List Ax) (k : Nat) : (szs xa).getD k 0 = (xa.getD k noAx).n.toNat := by
  by_cases h : k < xa.length
  · simp [szs, h]
  · simp [szs, h, noAx]
theorem szs_of {xa : List Ax} {ns : List Nat} (h : dims xa = Sh.ints ns) : szs xa = ns := by
  have := congrArg (List.map Int.toNat) h
  simpa [dims, szs, Sh.ints, Function.comp_def] using this
theorem dims_or (xa : List Ax) : (Sh.Ok (szs xa) ∧ dims xa = Sh.ints (szs xa)) ∨ Sh.No (dims xa) := by
  rcases Sh.ok_or (dims xa) with ⟨ns, h1, h2⟩ | h
  · rw [szs_of h2]; exact .inl ⟨h1, h2⟩
  · exact .inr h

/-- An axis' size may be; it has its root. -/
def axS (xa : List Ax) (k : Nat) : Bool := Fac.sm (xa.getD k noAx).n
def axR (p : Int) (xa : List Ax) (k : Nat) : Prop := (p - 1) % ((Fp.od (xa.getD k noAx).neg (xa.getD k noAx).n.toNat : Nat) : Int) = 0
/-- There is nothing wrong with axes. -/
structure Axes (p : Int) (xa : List Ax) : Prop where
  kn : Fp.kn p = true
  ok : Sh.Ok (szs xa)
  is : dims xa = Sh.ints (szs xa)
  sm : ∀ k, k < xa.length → axS xa k = true
  dvd : ∀ k, k < xa.length → axR p xa k
/-- Whether axes may be, by trying. -/
def okB (xa : List Ax) : Bool := decide (1 ≤ (szs xa).length) && decide ((szs xa).length ≤ 4) && (szs xa).all (fun d => decide (1 ≤ d)) && decide (Sh.prod (szs xa) ≤ 4096) && decide (dims xa = Sh.ints (szs xa))
theorem okB_iff (xa : List Ax) : okB xa = true ↔ Sh.Ok (szs xa) ∧ dims xa = Sh.ints (szs xa) := by
  unfold okB
  simp only [Bool.and_eq_true, decide_eq_true_eq, List.all_eq_true]
  constructor
  · rintro ⟨⟨⟨⟨h1, h2⟩, h3⟩, h4⟩, h5⟩
    exact ⟨⟨h1, h2, h3, h4⟩, h5⟩
  · rintro ⟨⟨h1, h2, h3, h4⟩, h5⟩
    exact ⟨⟨⟨⟨h1, h2⟩, h3⟩, h4⟩, h5⟩
def sizesB (xa : List Ax) : Bool := (List.range xa.length).all (axS xa)
def rootsB (p : Int) (xa : List Ax) : Bool := (List.range xa.length).all fun k => decide ((p - 1) % ((Fp.od (xa.getD k noAx).neg (xa.getD k noAx).n.toNat : Nat) : Int) = 0)
theorem sizesB_iff (xa : List Ax) : sizesB xa = true ↔ ∀ k, k < xa.length → axS xa k = true := by
  unfold sizesB; simp only [List.all_eq_true, List.mem_range]
theorem rootsB_iff (p : Int) (xa : List Ax) : rootsB p xa = true ↔ ∀ k, k < xa.length → axR p xa k := by
  unfold rootsB axR; simp only [List.all_eq_true, List.mem_range, decide_eq_true_eq]
/-- What is wrong with axes. -/
def gridE (p : Int) (xa : List Ax) : Int := if Fp.kn p = false then 2 else if okB xa = false then 3 else if sizesB xa = false then 4 else if rootsB p xa = false then 5 else 0
theorem b_false {b : Bool} {P : Prop} (h : b = true ↔ P) (hn : ¬ P) : b = false := by
  cases b
  · rfl
  · exact absurd (h.1 rfl) hn
theorem b_not {b : Bool} {P : Prop} (h : b = true ↔ P) (hp : P) : ¬ b = false := by rw [h.2 hp]; decide
section
variable {p : Int} {xa : List Ax}
theorem gridE_prime (h : Fp.kn p = false) : gridE p xa = 2 := by unfold gridE; rw [if_pos h]
theorem gridE_dims (h : Fp.kn p = true) (hn : Sh.No (dims xa)) : gridE p xa = 3 := by
  unfold gridE; rw [if_neg (by simp [h]), if_pos (b_false (okB_iff xa) fun ⟨h1, h2⟩ => hn _ h1 h2)]
theorem gridE_size (h : Fp.kn p = true) (ho : Sh.Ok (szs xa)) (hd : dims xa = Sh.ints (szs xa)) {k : Nat} (hk : k < xa.length) (hs : axS xa k = false) : gridE p xa = 4 := by
  unfold gridE
  rw [if_neg (by simp [h]), if_neg (b_not (okB_iff xa) ⟨ho, hd⟩), if_pos (b_false (sizesB_iff xa) fun e => by rw [e k hk] at hs; cases hs)]
theorem gridE_order (h : Fp.kn p = true) (ho : Sh.Ok (szs xa)) (hd : dims xa = Sh.ints (szs xa)) (hs : ∀ k, k < xa.length → axS xa k = true) {k : Nat} (hk : k < xa.length) (hr : ¬ axR p xa k) : gridE p xa = 5 := by
  unfold gridE
  rw [if_neg (by simp [h]), if_neg (b_not (okB_iff xa) ⟨ho, hd⟩), if_neg (b_not (sizesB_iff xa) hs), if_pos (b_false (rootsB_iff p xa) fun e => hr (e k hk))]
theorem Axes.zero (h : Axes p xa) : gridE p xa = 0 := by
  unfold gridE
  rw [if_neg (by simp [h.kn]), if_neg (b_not (okB_iff xa) ⟨h.ok, h.is⟩), if_neg (b_not (sizesB_iff xa) h.sm), if_neg (b_not (rootsB_iff p xa) h.dvd)]
theorem gridE_cases (p : Int) (xa : List Ax) : gridE p xa = 0 ∧ Axes p xa ∨ (gridE p xa = 2 ∨ gridE p xa = 3 ∨ gridE p xa = 4 ∨ gridE p xa = 5) := by
  cases h : Fp.kn p
  · exact .inr (.inl (gridE_prime h))
  · rcases dims_or xa with ⟨ho, hd⟩ | hn
    · by_cases hs : ∃ k, k < xa.length ∧ axS xa k = false
      · obtain ⟨k, hk, e⟩ := hs
        exact .inr (.inr (.inr (.inl (gridE_size h ho hd hk e))))
      · have hs' : ∀ k, k < xa.length → axS xa k = true := fun k hk => by
          cases e : axS xa k
          · exact absurd ⟨k, hk, e⟩ hs
          · rfl
        by_cases hr : ∃ k, k < xa.length ∧ ¬ axR p xa k
        · obtain ⟨k, hk, e⟩ := hr
          exact .inr (.inr (.inr (.inr (gridE_order h ho hd hs' hk e))))
        · have hA : Axes p xa := ⟨h, ho, hd, hs', fun k hk => Classical.byContradiction fun e => hr ⟨k, hk, e⟩⟩
          exact .inl ⟨hA.zero, hA⟩
    · exact .inr (.inr (.inl (gridE_dims h hn)))
theorem gridE_zero (h : gridE p xa = 0) : Axes p xa := by
  rcases gridE_cases p xa with ⟨_, h'⟩ | h'
  · exact h'
  · omega
theorem gridE_bd (p : Int) (xa : List Ax) : 0 ≤ gridE p xa ∧ gridE p xa ≤ 5 := by
  rcases gridE_cases p xa with ⟨h, _⟩ | h <;> omega
end

/-- What is wrong with axes and their words. -/
def wordsE (p : Int) (xa : List Ax) (xs : List Int) : Int :=
  if gridE p xa ≠ 0 then gridE p xa else if xs.length ≠ Sh.prod (szs xa) then 6 else if Fp.isIn p (fun j => xs.getD j 0) xs.length = false then 7 else 0
/-- There is nothing wrong with them. -/
structure Grid (p : Int) (xa : List Ax) (xs : List Int) : Prop where
  ax : Axes p xa
  len : xs.length = Sh.prod (szs xa)
  lt : ∀ j, j < xs.length → xs.getD j 0 < p
section
variable {p : Int} {xa : List Ax} {xs ys : List Int}
theorem wordsE_grid (h : gridE p xa ≠ 0) : wordsE p xa xs = gridE p xa := by unfold wordsE; rw [if_pos h]
theorem wordsE_len (h : gridE p xa = 0) (hl : xs.length ≠ Sh.prod (szs xa)) : wordsE p xa xs = 6 := by unfold wordsE; rw [if_neg (by simp [h]), if_pos hl]
theorem wordsE_word (h : gridE p xa = 0) (hl : xs.length = Sh.prod (szs xa)) (hi : Fp.isIn p (fun j => xs.getD j 0) xs.length = false) : wordsE p xa xs = 7 := by
  unfold wordsE; rw [if_neg (by simp [h]), if_neg (by simp [hl]), if_pos hi]
theorem wordsE_ok (h : gridE p xa = 0) (hl : xs.length = Sh.prod (szs xa)) (hi : Fp.isIn p (fun j => xs.getD j 0) xs.length = true) : wordsE p xa xs = 0 := by
  unfold wordsE; rw [if_neg (by simp [h]), if_neg (by simp [hl]), if_neg (by rw [hi]; decide)]
theorem Grid.zero (h : Grid p xa xs) : wordsE p xa xs = 0 := wordsE_ok h.ax.zero h.len ((Fp.isIn_iff h.ax.kn _).2 h.lt)
theorem wordsE_zero (h : wordsE p xa xs = 0) : Grid p xa xs := by
  by_cases h1 : gridE p xa = 0
  · have hA := gridE_zero h1
    by_cases h2 : xs.length = Sh.prod (szs xa)
    · cases h3 : Fp.isIn p (fun j => xs.getD j 0) xs.length
      · rw [wordsE_word h1 h2 h3] at h; omega
      · exact ⟨hA, h2, (Fp.isIn_iff hA.kn _).1 h3⟩
    · rw [wordsE_len h1 h2] at h; omega
  · rw [wordsE_grid h1] at h; exact absurd h h1
theorem wordsE_bd (p : Int) (xa : List Ax) (xs : List Int) : 0 ≤ wordsE p xa xs ∧ wordsE p xa xs ≤ 7 := by
  have := gridE_bd p xa
  unfold wordsE
  split
  · omega
  · split
    · omega
    · split <;> omega
/-- Other words of p, as many. -/
theorem Grid.other (h : Grid p xa xs) (hl : ys.length = xs.length) (hy : ∀ j, j < ys.length → ys.getD j 0 < p) : Grid p xa ys := ⟨h.ax, hl.trans h.len, hy⟩
theorem Grid.le (h : Grid p xa xs) : 1 ≤ xs.length ∧ xs.length ≤ 4096 := by rw [h.len]; exact ⟨h.ax.ok.here, h.ax.ok.le⟩
end

/-- A line transformed, there or back; by its places; and by what each word goes into another one. -/
def trN (p : Int) (neg inv : Bool) (xs : List Int) (c : Nat) : Int := if inv = true then bwdN p xs neg c else fwdN p xs neg c
def tr (p : Int) (neg inv : Bool) (xs : List Int) : List Int := if inv = true then bwd p xs neg else fwd p xs neg
def krn (p : Int) (neg inv : Bool) (n c j : Nat) : Int := if inv = true then Fp.inv p n * bkl p neg n ^ Fp.ex neg c j else rtl p neg n ^ Fp.ex neg j c
section
variable {p : Int} {xs : List Int} {neg : Bool}
theorem trN_bd (h : Fp.kn p = true) (inv : Bool) (c : Nat) : 0 ≤ trN p neg inv xs c ∧ trN p neg inv xs c < p := by
  unfold trN; cases inv
  · simpa using fwdN_bd h c
  · simpa using bwdN_bd h c
theorem Line.tr (h : Line p xs neg) (inv : Bool) : tr p neg inv xs = (List.range xs.length).map (trN p neg inv xs) := by
  unfold Go.Proofs.YtjmgieepgdjomaaDoor.tr; cases inv
  · have e : trN p neg false xs = fwdN p xs neg := by funext c; simp [trN]
    rw [e]; simpa using h.fwd
  · have e : trN p neg true xs = bwdN p xs neg := by funext c; simp [trN]
    rw [e]; simpa using h.bwd
theorem Line.trN_eqm (h : Line p xs neg) (inv : Bool) (c : Nat) : Fp.eqm p (trN p neg inv xs c) (Fp.sum (fun j => nth xs j * krn p neg inv xs.length c j) xs.length) := by
  cases inv
  · have e : trN p neg false xs c = fwdN p xs neg c := by simp [trN]
    rw [e]
    unfold fwdN
    refine (Fp.eqm_md p _).trans (Fp.eqm.of ?_)
    unfold Fp.fw
    exact Fp.sum_congr fun j _ => by simp [krn]
  · have e : trN p neg true xs c = bwdN p xs neg c := by simp [trN]
    rw [e]
    refine (bwdN_eqm h.kn c).trans (Fp.eqm.of ?_)
    unfold Fp.bw
    rw [← Fp.sum_mul]
    refine Fp.sum_congr fun j _ => ?_
    simp only [krn, if_true]
    rw [Int.mul_left_comm]
theorem Line.tr_back (h : Line p xs neg) (hw : Words xs) (inv : Bool) : Go.Proofs.YtjmgieepgdjomaaDoor.tr p neg (!inv) (Go.Proofs.YtjmgieepgdjomaaDoor.tr p neg inv xs) = xs := by
  unfold Go.Proofs.YtjmgieepgdjomaaDoor.tr; cases inv
  · simpa using h.back hw
  · simpa using h.forth hw
theorem Line.trLine (h : Line p xs neg) (inv : Bool) : Line p (Go.Proofs.YtjmgieepgdjomaaDoor.tr p neg inv xs) neg := by
  rw [h.tr inv]; exact h.map (trN_bd h.kn inv)
theorem Line.trLen (h : Line p xs neg) (inv : Bool) : (Go.Proofs.YtjmgieepgdjomaaDoor.tr p neg inv xs).length = xs.length := by rw [h.tr inv]; simp
/-- A line of one word stays. -/
theorem Line.tr_one (h : Line p xs neg) (hw : Words xs) (h1 : xs.length = 1) (inv : Bool) : Go.Proofs.YtjmgieepgdjomaaDoor.tr p neg inv xs = xs := by
  have hf : ∀ ys : List Int, Line p ys neg → Words ys → ys.length = 1 → Go.Proofs.YtjmgieepgdjomaaDoor.fwd p ys neg = ys := fun ys hy hwy hl => by
    rw [hy.fwd]
    refine list_eq_range rfl fun k hk => ?_
    obtain rfl : k = 0 := by omega
    have e : Fp.fw (rtl p neg ys.length) neg ys.length (nth ys) 0 = ys.getD 0 0 := by
      rw [hl]
      show 0 + nth ys 0 * rtl p neg 1 ^ Fp.ex neg 0 0 = _
      have : Fp.ex neg 0 0 = 0 := by unfold Fp.ex; split <;> simp
      rw [this, Int.pow_zero]; unfold nth; omega
    unfold fwdN
    rw [e, Int.emod_eq_of_lt (hwy 0).1 (hy.lt 0 (by omega))]
  cases inv
  · have : Go.Proofs.YtjmgieepgdjomaaDoor.tr p neg false xs = Go.Proofs.YtjmgieepgdjomaaDoor.fwd p xs neg := by simp [Go.Proofs.YtjmgieepgdjomaaDoor.tr]
    rw [this]; exact hf xs h hw h1
  · have : Go.Proofs.YtjmgieepgdjomaaDoor.tr p neg true xs = Go.Proofs.YtjmgieepgdjomaaDoor.bwd p xs neg := by simp [Go.Proofs.YtjmgieepgdjomaaDoor.tr]
    rw [this]
    exact (hf _ h.bwdLine h.bwdWords (by rw [h.bwdLen]; exact h1)).symm.trans (h.forth hw)
end

/-- How far two words of a line of axis a stand apart; how long it is; whether it is Neg. -/
def gI (xa : List Ax) (a : Nat) : Nat := Sh.prod ((szs xa).drop (a + 1))
def gL (xa : List Ax) (a : Nat) : Nat := (szs xa).getD a 0
def gN (xa : List Ax) (a : Nat) : Bool := (xa.getD a noAx).neg
/-- The words of the k-th line of axis a. -/
def lnOf (xa : List Ax) (a : Nat) (xs : List Int) (k : Nat) : List Int := (List.range (gL xa a)).map fun j => xs.getD (Sh.first (gI xa a) (gL xa a) k + j * gI xa a) 0
def thrN (p : Int) (xa : List Ax) (a : Nat) (inv : Bool) (xs : List Int) (i : Nat) : Int := trN p (gN xa a) inv (lnOf xa a xs (Sh.lnum (gI xa a) (gL xa a) i)) (i / gI xa a % gL xa a)
/-- The words xs, transformed along axis a; and along the first m axes. -/
def thr (p : Int) (xa : List Ax) (a : Nat) (inv : Bool) (xs : List Int) : List Int := (List.range xs.length).map (thrN p xa a inv xs)
def doTo (p : Int) (xa : List Ax) (inv : Bool) (xs : List Int) : Nat → List Int
  | 0 => xs
  | m + 1 => thr p xa m inv (doTo p xa inv xs m)
/-- The place i with the coordinate of axis a turned to j. -/
def pt (xa : List Ax) (a i j : Nat) : Nat := Sh.first (gI xa a) (gL xa a) (Sh.lnum (gI xa a) (gL xa a) i) + j * gI xa a

section
variable {p : Int} {xa : List Ax} {xs : List Int} {a b : Nat} {inv inv' : Bool}
theorem thr_len (p : Int) (xa : List Ax) (a : Nat) (inv : Bool) (xs : List Int) : (thr p xa a inv xs).length = xs.length := by simp [thr]
theorem lnOf_len (xa : List Ax) (a : Nat) (xs : List Int) (k : Nat) : (lnOf xa a xs k).length = gL xa a := by simp [lnOf]
theorem doTo_len (p : Int) (xa : List Ax) (inv : Bool) (xs : List Int) (m : Nat) : (doTo p xa inv xs m).length = xs.length := by
  induction m with
  | zero => rfl
  | succ m ih => rw [doTo, thr_len, ih]
theorem Axes.I (h : Axes p xa) (a : Nat) : 1 ≤ gI xa a := h.ok.pos_drop _
theorem Axes.L (h : Axes p xa) (ha : a < xa.length) : 1 ≤ gL xa a := h.ok.pos_at (by rw [szs_len]; exact ha)
theorem Axes.L_le (h : Axes p xa) (ha : a < xa.length) : gL xa a ≤ 4096 := h.ok.le_at (by rw [szs_len]; exact ha)
theorem Axes.prod (_h : Axes p xa) (ha : a < xa.length) : Sh.prod (szs xa) = Sh.prod ((szs xa).take a) * (gL xa a * gI xa a) := Sh.parts _ _ (by rw [szs_len]; exact ha)
theorem Axes.lines (h : Axes p xa) (ha : a < xa.length) : Sh.prod (szs xa) / gL xa a = Sh.prod ((szs xa).take a) * gI xa a := Sh.parts_div h.ok _ (by rw [szs_len]; exact ha)
theorem Axes.at_lt (h : Axes p xa) (ha : a < xa.length) {k j : Nat} (hk : k < Sh.prod (szs xa) / gL xa a) (hj : j < gL xa a) : Sh.first (gI xa a) (gL xa a) k + j * gI xa a < Sh.prod (szs xa) := by
  rw [h.lines ha] at hk
  rw [h.prod ha]
  exact Sh.at_lt hk hj
theorem Axes.line_lt (h : Axes p xa) (ha : a < xa.length) {i : Nat} (hi : i < Sh.prod (szs xa)) : Sh.lnum (gI xa a) (gL xa a) i < Sh.prod (szs xa) / gL xa a := by
  rw [h.prod ha] at hi
  rw [h.lines ha]
  exact Sh.line_lt hi
theorem Axes.int (h : Axes p xa) (_ha : a < xa.length) : (xa.getD a noAx).n = ((gL xa a : Nat) : Int) := by
  have := congrArg (fun l : List Int => l.getD a 0) h.is
  rw [dims_get, Sh.ints_get] at this
  exact this
theorem Axes.sm' (h : Axes p xa) (ha : a < xa.length) : Fac.sm ((gL xa a : Nat) : Int) = true := by
  have := h.sm a ha
  unfold axS at this
  rwa [h.int ha] at this
theorem Axes.dvd' (h : Axes p xa) (ha : a < xa.length) : (p - 1) % ((Fp.od (gN xa a) (gL xa a) : Nat) : Int) = 0 := by
  have := h.dvd a ha
  unfold axR at this
  rwa [h.int ha, Int.toNat_natCast] at this
theorem Axes.coord_lt (h : Axes p xa) (ha : a < xa.length) (i : Nat) : i / gI xa a % gL xa a < gL xa a := Nat.mod_lt _ (h.L ha)
theorem Grid.line (h : Grid p xa xs) (ha : a < xa.length) {k : Nat} (hk : k < Sh.prod (szs xa) / gL xa a) : Line p (lnOf xa a xs k) (gN xa a) := by
  refine ⟨h.ax.kn, by rw [lnOf_len]; exact h.ax.sm' ha, by rw [lnOf_len]; exact h.ax.dvd' ha, fun j hj => ?_⟩
  rw [lnOf_len] at hj
  unfold lnOf
  rw [getD_range _ hj]
  exact h.lt _ (by rw [h.len]; exact h.ax.at_lt ha hk hj)
theorem words_lnOf (hw : Words xs) (xa : List Ax) (a k : Nat) : Words (lnOf xa a xs k) := fun j => by
  by_cases hj : j < gL xa a
  · unfold lnOf; rw [getD_range _ hj]; exact hw _
  · simp [lnOf, hj]
theorem thrN_bd (h : Fp.kn p = true) (i : Nat) : 0 ≤ thrN p xa a inv xs i ∧ thrN p xa a inv xs i < p := trN_bd h inv _
theorem Grid.thr (h : Grid p xa xs) : Grid p xa (thr p xa a inv xs) := h.other (thr_len _ _ _ _ _) fun j hj => by
  rw [thr_len] at hj
  unfold Go.Proofs.YtjmgieepgdjomaaDoor.thr
  rw [getD_range _ hj]
  exact (thrN_bd h.ax.kn j).2
theorem Grid.thrWords (h : Grid p xa xs) : Words (Go.Proofs.YtjmgieepgdjomaaDoor.thr p xa a inv xs) := words_map h.ax.kn fun i => thrN_bd h.ax.kn i
theorem Grid.doTo (h : Grid p xa xs) (m : Nat) : Grid p xa (doTo p xa inv xs m) := by
  induction m with
  | zero => exact h
  | succ m ih => exact ih.thr
theorem Grid.doWords (h : Grid p xa xs) (hw : Words xs) (m : Nat) : Words (Go.Proofs.YtjmgieepgdjomaaDoor.doTo p xa inv xs m) := by
  cases m with
  | zero => exact hw
  | succ m => exact (h.doTo m).thrWords

/-- A line of what is transformed is that line, transformed. -/
theorem Grid.line_thr (h : Grid p xa xs) (ha : a < xa.length) {k : Nat} (hk : k < Sh.prod (szs xa) / gL xa a) : lnOf xa a (Go.Proofs.YtjmgieepgdjomaaDoor.thr p xa a inv xs) k = tr p (gN xa a) inv (lnOf xa a xs k) := by
  rw [(h.line ha hk).tr inv, lnOf_len]
  unfold lnOf
  refine List.map_congr_left fun j hj => ?_
  have hj := List.mem_range.1 hj
  have hlt := h.ax.at_lt ha hk hj
  unfold Go.Proofs.YtjmgieepgdjomaaDoor.thr
  rw [getD_range _ (by rw [h.len]; exact hlt)]
  unfold thrN
  rw [Sh.at_line (h.ax.I a) hj, Sh.at_coord (h.ax.I a) hj]
  rfl
/-- Back from axis a is what it was. -/
theorem Grid.thr_back (h : Grid p xa xs) (hw : Words xs) (ha : a < xa.length) : Go.Proofs.YtjmgieepgdjomaaDoor.thr p xa a (!inv) (Go.Proofs.YtjmgieepgdjomaaDoor.thr p xa a inv xs) = xs := by
  have e : Go.Proofs.YtjmgieepgdjomaaDoor.thr p xa a (!inv) (Go.Proofs.YtjmgieepgdjomaaDoor.thr p xa a inv xs) = (List.range xs.length).map (thrN p xa a (!inv) (Go.Proofs.YtjmgieepgdjomaaDoor.thr p xa a inv xs)) := by
    show (List.range (Go.Proofs.YtjmgieepgdjomaaDoor.thr p xa a inv xs).length).map _ = _
    rw [thr_len]
  rw [e]
  refine list_eq_range rfl fun i hi => ?_
  rw [h.len] at hi
  have hk := h.ax.line_lt ha hi
  have hc := h.ax.coord_lt ha i
  unfold thrN
  rw [h.line_thr ha hk]
  have hl := (h.line ha hk).trLine inv
  have h1 : (tr p (gN xa a) (!inv) (tr p (gN xa a) inv (lnOf xa a xs (Sh.lnum (gI xa a) (gL xa a) i)))).getD (i / gI xa a % gL xa a) 0 = trN p (gN xa a) (!inv) (tr p (gN xa a) inv (lnOf xa a xs (Sh.lnum (gI xa a) (gL xa a) i))) (i / gI xa a % gL xa a) := by
    rw [hl.tr, getD_range _ (by rw [(h.line ha hk).trLen, lnOf_len]; exact hc)]
  rw [← h1, (h.line ha hk).tr_back (words_lnOf hw _ _ _)]
  unfold lnOf
  rw [getD_range _ hc, Sh.back (h.ax.I a)]
/-- An axis of length 1 changes nothing. -/
theorem Grid.thr_one (h : Grid p xa xs) (hw : Words xs) (ha : a < xa.length) (h1 : gL xa a = 1) : Go.Proofs.YtjmgieepgdjomaaDoor.thr p xa a inv xs = xs := by
  unfold Go.Proofs.YtjmgieepgdjomaaDoor.thr
  refine list_eq_range rfl fun i hi => ?_
  rw [h.len] at hi
  have hk := h.ax.line_lt ha hi
  have hc := h.ax.coord_lt ha i
  have hl := h.line ha hk
  have e := hl.tr_one (words_lnOf hw _ _ _) (by rw [lnOf_len]; exact h1) inv
  have h2 : (lnOf xa a xs (Sh.lnum (gI xa a) (gL xa a) i)).getD (i / gI xa a % gL xa a) 0 = trN p (gN xa a) inv (lnOf xa a xs (Sh.lnum (gI xa a) (gL xa a) i)) (i / gI xa a % gL xa a) := by
    conv => lhs; rw [← e, hl.tr inv]
    rw [getD_range _ (by rw [lnOf_len]; exact hc)]
  unfold thrN
  rw [← h2]
  unfold lnOf
  rw [getD_range _ hc, Sh.back (h.ax.I a)]
/-- Of words that are one line it is the line's transform. -/
theorem Grid.thr_line (h : Grid p xa xs) (ha : a < xa.length) (hI : gI xa a = 1) (hL : gL xa a = xs.length) : Go.Proofs.YtjmgieepgdjomaaDoor.thr p xa a inv xs = tr p (gN xa a) inv xs := by
  have h0 : 0 < Sh.prod (szs xa) / gL xa a := by
    have := h.ax.line_lt ha (i := 0) (by have := h.ax.ok.here; omega)
    omega
  have e : lnOf xa a xs 0 = xs := by
    unfold lnOf
    rw [hI, hL]
    refine list_eq_range rfl fun j _ => ?_
    simp [Sh.first]
  have hl := h.line ha h0
  rw [e] at hl
  rw [hl.tr inv]
  unfold Go.Proofs.YtjmgieepgdjomaaDoor.thr
  refine List.map_congr_left fun i hi => ?_
  have hi := List.mem_range.1 hi
  unfold thrN
  have e1 : Sh.lnum (gI xa a) (gL xa a) i = 0 := by
    rw [hI, hL]; unfold Sh.lnum; rw [Nat.div_one, Nat.div_eq_of_lt hi, Nat.mod_one]
  rw [e1, e, hI, hL, Nat.div_one, Nat.mod_eq_of_lt hi]

/-! Two axes. -/
theorem Axes.pt_lt (h : Axes p xa) (ha : a < xa.length) {i j : Nat} (hi : i < Sh.prod (szs xa)) (hj : j < gL xa a) : pt xa a i j < Sh.prod (szs xa) := h.at_lt ha (h.line_lt ha hi) hj
theorem Axes.pt_fl (h : Axes p xa) (ha : a < xa.length) {i j : Nat} (hi : i < Sh.prod (szs xa)) (hj : j < gL xa a) : pt xa a i j = Sh.fl (szs xa) ((Sh.crd (szs xa) i).set a j) := by
  have ha' : a < (szs xa).length := by rw [szs_len]; exact ha
  obtain ⟨z, hz⟩ : ∃ z, z = Sh.first (gI xa a) (gL xa a) (Sh.lnum (gI xa a) (gL xa a) i) := ⟨_, rfl⟩
  have hzl : z < Sh.prod (szs xa) := by
    have := h.at_lt ha (h.line_lt ha hi) (h.L ha)
    rw [← hz] at this
    omega
  have hc0 : (Sh.crd (szs xa) z).getD a 0 = 0 := by
    rw [Sh.crd_get _ _ _ ha', hz]
    have := Sh.at_coord (L := gL xa a) (h.I a) (h.L ha) (Sh.lnum (gI xa a) (gL xa a) i)
    rw [Nat.zero_mul, Nat.add_zero] at this
    exact this
  have hput : ∀ c, c < gL xa a → Sh.fl (szs xa) ((Sh.crd (szs xa) z).set a c) = z + c * gI xa a := fun c _ => by
    rw [Sh.fl_set (Sh.crd_len _ _) a c ha' hc0, Sh.fl_crd' hzl]
    rfl
  have hin := Sh.crd_in h.ok.pos z
  have hb := Sh.back (L := gL xa a) (h.I a) i
  rw [← hz] at hb
  have hci := h.coord_lt ha i
  have e : Sh.crd (szs xa) i = (Sh.crd (szs xa) z).set a (i / gI xa a % gL xa a) := by
    conv => lhs; rw [← hb, ← hput _ hci]
    exact Sh.crd_fl (hin.set a _ hci)
  rw [e, List.set_set, hput j hj]
  unfold pt
  rw [hz]
theorem Axes.crd_pt (h : Axes p xa) (ha : a < xa.length) {i j : Nat} (hi : i < Sh.prod (szs xa)) (hj : j < gL xa a) : Sh.crd (szs xa) (pt xa a i j) = (Sh.crd (szs xa) i).set a j := by
  rw [h.pt_fl ha hi hj]
  exact Sh.crd_fl ((Sh.crd_in h.ok.pos i).set a j hj)
theorem Axes.coord_pt (h : Axes p xa) (ha : a < xa.length) (hb : b < xa.length) (hne : a ≠ b) {i j : Nat} (hi : i < Sh.prod (szs xa)) (hj : j < gL xa a) : pt xa a i j / gI xa b % gL xa b = i / gI xa b % gL xa b := by
  have hb' : b < (szs xa).length := by rw [szs_len]; exact hb
  have e1 := Sh.crd_get (szs xa) (pt xa a i j) b hb'
  have e2 := Sh.crd_get (szs xa) i b hb'
  rw [h.crd_pt ha hi hj, List.getD_eq_getElem?_getD, List.getElem?_set_ne hne, ← List.getD_eq_getElem?_getD, e2] at e1
  exact e1.symm
theorem Axes.pt_comm (h : Axes p xa) (ha : a < xa.length) (hb : b < xa.length) (hne : a ≠ b) {i j l : Nat} (hi : i < Sh.prod (szs xa)) (hj : j < gL xa a) (hl : l < gL xa b) : pt xa b (pt xa a i j) l = pt xa a (pt xa b i l) j := by
  rw [h.pt_fl hb (h.pt_lt ha hi hj) hl, h.crd_pt ha hi hj, h.pt_fl ha (h.pt_lt hb hi hl) hj, h.crd_pt hb hi hl, List.set_comm _ _ hne]
/-- What is transformed along axis a, as a sum. -/
theorem Grid.thrN_eqm (h : Grid p xa xs) (ha : a < xa.length) {i : Nat} (hi : i < Sh.prod (szs xa)) :
    Fp.eqm p (thrN p xa a inv xs i) (Fp.sum (fun j => xs.getD (pt xa a i j) 0 * krn p (gN xa a) inv (gL xa a) (i / gI xa a % gL xa a) j) (gL xa a)) := by
  have hl := h.line ha (h.ax.line_lt ha hi)
  unfold thrN
  refine (hl.trN_eqm inv _).trans (Fp.eqm.of ?_)
  rw [lnOf_len]
  refine Fp.sum_congr fun j hj => ?_
  unfold lnOf
  rw [nth_range _ hj]
  rfl
theorem Grid.thr_two (h : Grid p xa xs) (ha : a < xa.length) (hb : b < xa.length) (hne : a ≠ b) {i : Nat} (hi : i < Sh.prod (szs xa)) :
    Fp.eqm p (thrN p xa a inv (Go.Proofs.YtjmgieepgdjomaaDoor.thr p xa b inv' xs) i) (Fp.sum (fun j => Fp.sum (fun l => xs.getD (pt xa b (pt xa a i j) l) 0 * (krn p (gN xa b) inv' (gL xa b) (i / gI xa b % gL xa b) l * krn p (gN xa a) inv (gL xa a) (i / gI xa a % gL xa a) j)) (gL xa b)) (gL xa a)) := by
  refine ((h.thr (a := b) (inv := inv')).thrN_eqm ha hi).trans ?_
  refine Fp.sum_mod fun j hj => ?_
  have hp := h.ax.pt_lt ha hi hj
  have e1 : (Go.Proofs.YtjmgieepgdjomaaDoor.thr p xa b inv' xs).getD (pt xa a i j) 0 = thrN p xa b inv' xs (pt xa a i j) := by
    unfold Go.Proofs.YtjmgieepgdjomaaDoor.thr
    rw [getD_range _ (by rw [h.len]; exact hp)]
  rw [e1]
  refine ((h.thrN_eqm hb hp).mul Fp.eqm.rfl).trans (Fp.eqm.of ?_)
  rw [← Fp.sum_mulr]
  refine Fp.sum_congr fun l _ => ?_
  rw [h.ax.coord_pt ha hb hne hi hj, Int.mul_assoc]
/-- In whatever order two axes are gone through, each there or back, it is the same. -/
theorem Grid.thr_comm (h : Grid p xa xs) (ha : a < xa.length) (hb : b < xa.length) (hne : a ≠ b) :
    Go.Proofs.YtjmgieepgdjomaaDoor.thr p xa a inv (Go.Proofs.YtjmgieepgdjomaaDoor.thr p xa b inv' xs) = Go.Proofs.YtjmgieepgdjomaaDoor.thr p xa b inv' (Go.Proofs.YtjmgieepgdjomaaDoor.thr p xa a inv xs) := by
  have e : ∀ (c d : Nat) (v v' : Bool), Go.Proofs.YtjmgieepgdjomaaDoor.thr p xa c v (Go.Proofs.YtjmgieepgdjomaaDoor.thr p xa d v' xs) = (List.range xs.length).map (thrN p xa c v (Go.Proofs.YtjmgieepgdjomaaDoor.thr p xa d v' xs)) := fun c d v v' => by
    show (List.range (Go.Proofs.YtjmgieepgdjomaaDoor.thr p xa d v' xs).length).map _ = _
    rw [thr_len]
  rw [e, e]
  refine List.map_congr_left fun i hi => ?_
  have hi := List.mem_range.1 hi
  rw [h.len] at hi
  refine eq_of_eqm ?_ (thrN_bd h.ax.kn i) (thrN_bd h.ax.kn i)
  refine (h.thr_two ha hb hne hi).trans (Fp.eqm.trans (Fp.eqm.of ?_) (h.thr_two hb ha (Ne.symm hne) hi).symm)
  rw [Fp.sum_swap]
  refine Fp.sum_congr fun l hl => Fp.sum_congr fun j hj => ?_
  rw [h.ax.pt_comm ha hb hne hi hj hl, Int.mul_comm (krn _ _ _ _ _ l)]

/-- One axis, taken ahead of those from m on. -/
theorem Grid.thr_doTo (h : Grid p xa xs) (ha : a < xa.length) {m : Nat} (hm : m ≤ a) : Go.Proofs.YtjmgieepgdjomaaDoor.thr p xa a inv' (Go.Proofs.YtjmgieepgdjomaaDoor.doTo p xa inv xs m) = Go.Proofs.YtjmgieepgdjomaaDoor.doTo p xa inv (Go.Proofs.YtjmgieepgdjomaaDoor.thr p xa a inv' xs) m := by
  induction m with
  | zero => rfl
  | succ m ih =>
    rw [Go.Proofs.YtjmgieepgdjomaaDoor.doTo, Go.Proofs.YtjmgieepgdjomaaDoor.doTo, (h.doTo m).thr_comm ha (by omega) (by omega), ih (by omega)]
/-- Back from all axes is what it was. -/
theorem Grid.do_back (h : Grid p xa xs) (hw : Words xs) {m : Nat} (hm : m ≤ xa.length) : Go.Proofs.YtjmgieepgdjomaaDoor.doTo p xa (!inv) (Go.Proofs.YtjmgieepgdjomaaDoor.doTo p xa inv xs m) m = xs := by
  induction m generalizing xs with
  | zero => rfl
  | succ m ih =>
    have h1 : Go.Proofs.YtjmgieepgdjomaaDoor.doTo p xa (!inv) (Go.Proofs.YtjmgieepgdjomaaDoor.doTo p xa inv xs (m + 1)) (m + 1) = Go.Proofs.YtjmgieepgdjomaaDoor.thr p xa m (!inv) (Go.Proofs.YtjmgieepgdjomaaDoor.doTo p xa (!inv) (Go.Proofs.YtjmgieepgdjomaaDoor.thr p xa m inv (Go.Proofs.YtjmgieepgdjomaaDoor.doTo p xa inv xs m)) m) := rfl
    rw [h1, (h.doTo m).thr.thr_doTo (by omega) (Nat.le_refl _), (h.doTo m).thr_back (h.doWords hw m) (by omega)]
    exact ih h hw (by omega)
end

end Go.Proofs.YtjmgieepgdjomaaDoor
