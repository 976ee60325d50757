/-
  Words and their two sums, as plain mathematics: the sums, and what becomes of them when one word is another one; the one place where another number helps; what differs in two rows, as fixes.
-/
import Derived.Test.YtpdiilfpbkmebaaMathVoteBack
import Derived.Test.YtpdiilfpbkmebaaIn
namespace Go.Proofs.Ytpdiilfpbkmebaa
open Go.RowKit

namespace Cd

/-- The sum of the first k numbers, and that of these times their places, counted from 1. -/
def S0 (xs : List Int) : Nat → Int
  | 0 => 0
  | k + 1 => S0 xs k + xs.getD k 0
def S1 (xs : List Int) : Nat → Int
  | 0 => 0
  | k + 1 => S1 xs k + ((k : Int) + 1) * xs.getD k 0
def s0 (p : Int) (xs : List Int) : Int := S0 xs xs.length % p
def s1 (p : Int) (xs : List Int) : Int := S1 xs xs.length % p

theorem put_get (xs : List Int) (i j : Nat) (u : Int) (hi : i < xs.length) : (xs.set i u).getD j 0 = if j = i then u else xs.getD j 0 := set_getD xs i j u hi
theorem S0_set (xs : List Int) (i : Nat) (u : Int) (hi : i < xs.length) : ∀ k, S0 (xs.set i u) k = S0 xs k + if i < k then u - xs.getD i 0 else 0
  | 0 => by simp [S0]
  | k + 1 => by
    rw [S0, S0, S0_set xs i u hi k, put_get xs i k u hi]
    by_cases c : k = i
    · subst c; rw [if_pos rfl, if_neg (by omega), if_pos (by omega)]; omega
    · rw [if_neg c]
      by_cases d : i < k
      · rw [if_pos d, if_pos (by omega)]; omega
      · rw [if_neg d, if_neg (by omega)]; omega
theorem S1_set (xs : List Int) (i : Nat) (u : Int) (hi : i < xs.length) : ∀ k, S1 (xs.set i u) k = S1 xs k + if i < k then ((i : Int) + 1) * (u - xs.getD i 0) else 0
  | 0 => by simp [S1]
  | k + 1 => by
    rw [S1, S1, S1_set xs i u hi k, put_get xs i k u hi]
    by_cases c : k = i
    · subst c; rw [if_pos rfl, if_neg (by omega), if_pos (by omega), Int.mul_sub]; omega
    · rw [if_neg c]
      by_cases d : i < k
      · rw [if_pos d, if_pos (by omega)]; omega
      · rw [if_neg d, if_neg (by omega)]; omega

/-- Are all numbers of p? -/
def inp (p : Int) (xs : List Int) : Bool := Fp.isIn p (fun j => xs.getD j 0) xs.length
theorem inp_iff {p : Int} {xs : List Int} (h : Fp.kn p = true) : inp p xs = true ↔ ∀ j, j < xs.length → xs.getD j 0 < p := by
  constructor
  · intro e j hj
    rcases Int.lt_or_le (xs.getD j 0) p with hlt | hge
    · exact hlt
    · unfold inp at e
      rw [Fp.isIn_at (f := fun j => xs.getD j 0) (Int.not_lt.2 hge) _ hj] at e
      cases e
  · exact Fp.isIn_yes (f := fun j => xs.getD j 0) h _

/-- Numbers of p that have these sums. -/
def fit (p : Int) (xs : List Int) (g h : Int) : Bool := inp p xs && decide (s0 p xs = g) && decide (s1 p xs = h)
theorem fit_iff {p : Int} {xs : List Int} {g h : Int} (hp : Fp.kn p = true) : fit p xs g h = true ↔ (∀ j, j < xs.length → xs.getD j 0 < p) ∧ s0 p xs = g ∧ s1 p xs = h := by
  unfold fit
  rw [Bool.and_eq_true, Bool.and_eq_true, inp_iff hp, decide_eq_true_iff, decide_eq_true_iff, and_assoc]

/-- The number with which, at place i, the first sum is g; the words with it. -/
def nx (p : Int) (xs : List Int) (g : Int) (i : Nat) : Int := (xs.getD i 0 + (g - S0 xs xs.length)) % p
def md (p : Int) (xs : List Int) (g : Int) (i : Nat) : List Int := xs.set i (nx p xs g i)
theorem md_len (p : Int) (xs : List Int) (g : Int) (i : Nat) : (md p xs g i).length = xs.length := by unfold md; rw [List.length_set]
theorem nx_bd {p : Int} (hp : Fp.kn p = true) (xs : List Int) (g : Int) (i : Nat) : 0 ≤ nx p xs g i ∧ nx p xs g i < p := ⟨Fp.md_lo _ (Fp.kn_pos hp), Fp.md_hi _ (Fp.kn_pos hp)⟩

section
variable {p : Int} {xs : List Int} {g h : Int} {i : Nat}
theorem s0_md (hi : i < xs.length) : s0 p (md p xs g i) = g % p := by
  unfold s0
  rw [md_len]
  unfold md
  rw [S0_set xs i _ hi, if_pos hi]
  obtain ⟨q, hq⟩ := Fp.md_split (p := p) (xs.getD i 0 + (g - S0 xs xs.length))
  have e : nx p xs g i = xs.getD i 0 + (g - S0 xs xs.length) - p * q := by unfold nx; omega
  rw [e, show S0 xs xs.length + (xs.getD i 0 + (g - S0 xs xs.length) - p * q - xs.getD i 0) = g - p * q by omega]
  rw [Int.sub_eq_add_neg, ← Int.mul_neg, Int.add_mul_emod_self_left]
theorem s1_md (hi : i < xs.length) : s1 p (md p xs g i) = (S1 xs xs.length + ((i : Int) + 1) * (g - S0 xs xs.length)) % p := by
  unfold s1
  rw [md_len]
  unfold md
  rw [S1_set xs i _ hi, if_pos hi]
  obtain ⟨q, hq⟩ := Fp.md_split (p := p) (xs.getD i 0 + (g - S0 xs xs.length))
  have e : nx p xs g i - xs.getD i 0 = (g - S0 xs xs.length) + p * (-q) := by unfold nx; rw [Int.mul_neg]; omega
  rw [e, Int.mul_add, ← Int.add_assoc, show ((i : Int) + 1) * (p * (-q)) = p * (((i : Int) + 1) * (-q)) by rw [← Int.mul_assoc, ← Int.mul_assoc, Int.mul_comm ((i : Int) + 1) p], Int.add_mul_emod_self_left]
theorem md_self (hp : Fp.kn p = true) (a : Int) : a % p = a ↔ 0 ≤ a ∧ a < p := by
  constructor
  · intro e
    have h1 := Fp.md_lo a (Fp.kn_pos hp)
    have h2 := Fp.md_hi a (Fp.kn_pos hp)
    omega
  · rintro ⟨h1, h2⟩; exact Int.emod_eq_of_lt h1 h2
theorem fit_md_iff (hp : Fp.kn p = true) (hi : i < xs.length) : fit p (md p xs g i) g h = true ↔ (∀ j, j < xs.length → j ≠ i → xs.getD j 0 < p) ∧ (0 ≤ g ∧ g < p) ∧ (S1 xs xs.length + ((i : Int) + 1) * (g - S0 xs xs.length)) % p = h := by
  rw [fit_iff hp, md_len, s0_md hi, s1_md hi, md_self hp]
  refine and_congr ⟨fun a j hj hne => ?_, fun a j hj => ?_⟩ Iff.rfl
  · have := a j hj
    unfold md at this
    rw [put_get _ _ _ _ hi, if_neg hne] at this
    exact this
  · unfold md
    rw [put_get _ _ _ _ hi]
    by_cases e : j = i
    · rw [if_pos e]; exact (nx_bd hp xs g i).2
    · rw [if_neg e]; exact a j hj e
/-- There is never more than one place. -/
theorem uniq (hp : Fp.kn p = true) (hl : xs.length ≤ 4096) (h0 : fit p xs g h = false) {j : Nat} (hi : i < xs.length) (hj : j < xs.length) (fi : fit p (md p xs g i) g h = true) (fj : fit p (md p xs g j) g h = true) : i = j := by
  obtain ⟨p1, p2⟩ := Fp.kn_bd hp
  have f0 : ¬ fit p xs g h = true := by rw [h0]; decide
  rw [fit_md_iff hp hi] at fi
  rw [fit_md_iff hp hj] at fj
  obtain ⟨a1, ⟨b1, b2⟩, c1⟩ := fi
  obtain ⟨a2, -, c2⟩ := fj
  rcases Nat.decEq i j with hne | e
  · exfalso
    have hall : ∀ k, k < xs.length → xs.getD k 0 < p := fun k hk => by
      by_cases e : k = i
      · exact a2 k hk (by omega)
      · exact a1 k hk e
    have e := c1.trans c2.symm
    rw [Int.emod_eq_emod_iff_emod_sub_eq_zero] at e
    have e2 : (S1 xs xs.length + ((i : Int) + 1) * (g - S0 xs xs.length)) - (S1 xs xs.length + ((j : Int) + 1) * (g - S0 xs xs.length)) = ((i : Int) - (j : Int)) * (g - S0 xs xs.length) := by
      rw [show (i : Int) - (j : Int) = ((i : Int) + 1) - ((j : Int) + 1) by omega, Int.sub_mul]; omega
    rw [e2, Fp.mul_zero_iff hp] at e
    rcases e with e | e
    · have := Int.dvd_of_emod_eq_zero e
      have h1 := Int.natAbs_dvd_natAbs.2 this
      have h2 := Nat.le_of_dvd (by omega) h1
      omega
    · apply f0
      rw [fit_iff hp]
      refine ⟨hall, ?_, ?_⟩
      · unfold s0
        have : S0 xs xs.length % p = g % p := by
          rw [eq_comm, Int.emod_eq_emod_iff_emod_sub_eq_zero]; exact e
        rw [this, Int.emod_eq_of_lt b1 b2]
      · unfold s1
        rw [← c1, eq_comm, Int.emod_eq_emod_iff_emod_sub_eq_zero, show S1 xs xs.length + ((i : Int) + 1) * (g - S0 xs xs.length) - S1 xs xs.length = ((i : Int) + 1) * (g - S0 xs xs.length) by omega]
        exact (Fp.mul_zero_iff hp _ _).2 (.inr e)
  · exact e
end

/-- The words that have these sums: xs, or xs with another number in one place. -/
def mn (p : Int) (xs : List Int) (g h : Int) : Option (List Int) :=
  if fit p xs g h = true then some xs else ((List.range xs.length).find? fun i => fit p (md p xs g i) g h).map (md p xs g)

section
variable {p : Int} {xs ys : List Int} {g h : Int} {i : Nat}
theorem mn_fit (h0 : fit p xs g h = true) : mn p xs g h = some xs := if_pos h0
theorem mn_none (h0 : fit p xs g h = false) (hn : ∀ i, i < xs.length → fit p (md p xs g i) g h = false) : mn p xs g h = none := by
  unfold mn
  rw [if_neg (by rw [h0]; decide), List.find?_eq_none.2 (fun i hi => by rw [hn i (List.mem_range.1 hi)]; decide)]
  rfl
theorem mn_at (hp : Fp.kn p = true) (hl : xs.length ≤ 4096) (h0 : fit p xs g h = false) (hi : i < xs.length) (hf : fit p (md p xs g i) g h = true) : mn p xs g h = some (md p xs g i) := by
  unfold mn
  rw [if_neg (by rw [h0]; decide)]
  cases c : (List.range xs.length).find? (fun i => fit p (md p xs g i) g h) with
  | none => have := List.find?_eq_none.1 c i (List.mem_range.2 hi); exact absurd hf this
  | some j =>
    have h1 := List.find?_some c
    have h2 := List.mem_range.1 (List.mem_of_find?_eq_some c)
    rw [uniq hp hl h0 hi h2 hf h1]
    rfl
theorem mn_some (h0 : mn p xs g h = some ys) : fit p ys g h = true ∧ ((ys = xs ∧ fit p xs g h = true) ∨ (fit p xs g h = false ∧ ∃ i, i < xs.length ∧ ys = md p xs g i)) := by
  unfold mn at h0
  by_cases c : fit p xs g h = true
  · rw [if_pos c] at h0
    cases h0
    exact ⟨c, .inl ⟨rfl, c⟩⟩
  · rw [if_neg c] at h0
    obtain ⟨i, h1, rfl⟩ := Option.map_eq_some_iff.1 h0
    have h2 := List.find?_some h1
    have h3 := List.mem_range.1 (List.mem_of_find?_eq_some h1)
    exact ⟨h2, .inr ⟨by simpa using c, i, h3, rfl⟩⟩
theorem mn_len (h0 : mn p xs g h = some ys) : ys.length = xs.length := by
  obtain ⟨-, ⟨rfl, -⟩ | ⟨-, i, -, rfl⟩⟩ := mn_some h0
  · rfl
  · exact md_len _ _ _ _

/-- The one place where another number may help, or -1. -/
def Sus (p : Int) (xs : List Int) (d0 d1 s : Int) : Prop :=
  (∃ k : Nat, k < xs.length ∧ s = (k : Int) ∧ ¬ xs.getD k 0 < p) ∨
  ((∀ j, j < xs.length → xs.getD j 0 < p) ∧ ((∃ k : Nat, k < xs.length ∧ s = (k : Int) ∧ Fp.mul p ((k : Int) + 1) d0 = d1) ∨ (s = -1 ∧ ∀ k : Nat, k < xs.length → Fp.mul p ((k : Int) + 1) d0 ≠ d1)))

theorem lack_eq (hp : Fp.kn p = true) (k : Nat) : Fp.mul p ((k : Int) + 1) (Fp.sub p g (s0 p xs)) = Fp.sub p h (s1 p xs) ↔ (S1 xs xs.length + ((k : Int) + 1) * (g - S0 xs xs.length)) % p = h % p := by
  unfold Fp.mul Fp.sub s0 s1
  rw [if_pos hp, if_pos hp, if_pos hp, Int.sub_emod_emod, Int.sub_emod_emod, Fp.mul_mdr, Int.emod_eq_emod_iff_emod_sub_eq_zero, Int.emod_eq_emod_iff_emod_sub_eq_zero (m := S1 xs xs.length + _)]
  rw [show ((k : Int) + 1) * (g - S0 xs xs.length) - (h - S1 xs xs.length) = S1 xs xs.length + ((k : Int) + 1) * (g - S0 xs xs.length) - h by omega]
theorem nx_add (hp : Fp.kn p = true) (i : Nat) : Fp.add p (xs.getD i 0) (Fp.sub p g (s0 p xs)) = nx p xs g i := by
  unfold Fp.add Fp.sub s0 nx
  rw [if_pos hp, if_pos hp, Int.sub_emod_emod, Int.add_emod_emod]
/-- What the suspect place tells. -/
theorem sus_mn (hp : Fp.kn p = true) (hl : xs.length ≤ 4096) (h0 : fit p xs g h = false) {s : Int} (hs : Sus p xs (Fp.sub p g (s0 p xs)) (Fp.sub p h (s1 p xs)) s) :
    (s = -1 ∧ mn p xs g h = none) ∨ ∃ k : Nat, k < xs.length ∧ s = (k : Int) ∧ ((fit p (md p xs g k) g h = true ∧ mn p xs g h = some (md p xs g k)) ∨ (fit p (md p xs g k) g h = false ∧ mn p xs g h = none)) := by
  rcases hs with ⟨k, hk, rfl, ho⟩ | ⟨hall, ⟨k, hk, rfl, he⟩ | ⟨rfl, hn⟩⟩
  · refine .inr ⟨k, hk, rfl, ?_⟩
    cases c : fit p (md p xs g k) g h
    · refine .inr ⟨rfl, mn_none h0 fun i hi => ?_⟩
      cases d : fit p (md p xs g i) g h
      · rfl
      · exfalso
        by_cases e : i = k
        · subst e; rw [c] at d; cases d
        · exact ho (((fit_md_iff hp hi).1 d).1 k hk (fun x => e x.symm))
    · exact .inl ⟨rfl, mn_at hp hl h0 hk c⟩
  · refine .inr ⟨k, hk, rfl, ?_⟩
    cases c : fit p (md p xs g k) g h
    · refine .inr ⟨rfl, mn_none h0 fun i hi => ?_⟩
      cases d : fit p (md p xs g i) g h
      · rfl
      · exfalso
        have d1 := (fit_md_iff hp hi).1 d
        have hh : h % p = h := by rw [← d1.2.2, Int.emod_emod]
        have : fit p (md p xs g k) g h = true := (fit_md_iff hp hk).2 ⟨fun j hj _ => hall j hj, d1.2.1, by rw [(lack_eq hp k).1 he, hh]⟩
        rw [c] at this; cases this
    · exact .inl ⟨rfl, mn_at hp hl h0 hk c⟩
  · refine .inl ⟨rfl, mn_none h0 fun i hi => ?_⟩
    cases d : fit p (md p xs g i) g h
    · rfl
    · exfalso
      have d1 := (fit_md_iff hp hi).1 d
      have hh : h % p = h := by rw [← d1.2.2, Int.emod_emod]
      exact hn i hi ((lack_eq hp i).2 (by rw [d1.2.2, hh]))
end

/-- What stands otherwise in r than in c, of the first k places, as fixes. -/
def dif (c r : List Int) : Nat → List Fx
  | 0 => []
  | k + 1 => if c.getD k 0 = r.getD k 0 then dif c r k else dif c r k ++ [⟨(k : Int), c.getD k 0, r.getD k 0⟩]
theorem dif_succ (c r : List Int) (k : Nat) : dif c r (k + 1) = if c.getD k 0 = r.getD k 0 then dif c r k else dif c r k ++ [⟨(k : Int), c.getD k 0, r.getD k 0⟩] := rfl
theorem dif_len (c r : List Int) (k : Nat) : (dif c r k).length ≤ k := by
  induction k with
  | zero => exact Nat.le_refl _
  | succ k ih =>
    rw [dif_succ]
    split
    · omega
    · rw [List.length_append]; simp; omega
theorem dif_congr {c r c' r' : List Int} : ∀ k, (∀ j, j < k → c.getD j 0 = c'.getD j 0 ∧ r.getD j 0 = r'.getD j 0) → dif c r k = dif c' r' k
  | 0, _ => rfl
  | k + 1, h => by rw [dif_succ, dif_succ, dif_congr k (fun j hj => h j (by omega)), (h k (by omega)).1, (h k (by omega)).2]
theorem dif_nil {c r : List Int} : ∀ k, (dif c r k = [] ↔ ∀ j, j < k → c.getD j 0 = r.getD j 0)
  | 0 => ⟨fun _ j hj => by omega, fun _ => rfl⟩
  | k + 1 => by
    rw [dif_succ]
    by_cases e : c.getD k 0 = r.getD k 0
    · rw [if_pos e, dif_nil k]
      constructor
      · intro h j hj
        by_cases d : j = k
        · rw [d]; exact e
        · exact h j (by omega)
      · intro h j hj; exact h j (by omega)
    · rw [if_neg e]
      constructor
      · intro h; simp at h
      · intro h; exact absurd (h k (by omega)) e
theorem dif_eq {c r : List Int} {n : Nat} (hc : c.length = n) (hr : r.length = n) : dif c r n = [] ↔ c = r := by
  rw [dif_nil]
  constructor
  · intro h; exact list_eq (by omega) (fun j hj => h j (by omega))
  · rintro rfl; exact fun _ _ => rfl
theorem dif_app {a a' b b' : List Int} {n : Nat} (ha : a.length = n) (ha' : a'.length = n) : ∀ m, dif (a ++ b) (a' ++ b') (n + m) = dif a a' n ++ (dif b b' m).map (mv n)
  | 0 => by
    rw [Nat.add_zero, dif_congr n (c' := a) (r' := a') (fun j hj => ⟨app_left (by omega), app_left (by omega)⟩)]
    simp [dif]
  | m + 1 => by
    rw [← Nat.add_assoc, dif_succ, dif_succ, dif_app ha ha' m, app_right ha (by omega), app_right ha' (by omega), show n + m - n = m by omega]
    by_cases e : b.getD m 0 = b'.getD m 0
    · rw [if_pos e, if_pos e]
    · rw [if_neg e, if_neg e, List.map_append, List.append_assoc]
      simp only [List.map_cons, List.map_nil, mv]
      rw [show ((n + m : Nat) : Int) = (m : Int) + (n : Int) by omega]
theorem dif_set (xs : List Int) (i : Nat) (u : Int) (hi : i < xs.length) : ∀ k, dif xs (xs.set i u) k = if i < k ∧ xs.getD i 0 ≠ u then [⟨(i : Int), xs.getD i 0, u⟩] else []
  | 0 => by rw [if_neg (by omega)]; rfl
  | k + 1 => by
    rw [dif_succ, dif_set xs i u hi k, put_get xs i k u hi]
    by_cases c : k = i
    · subst c
      rw [if_pos rfl]
      by_cases e : xs.getD k 0 = u
      · rw [if_pos e, if_neg (by omega), if_neg (by omega)]
      · rw [if_neg e, if_neg (by omega), if_pos ⟨by omega, e⟩]; rfl
    · rw [if_neg c, if_pos rfl]
      by_cases e : i < k ∧ xs.getD i 0 ≠ u
      · rw [if_pos e, if_pos ⟨by omega, e.2⟩]
      · rw [if_neg e, if_neg (fun d => e ⟨by omega, d.2⟩)]
theorem dif_set' (xs : List Int) (i : Nat) (u : Int) (hi : i < xs.length) : ∀ k, dif (xs.set i u) xs k = if i < k ∧ u ≠ xs.getD i 0 then [⟨(i : Int), u, xs.getD i 0⟩] else []
  | 0 => by rw [if_neg (by omega)]; rfl
  | k + 1 => by
    rw [dif_succ, dif_set' xs i u hi k, put_get xs i k u hi]
    by_cases c : k = i
    · subst c
      rw [if_pos rfl]
      by_cases e : u = xs.getD k 0
      · rw [if_pos e, if_neg (by omega), if_neg (by omega)]
      · rw [if_neg e, if_neg (by omega), if_pos ⟨by omega, e⟩]; rfl
    · rw [if_neg c, if_pos rfl]
      by_cases e : i < k ∧ u ≠ xs.getD i 0
      · rw [if_pos e, if_pos ⟨by omega, e.2⟩]
      · rw [if_neg e, if_neg (fun d => e ⟨by omega, d.2⟩)]
/-- What each is. -/
theorem dif_mem {c r : List Int} {s : Fx} : ∀ k, s ∈ dif c r k → ∃ j : Nat, j < k ∧ s = ⟨(j : Int), c.getD j 0, r.getD j 0⟩ ∧ c.getD j 0 ≠ r.getD j 0
  | 0, h => by cases h
  | k + 1, h => by
    rw [dif_succ] at h
    by_cases e : c.getD k 0 = r.getD k 0
    · rw [if_pos e] at h
      obtain ⟨j, hj, h1⟩ := dif_mem k h
      exact ⟨j, by omega, h1⟩
    · rw [if_neg e] at h
      rcases List.mem_append.1 h with h | h
      · obtain ⟨j, hj, h1⟩ := dif_mem k h
        exact ⟨j, by omega, h1⟩
      · refine ⟨k, by omega, by simpa using h, e⟩
theorem dif_rise (c r : List Int) : ∀ k, (dif c r k).Pairwise (fun s t => s.ad < t.ad)
  | 0 => List.Pairwise.nil
  | k + 1 => by
    rw [dif_succ]
    split
    · exact dif_rise c r k
    · rw [List.pairwise_append]
      refine ⟨dif_rise c r k, by simp, fun s hs t ht => ?_⟩
      obtain ⟨j, hj, rfl, -⟩ := dif_mem k hs
      simp at ht
      subst ht
      dsimp only
      omega
/-- With all made the one is the other. -/
theorem mend_dif {c r : List Int} {n : Nat} (hc : c.length = n) (hr : r.length = n) : mend c (dif c r n) = r := by
  have key : ∀ k, k ≤ n → ∀ j, (mend c (dif c r k)).getD j 0 = if j < k then r.getD j 0 else c.getD j 0 := by
    intro k
    induction k with
    | zero => intro _ j; rw [if_neg (by omega)]; rfl
    | succ k ih =>
      intro hk j
      rw [dif_succ]
      by_cases e : c.getD k 0 = r.getD k 0
      · rw [if_pos e, ih (by omega) j]
        by_cases d : j < k
        · rw [if_pos d, if_pos (by omega)]
        · rw [if_neg d]
          by_cases d2 : j = k
          · subst d2; rw [if_pos (by omega), e]
          · rw [if_neg (by omega)]
      · rw [if_neg e, mend_snoc, set_getD _ _ _ _ (by rw [mend_len]; dsimp only; omega)]
        dsimp only
        by_cases d2 : j = k
        · subst d2; rw [if_pos (by omega), if_pos (by omega)]
        · rw [if_neg (by omega), ih (by omega) j]
          by_cases d : j < k
          · rw [if_pos d, if_pos (by omega)]
          · rw [if_neg d, if_neg (by omega)]
  apply list_eq
  · rw [mend_len]; omega
  · intro j hj
    rw [mend_len] at hj
    rw [key n (Nat.le_refl _) j, if_pos (by omega)]
/-- Of threes that are told. -/
theorem dif_thrice {xs : List Int} {n : Nat} (he : ∀ k, k < n → lk xs k = 0) : ∀ m, m ≤ n → dif xs (thrice (wds xs n)) (3 * m) = fxs xs m
  | 0, _ => rfl
  | m + 1, hm => by
    have r : ∀ q, q < 3 → (thrice (wds xs n)).getD (3 * m + q) 0 = wd xs m := fun q hq => by
      rw [thrice_at, show (3 * m + q) / 3 = m by omega, wds_get xs (by omega)]
    have r0 := r 0 (by omega)
    rw [Nat.add_zero] at r0
    rw [show 3 * (m + 1) = 3 * m + 1 + 1 + 1 by omega, dif_succ, dif_succ, dif_succ, show 3 * m + 1 + 1 = 3 * m + 2 by omega, r0, r 1 (by omega), r 2 (by omega), dif_thrice he m (by omega), fxs_snoc]
    have hl := he m (by omega)
    unfold lk e3 at hl
    have q0 : fxo xs m 0 = ⟨((3 * m : Nat) : Int), xs.getD (3 * m) 0, wd xs m⟩ := by unfold fxo; congr 1
    have q1 : fxo xs m 1 = ⟨((3 * m + 1 : Nat) : Int), xs.getD (3 * m + 1) 0, wd xs m⟩ := by unfold fxo; congr 1
    have q2 : fxo xs m 2 = ⟨((3 * m + 2 : Nat) : Int), xs.getD (3 * m + 2) 0, wd xs m⟩ := by unfold fxo; congr 1
    have hw : wd xs m = t3 (xs.getD (3 * m) 0) (xs.getD (3 * m + 1) 0) (xs.getD (3 * m + 2) 0) := rfl
    unfold t3 at hw
    unfold fx1 pl p3
    generalize fxs xs m = l at *
    generalize fxo xs m = F at *
    generalize wd xs m = W at *
    generalize xs.getD (3 * m) 0 = a at *
    generalize xs.getD (3 * m + 1) 0 = b at *
    generalize xs.getD (3 * m + 2) 0 = c at *
    clear r r0 he
    by_cases h1 : b = c
    · rw [if_pos h1] at hw ⊢
      rw [if_pos (show c = W by rw [hw, h1]), if_pos (show b = W from hw.symm)]
      by_cases h2 : a = b
      · rw [if_pos h2, if_pos (show a = W by rw [hw, h2])]; simp
      · rw [if_neg h2, if_neg (show ¬ a = W by rw [hw]; exact h2), List.map_cons, List.map_nil, q0]
    · rw [if_neg h1] at hw hl ⊢
      by_cases h2 : c = a
      · rw [if_pos h2] at hw ⊢
        rw [if_pos (show c = W from hw.symm), if_neg (show ¬ b = W by rw [hw]; exact h1), if_pos (show a = W by rw [hw, h2]), List.map_cons, List.map_nil, q1]
      · rw [if_neg h2] at hw hl ⊢
        by_cases h3 : a = b
        · rw [if_pos h3] at hw ⊢
          rw [if_neg (show ¬ c = W by rw [hw]; exact h2), if_pos (show b = W by rw [hw, h3]), if_pos (show a = W from hw.symm), List.map_cons, List.map_nil, q2]
        · rw [if_neg h3] at hl; cases hl

end Cd
end Go.Proofs.Ytpdiilfpbkmebaa
