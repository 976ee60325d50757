/-
  Three of each, as plain mathematics: the word that two of three have, the place of the other one; lists told by threes.
-/
import Derived.Test.YtpdiilfpbkmebaaFix
namespace Go.Proofs.Ytpdiilfpbkmebaa
open Go.RowKit

/-- The word that two of three have. -/
def t3 (a b c : Int) : Int := if b = c then b else if c = a then c else if a = b then a else 0
/-- Why there is none. -/
def e3 (a b c : Int) : Int := if b = c then 0 else if c = a then 0 else if a = b then 0 else 10
/-- The place of the other one. -/
def p3 (a b c : Int) : List Int := if b = c then (if a = b then [] else [0]) else if c = a then [1] else if a = b then [2] else []

theorem t3_bd {a b c m : Int} (ha : 0 ≤ a ∧ a < m) (hb : 0 ≤ b ∧ b < m) (hc : 0 ≤ c ∧ c < m) : 0 ≤ t3 a b c ∧ t3 a b c < m := by unfold t3; split <;> (try split) <;> (try split) <;> omega
theorem e3_cases (a b c : Int) : e3 a b c = 0 ∨ e3 a b c = 10 := by unfold e3; split <;> (try split) <;> (try split) <;> simp
theorem p3_len (a b c : Int) : (p3 a b c).length ≤ 1 := by unfold p3; split <;> (try split) <;> (try split) <;> simp
theorem p3_bd (a b c : Int) : ∀ p ∈ p3 a b c, 0 ≤ p ∧ p < 3 := by unfold p3; split <;> (try split) <;> (try split) <;> simp

/-- Each of xs three times. -/
def thrice (xs : List Int) : List Int := xs.flatMap fun x => [x, x, x]
theorem thrice_len (xs : List Int) : (thrice xs).length = 3 * xs.length := by
  induction xs with
  | nil => rfl
  | cons x xs ih => unfold thrice at ih ⊢; rw [List.flatMap_cons, List.length_append, ih]; simp; omega
theorem thrice_snoc (xs : List Int) (u : Int) : thrice (xs ++ [u]) = thrice xs ++ [u, u, u] := by unfold thrice; rw [List.flatMap_append]; simp
theorem thrice_at : ∀ (xs : List Int) (j : Nat), (thrice xs).getD j 0 = xs.getD (j / 3) 0
  | [], j => by simp [thrice]
  | x :: xs, j => by
    have ih := thrice_at xs (j - 3)
    have e : thrice (x :: xs) = [x, x, x] ++ thrice xs := by unfold thrice; rw [List.flatMap_cons]
    rw [e, List.getD_eq_getElem?_getD]
    by_cases h : j < 3
    · obtain rfl | rfl | rfl : j = 0 ∨ j = 1 ∨ j = 2 := by omega
      all_goals simp
    · rw [List.getElem?_append_right (by simp; omega), ← List.getD_eq_getElem?_getD]
      have e2 : j - [x, x, x].length = j - 3 := rfl
      rw [e2, ih, show j / 3 = (j - 3) / 3 + 1 by omega]
      simp
theorem thrice_words {xs : List Int} (h : Words xs) : Words (thrice xs) := fun j => by rw [thrice_at]; exact h _
theorem take_one (xs : List Int) (k : Nat) (h : k < xs.length) : xs.take (k + 1) = xs.take k ++ [xs.getD k 0] := by
  rw [List.take_add_one, List.getElem?_eq_getElem h, List.getD_eq_getElem?_getD, List.getElem?_eq_getElem h]; rfl

/-- The word of the three number k of xs, why there is none, its fixes. -/
def wd (xs : List Int) (k : Nat) : Int := t3 (xs.getD (3 * k) 0) (xs.getD (3 * k + 1) 0) (xs.getD (3 * k + 2) 0)
def lk (xs : List Int) (k : Nat) : Int := e3 (xs.getD (3 * k) 0) (xs.getD (3 * k + 1) 0) (xs.getD (3 * k + 2) 0)
def pl (xs : List Int) (k : Nat) : List Int := p3 (xs.getD (3 * k) 0) (xs.getD (3 * k + 1) 0) (xs.getD (3 * k + 2) 0)
def fxo (xs : List Int) (k : Nat) (p : Int) : Fx := ⟨3 * (k : Int) + p, xs.getD (3 * k + p.toNat) 0, wd xs k⟩
def fx1 (xs : List Int) (k : Nat) : List Fx := (pl xs k).map (fxo xs k)

def wds (xs : List Int) (n : Nat) : List Int := (List.range n).map (wd xs)
def fxs (xs : List Int) (n : Nat) : List Fx := (List.range n).flatMap (fx1 xs)
theorem wds_len (xs : List Int) (n : Nat) : (wds xs n).length = n := by simp [wds]
theorem wds_snoc (xs : List Int) (n : Nat) : wds xs (n + 1) = wds xs n ++ [wd xs n] := by simp [wds, List.range_succ]
theorem fxs_snoc (xs : List Int) (n : Nat) : fxs xs (n + 1) = fxs xs n ++ fx1 xs n := by simp [fxs, List.range_succ]
theorem fxs_len (xs : List Int) (n : Nat) : (fxs xs n).length ≤ n := by
  induction n with
  | zero => simp [fxs]
  | succ n ih => rw [fxs_snoc, List.length_append]; have := p3_len (xs.getD (3 * n) 0) (xs.getD (3 * n + 1) 0) (xs.getD (3 * n + 2) 0); unfold fx1 pl; rw [List.length_map]; omega
theorem wds_words {xs : List Int} (h : Words xs) (n : Nat) : Words (wds xs n) := fun j => by
  by_cases hj : j < n
  · rw [List.getD_eq_getElem?_getD, show (wds xs n)[j]? = some (wd xs j) by simp [wds, hj]]
    exact t3_bd (h _) (h _) (h _)
  · rw [List.getD_eq_getElem?_getD, List.getElem?_eq_none (by rw [wds_len]; omega)]; simp

/-- Each of the first n threes tells a word. -/
def allB (xs : List Int) (n : Nat) : Bool := (List.range n).all fun k => lk xs k == 0
theorem allB_iff {xs : List Int} {n : Nat} : allB xs n = true ↔ ∀ k, k < n → lk xs k = 0 := by simp [allB]

/-- What Cells tells: why not, the words, the fixes. -/
def clE (xs : List Int) : Int := if 3072 < xs.length then 1 else if xs.length % 3 ≠ 0 then 6 else if allB xs (xs.length / 3) = true then 0 else 10
def clW (xs : List Int) : List Int := if clE xs = 0 then wds xs (xs.length / 3) else []
def clF (xs : List Int) : List Fx := if clE xs = 0 then fxs xs (xs.length / 3) else []
theorem clE_many {xs : List Int} (h : 3072 < xs.length) : clE xs = 1 := if_pos h
theorem clE_cut {xs : List Int} (h : xs.length ≤ 3072) (h3 : xs.length % 3 ≠ 0) : clE xs = 6 := by unfold clE; rw [if_neg (by omega), if_pos h3]
theorem clE_all {xs : List Int} (h : xs.length ≤ 3072) (h3 : xs.length % 3 = 0) (ha : ∀ k, k < xs.length / 3 → lk xs k = 0) : clE xs = 0 := by unfold clE; rw [if_neg (by omega), if_neg (by omega), if_pos (allB_iff.2 ha)]
theorem clE_lost {xs : List Int} (h : xs.length ≤ 3072) (h3 : xs.length % 3 = 0) {k : Nat} (hk : k < xs.length / 3) (hl : lk xs k ≠ 0) : clE xs = 10 := by
  unfold clE; rw [if_neg (by omega), if_neg (by omega), if_neg (fun c => hl (allB_iff.1 c k hk))]
theorem clE_zero {xs : List Int} (h : clE xs = 0) : xs.length ≤ 3072 ∧ xs.length % 3 = 0 ∧ ∀ k, k < xs.length / 3 → lk xs k = 0 := by
  unfold clE at h
  split at h
  · cases h
  · split at h
    · cases h
    · split at h
      · rename_i h1 h2 h3
        exact ⟨by omega, by omega, allB_iff.1 h3⟩
      · cases h
theorem clW_no {xs : List Int} (h : clE xs ≠ 0) : clW xs = [] := if_neg h
theorem clF_no {xs : List Int} (h : clE xs ≠ 0) : clF xs = [] := if_neg h
theorem clW_yes {xs : List Int} (h : clE xs = 0) : clW xs = wds xs (xs.length / 3) := if_pos h
theorem clF_yes {xs : List Int} (h : clE xs = 0) : clF xs = fxs xs (xs.length / 3) := if_pos h

/-- What Put tells: why not, the cells. -/
def ptE (xs : List Int) : Int := if 1024 < xs.length then 1 else 0
def ptL (xs : List Int) : List Int := if 1024 < xs.length then [] else thrice xs

/-- What Three tells of a list: why not, the word, the place. -/
def thE (xs : List Int) : Int := if xs.length ≠ 3 then 6 else e3 (xs.getD 0 0) (xs.getD 1 0) (xs.getD 2 0)
def thW (xs : List Int) : Int := if xs.length ≠ 3 then 0 else t3 (xs.getD 0 0) (xs.getD 1 0) (xs.getD 2 0)
def thP (xs : List Int) : List Int := if xs.length ≠ 3 then [] else p3 (xs.getD 0 0) (xs.getD 1 0) (xs.getD 2 0)

end Go.Proofs.Ytpdiilfpbkmebaa
