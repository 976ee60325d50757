/-
  All numbers of a list undone at once: what one step does to the row of products and to the number that undoes them, and what comes of all steps. No program is named here.
-/
import Derived.Test.YtceccconfnlggaaAhead
import Derived.Test.YtceccconfnlggaaBack
namespace Go.Proofs.Ytceccconfnlggaa.Fp

/-- One step, at place j: the row and the number that undoes. -/
def undo1 (p : Int) (xs : List Int) (s : List Int × Int) (j : Nat) : List Int × Int := (s.1.set j (mul p (s.1.getD j 0) s.2), mul p s.2 (xs.getD j 0))
/-- The row behind k steps: from place n less k on the numbers undone. -/
def undRow (p : Int) (xs : List Int) (k : Nat) : List Int := (List.range xs.length).map fun i => if i < xs.length - k then pre p xs i else inv p (xs.getD i 0)
def undNum (p : Int) (xs : List Int) : Nat → Int
  | 0 => inv p (pre p xs xs.length)
  | k + 1 => mul p (undNum p xs k) (xs.getD (xs.length - 1 - k) 0)
def undAll (p : Int) (xs : List Int) (js : List (Fin xs.length)) : List Int × Int := js.foldl (fun s j => undo1 p xs s j.1) ((List.range xs.length).map (pre p xs), inv p (pre p xs xs.length))
theorem undAll_snoc (p : Int) (xs : List Int) (js : List (Fin xs.length)) (j : Fin xs.length) : undAll p xs (js ++ [j]) = undo1 p xs (undAll p xs js) j.1 := by simp [undAll]

theorem undo1_len (p : Int) (xs : List Int) (s : List Int × Int) (j : Nat) : (undo1 p xs s j).1.length = s.1.length := by simp [undo1]
/-- Whatever order the places come in, all are words. -/
theorem undAll_words (p : Int) (xs : List Int) (js : List (Fin xs.length)) : (undAll p xs js).1.length = xs.length ∧ (∀ j, 0 ≤ (undAll p xs js).1.getD j 0 ∧ (undAll p xs js).1.getD j 0 < 18446744069414584321) ∧ 0 ≤ (undAll p xs js).2 ∧ (undAll p xs js).2 < 18446744069414584321 := by
  unfold undAll
  have gen : ∀ (js : List (Fin xs.length)) (s : List Int × Int), (s.1.length = xs.length ∧ (∀ j, 0 ≤ s.1.getD j 0 ∧ s.1.getD j 0 < 18446744069414584321) ∧ 0 ≤ s.2 ∧ s.2 < 18446744069414584321) →
      ((js.foldl (fun s j => undo1 p xs s j.1) s).1.length = xs.length ∧ (∀ j, 0 ≤ (js.foldl (fun s j => undo1 p xs s j.1) s).1.getD j 0 ∧ (js.foldl (fun s j => undo1 p xs s j.1) s).1.getD j 0 < 18446744069414584321) ∧ 0 ≤ (js.foldl (fun s j => undo1 p xs s j.1) s).2 ∧ (js.foldl (fun s j => undo1 p xs s j.1) s).2 < 18446744069414584321) := by
    intro js
    induction js with
    | nil => intro s h; exact h
    | cons i js ih =>
      intro s ⟨h1, h2, h3, h4⟩
      refine ih _ ⟨by rw [undo1_len]; exact h1, ?_, (mul_bd p _ _).1, (mul_bd p _ _).2.1⟩
      intro j
      show 0 ≤ (s.1.set i.1 _).getD j 0 ∧ (s.1.set i.1 _).getD j 0 < 18446744069414584321
      rw [List.getD_eq_getElem?_getD, List.getElem?_set]
      by_cases e : i.1 = j
      · rw [if_pos e]
        by_cases hl : i.1 < s.1.length
        · rw [if_pos hl]; exact ⟨(mul_bd p _ _).1, (mul_bd p _ _).2.1⟩
        · rw [if_neg hl]; simp
      · rw [if_neg e, ← List.getD_eq_getElem?_getD]; exact h2 j
  refine gen js _ ⟨by simp, fun j => ?_, (inv_bd p _).1, (inv_bd p _).2.1⟩
  by_cases hj : j < xs.length
  · simp [hj]; exact ⟨(pre_bd p xs j).1, (pre_bd p xs j).2.1⟩
  · simp [hj]

theorem undNum_one {p : Int} (h : kn p = true) (xs : List Int) (hz : pre p xs xs.length ≠ 0) : ∀ k, k ≤ xs.length → mul p (undNum p xs k) (pre p xs (xs.length - k)) = 1
  | 0, _ => by
    rw [undNum, Nat.sub_zero]; exact mul_inv h (by rw [pre_red]; exact hz)
  | k + 1, hk => by
    have ih := undNum_one h xs hz k (by omega)
    rw [show xs.length - k = (xs.length - (k + 1)) + 1 by omega, pre] at ih
    rw [undNum, mul_assoc, mul_comm p (xs.getD _ 0), show xs.length - 1 - k = xs.length - (k + 1) by omega]
    exact ih
theorem undo_steps {p : Int} (h : kn p = true) (xs : List Int) (hz : pre p xs xs.length ≠ 0) : ∀ k, k ≤ xs.length → undAll p xs (downTo xs.length k) = (undRow p xs k, undNum p xs k)
  | 0, _ => by
    rw [downTo_zero]
    show (_, _) = (_, _)
    congr 1
    unfold undRow
    apply List.map_congr_left
    intro i hi
    rw [if_pos (by have := List.mem_range.1 hi; omega)]
  | k + 1, hk => by
    rw [downTo_succ _ _ (by omega), undAll_snoc, undo_steps h xs hz k (by omega)]
    have h1 := undNum_one h xs hz k (by omega)
    have hp : pre p xs (xs.length - k) = mul p (pre p xs (xs.length - 1 - k)) (xs.getD (xs.length - 1 - k) 0) := by
      rw [show xs.length - k = (xs.length - 1 - k) + 1 by omega, pre]
    have hget : (undRow p xs k).getD (xs.length - 1 - k) 0 = pre p xs (xs.length - 1 - k) := by
      unfold undRow; simp [show xs.length - 1 - k < xs.length by omega, show xs.length - 1 - k < xs.length - k by omega]
    unfold undo1
    rw [hget]
    congr 1
    have hinv : inv p (xs.getD (xs.length - 1 - k) 0) = mul p (pre p xs (xs.length - 1 - k)) (undNum p xs k) := by
      have e1 : mul p (mul p (pre p xs (xs.length - 1 - k)) (undNum p xs k)) (xs.getD (xs.length - 1 - k) 0) = 1 := by
        rw [mul_comm p (pre p xs _), mul_assoc, ← hp]; exact h1
      rw [inv_only h (ne_of_mul_one h e1).1 e1, red_mul]
    rw [← hinv]
    show (undRow p xs k).set (xs.length - 1 - k) (inv p (xs.getD (xs.length - 1 - k) 0)) = undRow p xs (k + 1)
    apply List.ext_getElem?
    intro j
    rw [List.getElem?_set]
    by_cases e : xs.length - 1 - k = j
    · rw [if_pos e, e]
      unfold undRow
      simp [show j < xs.length by omega, show ¬ j < xs.length - (k + 1) by omega]
    · rw [if_neg e]
      unfold undRow
      by_cases hj : j < xs.length
      · by_cases h2 : j < xs.length - (k + 1)
        · simp [hj, h2, show j < xs.length - k by omega]
        · simp [hj, h2, show ¬ j < xs.length - k by omega]
      · simp [hj]
theorem undo_all {p : Int} (h : kn p = true) (xs : List Int) (hz : pre p xs xs.length ≠ 0) : (undAll p xs (downTo xs.length xs.length)).1 = xs.map (inv p) := by
  rw [undo_steps h xs hz _ (Nat.le_refl _)]
  show undRow p xs xs.length = _
  unfold undRow
  apply List.ext_getElem?
  intro j
  by_cases hj : j < xs.length
  · simp [hj]
  · simp [hj]

end Go.Proofs.Ytceccconfnlggaa.Fp
