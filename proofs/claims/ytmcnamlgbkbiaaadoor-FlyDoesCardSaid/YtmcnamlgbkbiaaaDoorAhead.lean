/-
  What power.productsAhead comes to: of a list's numbers the product of those ahead of each, and of all.
-/
import Derived.Test.YtmcnamlgbkbiaaaDoorPowers
namespace Go.Proofs.YtmcnamlgbkbiaaaDoor
open Go.RowKit

namespace Fp
/-- The product by p of the first i of xs. -/
def pre (p : Int) (xs : List Int) : Nat → Int
  | 0 => red p 1
  | i + 1 => mul p (pre p xs i) (xs.getD i 0)
theorem pre_bd (p : Int) (xs : List Int) (i : Nat) : 0 ≤ pre p xs i ∧ pre p xs i < 18446744069414584321 ∧ (kn p = true → pre p xs i < p) := by
  cases i with
  | zero => exact red_bd p 1
  | succ i => exact mul_bd p _ _
theorem pre_red (p : Int) (xs : List Int) (i : Nat) : red p (pre p xs i) = pre p xs i := by
  cases i with
  | zero => exact red_red _ _
  | succ i => exact red_mul _ _ _
/-- A product is 0 just if one of its numbers is. -/
theorem pre_zero {p : Int} (h : kn p = true) (xs : List Int) : ∀ i, pre p xs i = 0 ↔ ∃ j, j < i ∧ red p (xs.getD j 0) = 0
  | 0 => by
    constructor
    · intro e; rw [pre, red_one h] at e; omega
    · rintro ⟨j, hj, _⟩; omega
  | i + 1 => by
    rw [pre, mul_zero h, pre_red, pre_zero h xs i]
    constructor
    · rintro (⟨j, hj, e⟩ | e)
      · exact ⟨j, by omega, e⟩
      · exact ⟨i, by omega, e⟩
    · rintro ⟨j, hj, e⟩
      by_cases hji : j = i
      · exact .inr (hji ▸ e)
      · exact .inl ⟨j, by omega, e⟩
end Fp

/-- What productsAhead returns: the products, in memory of its own, and the product of all. -/
def AheadRet (p : Int) (xs : List Int) (w : World) (e : Ending) (w' : World) : Prop :=
  ∃ g, e = .returned (.tuple #[.slice (some ⟨g, 0, none⟩) xs.length xs.length, .int .u64 (Fp.pre p xs xs.length)]) ∧
    Half .u64 22 w' w.heap.size g xs.length (Fp.pre p xs) (fun _ => 0) xs.length ∧ Below w.heap.size w w'

end Go.Proofs.YtmcnamlgbkbiaaaDoor
