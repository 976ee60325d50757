/-
  What field.In comes to: true just if p is a known prime and all numbers of the slice are below it; nothing is written.
-/
import Derived.Test.YtabffpokcghnmaaDoorField
namespace Go.Proofs.YtabffpokcghnmaaDoor
open Go.RowKit

namespace Fp
/-- Are the first n numbers of f below p, and p known? -/
def isIn (p : Int) (f : Nat → Int) : Nat → Bool
  | 0 => kn p
  | n + 1 => isIn p f n && decide (f n < p)
theorem isIn_no {p : Int} {f : Nat → Int} (h : kn p = false) : ∀ n, isIn p f n = false
  | 0 => h
  | n + 1 => by rw [isIn, isIn_no h n]; rfl
theorem isIn_yes {p : Int} {f : Nat → Int} (h : kn p = true) : ∀ n, (∀ j, j < n → f j < p) → isIn p f n = true
  | 0, _ => h
  | n + 1, hf => by rw [isIn, isIn_yes h n (fun j hj => hf j (by omega)), decide_eq_true (hf n (by omega))]; rfl
theorem isIn_at {p : Int} {f : Nat → Int} {k : Nat} (hk : ¬ f k < p) : ∀ n, k < n → isIn p f n = false
  | n + 1, hn => by
    rw [isIn]
    by_cases e : k = n
    · subst e; rw [decide_eq_false hk]; simp
    · rw [isIn_at hk n (by omega)]; rfl
end Fp

theorem ret_bool {a b : Bool} (h : a = b) : Ending.returned (.bool a) = .returned (.bool b) := by rw [h]

end Go.Proofs.YtabffpokcghnmaaDoor
