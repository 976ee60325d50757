/-
  What the document's own answers of layer 4 come to (brackenref04).
-/
import Derived.Test.YtmcnamlgbkbiaaaDoorSizes
namespace Go.Proofs.YtmcnamlgbkbiaaaDoor
open Go.RowKit

/-- It returns the list and the number m, the list in a row of its own. -/
def OutRet (w : World) (xs : List Int) (m : Int) (e : Ending) (w' : World) : Prop := ∃ v, e = .returned (.tuple #[v, .int .i64 m]) ∧ Owns .i64 3 w' w.heap.size v xs ∧ Below w.heap.size w w'

theorem four_cell (w : World) (t : TypeId) (j : Nat) (r : Fac.Rad) (hr : Fac.four[j]? = some r) :
    (w.alloc (.cells #[.int .i64 4, .int .i64 2, .int .i64 3, .int .i64 5] t)).cell? ⟨w.heap.size, j, none⟩ = some (.int .i64 (r.1 : Int)) := by
  have hi : j < 4 := by
    rcases Nat.lt_or_ge j 4 with h | h
    · exact h
    · rw [List.getElem?_eq_none (by simpa [Fac.four] using h)] at hr; cases hr
  have : j = 0 ∨ j = 1 ∨ j = 2 ∨ j = 3 := by omega
  rcases this with rfl | rfl | rfl | rfl <;> simp [Fac.four] at hr <;> subst hr <;> simp

end Go.Proofs.YtmcnamlgbkbiaaaDoor
