/-
  The chapter's example of layer 13; one place, as a row of its own.
-/
import Derived.Test.YtpdiilfpbkmebaaRefCells
namespace Go.Proofs.Ytpdiilfpbkmebaa
open Go.RowKit

/-- A row of one place. -/
theorem one_cell {w : World} {base cap : Nat} {x : Option Addr} {p : Int} (h : Owns .i64 3 w base (.slice x 1 cap) [p]) : ∃ g, x = some ⟨g, 0, none⟩ ∧ base ≤ g ∧ g < w.heap.size ∧ w.cell? ⟨g, 0, none⟩ = some (.int .i64 p) := by
  obtain ⟨x', c', e2, -, -, -, hf⟩ := h.form
  simp only [Value.slice.injEq] at e2
  obtain ⟨rfl, -, rfl⟩ := e2
  obtain ⟨g, rfl, h1, h2⟩ := hf (by simp)
  exact ⟨g, rfl, h1, h2, by simpa using h.num rfl (j := 0) (by simp)⟩

end Go.Proofs.Ytpdiilfpbkmebaa
