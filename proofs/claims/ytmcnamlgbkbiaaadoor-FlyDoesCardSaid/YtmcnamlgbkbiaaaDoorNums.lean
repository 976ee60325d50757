/-
  A literal of words: where it lies. No program is named here.
-/
import Derived.Test.YtmcnamlgbkbiaaaDoorRow
import Derived.RangeFuncRecord
namespace Go.Proofs.YtmcnamlgbkbiaaaDoor
open Go.RowKit

/-- A literal of words: where it lies. -/
theorem nums_reads (w : World) (t : TypeId) (xs : List Int) : Reads .u64 (w.alloc (.cells (xs.map (Value.int .u64)).toArray t)) (w.alloc (.cells (xs.map (Value.int .u64)).toArray t)).heap.size (some ⟨w.heap.size, 0, none⟩) xs := fun _ =>
  ⟨w.heap.size, 0, rfl, by simp, fun j hj => by simp [hj]⟩
theorem nums_owns (w : World) (xs : List Int) (base : Nat) (hb : base ≤ w.heap.size) (hl : xs.length ≤ maxLen) : Owns .u64 22 (w.alloc (.cells (xs.map (Value.int .u64)).toArray 22)) base (.slice (some ⟨w.heap.size, 0, none⟩) xs.length xs.length) xs := by
  unfold Owns
  exact ⟨by simp, .inr ⟨w.heap.size, xs.length, _, rfl, hb, World.alloc_heap_new w _, Nat.le_refl _, hl, by simp, by rw [Nat.mul_one, List.toList_toArray, List.take_of_length_le (by simp)]⟩⟩

theorem words2 {a b : Int} (ha : 0 ≤ a ∧ a < 18446744073709551616) (hb : 0 ≤ b ∧ b < 18446744073709551616) : Words [a, b] := fun j => by
  rcases j with _ | _ | j <;> simp [ha, hb]

end Go.Proofs.YtmcnamlgbkbiaaaDoor
