/-
  The chapter's example of layer 11.
-/
import Derived.Test.YtaphhgiocahnhaaAgDue
namespace Go.Proofs.Ytaphhgiocahnhaa
open Go.RowKit

/-- An event of which the tick alone is told. -/
def evT (t : Int) : Ev := ⟨0, 0, 0, t, 0, 0⟩
theorem evT_ok {t : Int} (h : 0 ≤ t ∧ t < 100) : EvOk (evT t) := by unfold EvOk evT; dsimp only; omega
def three (a b c : Int) : Obj := .cells #[.int .i64 0, .int .i64 0, .int .i64 0, .int .i64 a, .int .i64 0, .int .u64 0, .int .i64 0, .int .i64 0, .int .i64 0, .int .i64 b, .int .i64 0, .int .u64 0, .int .i64 0, .int .i64 0, .int .i64 0, .int .i64 c, .int .i64 0, .int .u64 0] 47
def twoT (a b : Int) : Obj := .cells #[.int .i64 0, .int .i64 0, .int .i64 0, .int .i64 a, .int .i64 0, .int .u64 0, .int .i64 0, .int .i64 0, .int .i64 0, .int .i64 b, .int .i64 0, .int .u64 0] 47
theorem three_reads (W : World) (a b c : Int) : ReadsE (W.alloc (three a b c)) (W.alloc (three a b c)).heap.size (some ⟨W.heap.size, 0, none⟩) [evT a, evT b, evT c] := fun _ => by
  refine ⟨W.heap.size, 0, rfl, by simp, fun j hj => ?_⟩
  have hj' : j = 0 ∨ j = 1 ∨ j = 2 := by simp at hj; omega
  unfold three
  rcases hj' with rfl | rfl | rfl <;> (refine ⟨?_, ?_, ?_, ?_, ?_, ?_⟩ <;> simp [evT])
theorem twoT_reads (W : World) (a b : Int) : ReadsE (W.alloc (twoT a b)) (W.alloc (twoT a b)).heap.size (some ⟨W.heap.size, 0, none⟩) [evT a, evT b] := fun _ => by
  refine ⟨W.heap.size, 0, rfl, by simp, fun j hj => ?_⟩
  have hj' : j = 0 ∨ j = 1 := by simp at hj; omega
  unfold twoT
  rcases hj' with rfl | rfl <;> (refine ⟨?_, ?_, ?_, ?_, ?_, ?_⟩ <;> simp [evT])

theorem Dued.open {w w' : World} {F : Nat → Prop} {A p : Nat} {ts es : List Ev} {e : Ending} (h : Dued w F A ts es p e w') :
    ∃ x cap, e = .returned (.slice x ts.length cap) ∧ ts.length ≤ cap ∧ ReadsE w' w'.heap.size x ts ∧ OwnsE w' w.heap.size (.slice x ts.length cap) ts ∧ AG w' F A es p ∧ But F w w' := by
  obtain ⟨v, rfl, hO, hA, hB⟩ := h
  obtain ⟨x, cap, rfl, hc, _, hR, _⟩ := hO.form
  exact ⟨x, cap, rfl, hc, hR, hO, hA, hB⟩

end Go.Proofs.Ytaphhgiocahnhaa
