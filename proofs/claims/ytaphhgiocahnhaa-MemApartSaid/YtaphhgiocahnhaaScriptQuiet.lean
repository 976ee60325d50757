/-
  What Quiet of package script, and of the document's, comes to.
-/
import Derived.Test.YtaphhgiocahnhaaScriptOne
namespace Go.Proofs.Ytaphhgiocahnhaa
open Go.RowKit

/-- What Quiet tells. -/
def qtB (es : List Ev) (m : Int) : Bool := decide (es.length ≤ 1024) && quiet es m
theorem qtB_ok {es : List Ev} {m : Int} (h : es.length ≤ 1024) : qtB es m = quiet es m := by unfold qtB; rw [decide_eq_true h, Bool.true_and]
theorem qtB_bad {es : List Ev} {m : Int} (h : 1024 < es.length) : qtB es m = false := by unfold qtB; rw [decide_eq_false (by omega), Bool.false_and]
theorem take_getD (es : List Ev) (k : Nat) (h : k < es.length) : es.take (k + 1) = es.take k ++ [es.getD k noEv] := by
  rw [List.take_succ_eq_append_getElem h]
  simp [h]
theorem quiet_stop {es : List Ev} {m : Int} {k : Nat} (h : k < es.length) (hn : nul (es.getD k noEv) m = false) : quiet es m = false := by
  unfold quiet
  rw [List.all_eq_false]
  refine ⟨es.getD k noEv, ?_, by rw [hn]; exact Bool.false_ne_true⟩
  rw [List.getD_eq_getElem?_getD, List.getElem?_eq_getElem h]
  exact List.getElem_mem h
theorem ret_be {a b : Bool} {e : Int} (h : a = b) : Ending.returned (.tuple #[.bool a, .int .i64 e]) = .returned (.tuple #[.bool b, .int .i64 e]) := by rw [h]

end Go.Proofs.Ytaphhgiocahnhaa
