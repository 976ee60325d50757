/-
  Boxes of variables and rows that a call made, across what a loop's book-keeping, a draw or a store elsewhere does to the world. No function of the program is named here.
-/
import Derived.Test.YtmcnamlgbkbiaaaDoorRow
import Derived.RangeFuncNested
import Derived.RangeFuncBox
namespace Go.Proofs.YtmcnamlgbkbiaaaDoor
open Go.RowKit

theorem boxed_stays {W W' : World} {row : Option Nat} {B : Nat} {t : TypeId} {v : Value} (h : Boxed W B t v) (hg : W.grownBy W' row) (hr : ∀ r, row = some r → ∃ o : Obj, W.heap[r]? = some o ∧ o.isCells = false) : Boxed W' B t v :=
  h.kept hg (fun e => by obtain ⟨o, ho, hc⟩ := hr B e.symm; rw [show W.heap[B]? = _ from h] at ho; cases ho; cases hc)
theorem owned_stays {W W' : World} {row : Option Nat} {base n size : Nat} {t : TypeId} {v : Value} {ys : List Value} (h : W.ownsRow base t size v n ys) (hg : W.grownBy W' row) (hr : ∀ r, row = some r → ∃ o : Obj, W.heap[r]? = some o ∧ o.isCells = false) : W'.ownsRow base t size v n ys := by
  refine h.kept hg ?_
  rcases h.2 with ⟨rfl, _⟩ | ⟨g, cap, cur, rfl, _, hgb, _⟩
  · exact .inl rfl
  · refine .inr fun e => ?_
    obtain ⟨o, ho, hc⟩ := hr g (by simpa [Value.ownBlock] using e.symm)
    rw [hgb] at ho; cases ho; cases hc
theorem keeps_draws (W : World) (n : Nat) : KeepsOthers W (W.drewN n) := ⟨Nat.le_refl _, fun _ _ h _ => h⟩
theorem boxed_set {W : World} {B : Nat} {t : TypeId} {v : Value} (h : Boxed W B t v) {a : Addr} (u : Value) (hne : B ≠ a.block) : Boxed (W.setCell a u) B t v := (Below.heap_setCell W a u B hne).trans h
theorem owned_set {W : World} {base n g cap : Nat} {t : TypeId} {ys : List Value} (h : W.ownsRow base t 1 (.slice (some ⟨g, 0, none⟩) n cap) n ys) {a : Addr} (u : Value) (hne : g ≠ a.block) : (W.setCell a u).ownsRow base t 1 (.slice (some ⟨g, 0, none⟩) n cap) n ys := by
  rcases h.2 with ⟨e, _⟩ | ⟨g', cap', cur, e, h1, h2, h3⟩
  · simp at e
  · simp only [Value.slice.injEq, Option.some.injEq, Addr.mk.injEq, and_true, true_and] at e
    obtain ⟨rfl, rfl⟩ := e
    exact ⟨h.1, .inr ⟨_, _, cur, rfl, h1, (Below.heap_setCell W a u g hne).trans h2, h3⟩⟩

end Go.Proofs.YtmcnamlgbkbiaaaDoor
