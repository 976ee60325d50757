/-
  The comparison of a list with itself (brackenref01.Same), and rows of words whatever they are.
-/
import Derived.Test.YtmcnamlgbkbiaaaDoorRefPow
namespace Go.Proofs.YtmcnamlgbkbiaaaDoor
open Go.RowKit

theorem same_self (x y : Option Addr) (n cap cap' : Nat) (xs : List Int) (w : World) (B : Nat) (hx : Reads .u64 w B x xs) (hy : Reads .u64 w B y xs) (hn : xs.length = n) (hl : n ≤ 140737488355328) :
    Calls Tryd.prog 17 #[.slice x n cap, .slice y n cap'] w (RetQ (.bool true) w) := by
  have := same_any x y n n cap cap' xs xs w B hx hy hn hn hl hl
  rw [decide_eq_true rfl] at this
  exact this

/-- A row of words of the call's own, whatever they are. -/
def OwnsSome (w : World) (base : Nat) (v : Value) (n : Nat) : Prop := ∃ vs : List Value, w.ownsRow base 22 1 v n vs ∧ ∀ j, j < n → ∃ y, vs[j]? = some (.int .u64 y)
theorem OwnsSome.of {w : World} {base : Nat} {v : Value} {xs : List Int} (h : Owns .u64 22 w base v xs) : OwnsSome w base v xs.length := ⟨_, h, fun j hj => ⟨xs[j], by simp [hj]⟩⟩
theorem OwnsSome.cell {w : World} {base g n cap j : Nat} (h : OwnsSome w base (.slice (some ⟨g, 0, none⟩) n cap) n) (hj : j < n) : ∃ y, w.cell? ⟨g, j, none⟩ = some (.int .u64 y) := by
  obtain ⟨vs, h1, h2⟩ := h
  obtain ⟨y, hy⟩ := h2 j hj
  exact ⟨y, (h1.cellAt j (by omega)).trans hy⟩
theorem OwnsSome.frozen {w : World} {base g n cap : Nat} (h : OwnsSome w base (.slice (some ⟨g, 0, none⟩) n cap) n) (j : Nat) : w.frozen? ⟨g, j, none⟩ = false := h.choose_spec.1.frozenAt j
theorem OwnsSome.set {w : World} {base g n cap j : Nat} (h : OwnsSome w base (.slice (some ⟨g, 0, none⟩) n cap) n) (y : Int) : OwnsSome (w.setCell ⟨g, j, none⟩ (.int .u64 y)) base (.slice (some ⟨g, 0, none⟩) n cap) n := by
  obtain ⟨vs, h1, h2⟩ := h
  refine ⟨_, (h1.stored j (.int .u64 y)).1, fun i hi => ?_⟩
  rw [List.getElem?_set]
  by_cases e : j = i
  · subst e
    obtain ⟨z, hz⟩ := h2 j hi
    have hl : j < vs.length := (List.getElem?_eq_some_iff.1 hz).1
    exact ⟨y, by rw [if_pos rfl, if_pos hl]⟩
  · rw [if_neg e]; exact h2 i hi
theorem OwnsSome.keep {w w' : World} {base n : Nat} {v : Value} (h : OwnsSome w base v n) (hb : Below w.heap.size w w') : OwnsSome w' base v n := by
  obtain ⟨vs, h1, h2⟩ := h
  refine ⟨vs, ⟨h1.1, ?_⟩, h2⟩
  rcases h1.2 with h3 | ⟨g, cap, cur, e1, e2, e3, e4⟩
  · exact .inl h3
  · have hg : g < w.heap.size := by
      rcases Nat.lt_or_ge g w.heap.size with hlt | hge
      · exact hlt
      · rw [Array.getElem?_eq_none hge] at e3; cases e3
    exact .inr ⟨g, cap, cur, e1, e2, (hb.block g hg).trans e3, e4⟩

end Go.Proofs.YtmcnamlgbkbiaaaDoor
