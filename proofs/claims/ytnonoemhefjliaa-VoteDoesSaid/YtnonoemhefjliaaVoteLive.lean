/-
  The chapter's example of layer 13; one place, as a row of its own.
-/
import Derived.Test.YtnonoemhefjliaaRefCells
namespace Go.Proofs.Ytnonoemhefjliaa
open Go.RowKit

/-- A row of one place. -/
theorem one_cell {w : World} {base cap : Nat} {x : Option Addr} {p : Int} (h : Owns .i64 3 w base (.slice x 1 cap) [p]) : ∃ g, x = some ⟨g, 0, none⟩ ∧ base ≤ g ∧ g < w.heap.size ∧ w.cell? ⟨g, 0, none⟩ = some (.int .i64 p) := by
  obtain ⟨x', c', e2, -, -, -, hf⟩ := h.form
  simp only [Value.slice.injEq] at e2
  obtain ⟨rfl, -, rfl⟩ := e2
  obtain ⟨g, rfl, h1, h2⟩ := hf (by simp)
  exact ⟨g, rfl, h1, h2, by simpa using h.num rfl (j := 0) (by simp)⟩

set_option maxHeartbeats 2000000 in
theorem live13_any (w : World) : Calls Try.prog 9 #[] w (RetB (.bool true) w) := by
  have e1 : thW [5, 9, 5] = 5 := by decide
  have e2 : thP [5, 9, 5] = [1] := by decide
  have e3 : thE [5, 9, 5] = 0 := by decide
  have H1 := Lib.hid (fun W => three_any (some ⟨W.heap.size, 0, none⟩) 3 3 [5, 9, 5] (W.alloc (trio .u64 27 5 9 5)) _ (reads_trio W .u64 27 5 9 5) rfl)
  rw [e1, e2, e3] at H1
  unfold trio at H1
  have H2 := Lib.hid (fun W x y c c' B (hx : Reads .i64 W B x [1]) (hy : Reads .i64 W B y [1]) => sameInts_any x y 1 1 c c' [1] [1] W B hx hy rfl rfl (by omega) (by omega))
  have e4 : decide (([1] : List Int) = [1]) = true := by decide
  rw [e4] at H2
  clear e1 e2 e3 e4
  go_enter Try.func9, Try.ntmps9
  go_wp2_with (first
    | (go_at_call 12; refine (H1.out w).mono ?_; rintro e w1 ⟨x1, c1, rfl, hO1, hB1⟩; have B1 := Lib.hid (below_on' (below_al (Below.refl _ w) _) hB1); have R1 := Lib.hid hO1.rd; clear hO1 hB1)
    | (go_at_call 17; refine (H2.out _ _ _ _ _ _ ((R1.out.below (below_al (Below.refl _ w1) _)).more (below_al (Below.refl _ w1) _).size) (owns_one w1 .i64 3 1 0 (Nat.zero_le _)).rd).mono ?_; rintro e w2 ⟨rfl, nq, rfl⟩))
  go_ret
  exact ⟨rfl, below_draws (below_al B1.out _) _⟩

end Go.Proofs.Ytnonoemhefjliaa
