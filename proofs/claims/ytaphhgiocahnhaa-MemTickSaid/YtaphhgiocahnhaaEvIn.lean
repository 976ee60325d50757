/-
  An event that is handed in by value.
-/
import Derived.Test.YtaphhgiocahnhaaEvOne
import Derived.Lib.SmallJoins
namespace Go.Proofs.Ytaphhgiocahnhaa
open Go.RowKit Go.Deep Go.ChangeShapes Go.WideShapes

theorem open_ev {H : Type} {enc : TypeId × Value → H} {w : World} {base : Nat} {spare : Nat → Bool} {held : Bool} {r : Reach} {b0 : Nat} {v : Value} {d : DataW H} {p : List MemPlace}
    (hv : Value.okWide Try.prog w r b0 47 v) (h : DataW.Trod enc Try.prog w base spare held 47 v d p) : ∃ s : Ev, v = evV s ∧ EvOk s := by
  obtain ⟨cs, rfl, hsz⟩ := okWide_struct Try.underlying47 hv
  rw [cells_ev] at hsz
  obtain ⟨l⟩ := cs
  obtain ⟨v0, v1, v2, v3, v4, v5, rfl⟩ := six_of (show l.length = 6 from hsz)
  obtain ⟨fuel, hf⟩ := h
  obtain ⟨y0, y1, y2, y3, y4, y5, k, g0, g1, g2, g3, g4, g5⟩ := trod_struct6 Try.underlying47 hf
  simp only [Value.cells] at g0 g1 g2 g3 g4 g5
  rw [cells_intE] at g0 g1 g2 g3 g4
  rw [cells_u64E] at g5
  obtain ⟨n0, e0, _, w0⟩ := DataW.trod_int Try.underlying3 g0
  obtain ⟨n1, e1, _, w1⟩ := DataW.trod_int Try.underlying3 g1
  obtain ⟨n2, e2, _, w2⟩ := DataW.trod_int Try.underlying3 g2
  obtain ⟨n3, e3, _, w3⟩ := DataW.trod_int Try.underlying3 g3
  obtain ⟨n4, e4, _, w4⟩ := DataW.trod_int Try.underlying3 g4
  obtain ⟨n5, e5, _, w5⟩ := DataW.trod_int Try.underlying33 g5
  simp at e0 e1 e2 e3 e4 e5
  subst e0 e1 e2 e3 e4 e5
  have b5 := bounds_u64 w5
  exact ⟨⟨n0, n1, n2, n3, n4, n5⟩, rfl, i64_of w0, i64_of w1, i64_of w2, i64_of w3, i64_of w4, by dsimp only; omega⟩

end Go.Proofs.Ytaphhgiocahnhaa
