/-
  A request that is handed in by value.
-/
import Derived.Test.YtlbfllaaabginaaDoorReq
import Derived.Lib.SmallJoins
import Derived.Deep.Strs
import Derived.SizedLaws
namespace Go.Proofs.YtlbfllaaabginaaDoor
open Go.RowKit Go.Deep Go.ChangeShapes Go.WideShapes

theorem trod_struct8 {H : Type} {enc : TypeId × Value → H} {P : Program} {w : World} {base : Nat} {spare : Nat → Bool} {held : Bool} {t : TypeId} {f0 f1 f2 f3 f4 f5 f6 f7 : Field} {fuel : Nat} {cs : List Value} {x : DataW H × List MemPlace} (ht : P.underlying t = some (.struct #[f0, f1, f2, f3, f4, f5, f6, f7])) (h : DataW.trod enc P w base spare held fuel t cs = some x) :
    ∃ (y0 y1 y2 y3 y4 y5 y6 y7 : DataW H × List MemPlace) (n : Nat), x.1 = .agg [y0.1, y1.1, y2.1, y3.1, y4.1, y5.1, y6.1, y7.1] ∧
      DataW.trod enc P w base spare held n f0.type ((cs.drop f0.offset).take (P.cellsOf f0.type)) = some y0 ∧ DataW.trod enc P w base spare held n f1.type ((cs.drop f1.offset).take (P.cellsOf f1.type)) = some y1 ∧
      DataW.trod enc P w base spare held n f2.type ((cs.drop f2.offset).take (P.cellsOf f2.type)) = some y2 ∧ DataW.trod enc P w base spare held n f3.type ((cs.drop f3.offset).take (P.cellsOf f3.type)) = some y3 ∧
      DataW.trod enc P w base spare held n f4.type ((cs.drop f4.offset).take (P.cellsOf f4.type)) = some y4 ∧ DataW.trod enc P w base spare held n f5.type ((cs.drop f5.offset).take (P.cellsOf f5.type)) = some y5 ∧
      DataW.trod enc P w base spare held n f6.type ((cs.drop f6.offset).take (P.cellsOf f6.type)) = some y6 ∧ DataW.trod enc P w base spare held n f7.type ((cs.drop f7.offset).take (P.cellsOf f7.type)) = some y7 := by
  obtain ⟨xs, n, _, rfl, hl, hlen, hf⟩ := DataW.trod_struct ht h
  match xs, hlen with
  | [y0, y1, y2, y3, y4, y5, y6, y7], _ =>
    exact ⟨y0, y1, y2, y3, y4, y5, y6, y7, n, by simp, by simpa using hf 0 f0 rfl, by simpa using hf 1 f1 rfl, by simpa using hf 2 f2 rfl, by simpa using hf 3 f3 rfl, by simpa using hf 4 f4 rfl, by simpa using hf 5 f5 rfl, by simpa using hf 6 f6 rfl, by simpa using hf 7 f7 rfl⟩

theorem eight_of {α : Type} {cs : List α} (h : cs.length = 8) : ∃ a b c d e f g i, cs = [a, b, c, d, e, f, g, i] := by
  match cs, h with
  | [a, b, c, d, e, f, g, i], _ => exact ⟨a, b, c, d, e, f, g, i, rfl⟩

theorem cells_rq : Tryd.prog.cellsOf 39 = 8 := by kernel_rfl

theorem cells_intR : Tryd.prog.cellsOf 3 = 1 := by kernel_rfl

theorem cells_boolR : Tryd.prog.cellsOf 4 = 1 := by kernel_rfl

theorem cells_u64R : Tryd.prog.cellsOf 22 = 1 := by kernel_rfl

theorem cells_axR : Tryd.prog.cellsOf 23 = 1 := by kernel_rfl

theorem cells_wsR : Tryd.prog.cellsOf 37 = 1 := by kernel_rfl

/-- A slice of words in a field. -/
theorem open_wordsR {H : Type} {enc : TypeId × Value → H} {w : World} {base : Nat} {held : Bool} {fuel : Nat} {cs : List Value} {x : DataW H × List MemPlace}
    (hf : DataW.trod enc Tryd.prog w base (fun _ => true) held fuel 37 cs = some x) : ∃ a len cap zs, cs = [.slice a len cap] ∧ RowIn .u64 w a len cap zs ∧ (a = none → len = 0 ∧ cap = 0) := by
  rcases open_ints Tryd.underlying37 Tryd.underlying22 (by kernel_rfl) hf with ⟨hcs, _⟩ | ⟨x, l, c, zs, hcs, _, hl, hm, hz, _, hcell, hwz⟩
  · exact ⟨none, 0, 0, [], hcs, .inl ⟨rfl, rfl, rfl, rfl⟩, fun _ => ⟨rfl, rfl⟩⟩
  · exact ⟨some x, l, c, zs, hcs, .inr ⟨_, rfl, hl, hm, by simpa using hz, hcell, hwz⟩, fun e => by cases e⟩

set_option maxRecDepth 100000 in
set_option maxHeartbeats 1000000 in
theorem open_rq {H : Type} {enc : TypeId × Value → H} {w : World} {base : Nat} {held : Bool} {r : Reach} {b0 : Nat} {v : Value} {d : DataW H} {p : List MemPlace}
    (hv : Value.okWide Tryd.prog w r b0 39 v) (h : DataW.Trod enc Tryd.prog w base (fun _ => true) held 39 v d p) {ts : List TypeId} {ds : List (DataW H)} (hz : (DataW.weightsEach Tryd.prog ts ds).all (· ≤ reachBytes) = true) {j : Nat} (ht : ts[j]? = some 39) (hd : ds[j]? = some d) :
    ∃ q : Rq, v = rqV q ∧ RqIn w w.heap.size q := by
  obtain ⟨cs, rfl, hsz⟩ := okWide_struct Tryd.underlying39 hv
  rw [cells_rq] at hsz
  obtain ⟨l⟩ := cs
  obtain ⟨v0, v1, v2, v3, v4, v5, v6, v7, rfl⟩ := eight_of (show l.length = 8 from hsz)
  obtain ⟨fuel, hf⟩ := h
  obtain ⟨y0, y1, y2, y3, y4, y5, y6, y7, k, hx, g0, g1, g2, g3, g4, g5, g6, g7⟩ := trod_struct8 Tryd.underlying39 hf
  simp only [Value.cells] at g0 g1 g2 g3 g4 g5 g6 g7
  rw [cells_u64R] at g0
  rw [cells_axR] at g1
  rw [cells_boolR] at g2
  rw [cells_intR] at g3 g6 g7
  rw [cells_wsR] at g4 g5
  obtain ⟨n0, e0, _, w0⟩ := DataW.trod_int Tryd.underlying22 g0
  obtain ⟨x1, l1, c1, e1⟩ := Go.Joins.slice_form Tryd.underlying23 g1
  obtain ⟨n2, e2, _⟩ := DataW.trod_bool Tryd.underlying4 g2
  obtain ⟨n3, e3, _, w3⟩ := DataW.trod_int Tryd.underlying3 g3
  obtain ⟨x4, l4, c4, z4, e4, r4, nl4⟩ := open_wordsR g4
  obtain ⟨x5, l5, c5, z5, e5, r5, nl5⟩ := open_wordsR g5
  obtain ⟨n6, e6, _, w6⟩ := DataW.trod_int Tryd.underlying3 g6
  obtain ⟨n7, e7, _, w7⟩ := DataW.trod_int Tryd.underlying3 g7
  obtain ⟨xa, hn, hc1, hc2, hr, hai⟩ := open_Axis g1 e1
  have hz' : (DataW.weightsEach Tryd.prog [22, 23, 4, 3, 37, 37, 3, 3] [y0.1, y1.1, y2.1, y3.1, y4.1, y5.1, y6.1, y7.1]).all (· ≤ reachBytes) = true := by
    refine List.all_eq_true.2 fun n hn => List.all_eq_true.1 hz n (DataW.weights_mem_each ht hd n ?_)
    rw [show d = _ from hx]
    simp only [DataW.weights, Tryd.underlying39]
    exact hn
  have nl1 : x1 = none → l1 = 0 ∧ c1 = 0 := by
    rcases open_slice Tryd.underlying23 g1 with ⟨e, _⟩ | ⟨ad, l, c, m, n, D, Pl, e, _⟩
    · rw [e1] at e
      simp at e
      exact fun _ => e.2
    · rw [e1] at e
      simp at e
      intro h
      rw [h] at e
      cases e.1
  have hlb := axis_bound g1 e1 hz' (j := 1) rfl rfl
  simp at e0 e1 e2 e3 e4 e5 e6 e7
  subst e0 e1 e2 e3 e4 e5 e6 e7
  obtain ⟨xs, -, hm4, hcp4, hml4, hy4, hw4⟩ := r4.reads
  obtain ⟨zs, -, hm5, hcp5, hml5, hy5, hw5⟩ := r5.reads
  have b0' := bounds_u64 w0
  have b3' := i64_of w3
  have b6' := i64_of w6
  have b7' := i64_of w7
  exact ⟨⟨n0, x1, l1, c1, xa, n2, n3, x4, l4, c4, xs, x5, l5, c5, zs, n6, n7⟩, rfl,
    { ax := hr, an := hn, al := hlb, ac := ⟨hc1, hc2⟩, ai := hai, yr := hy4, yn := hm4, yw := hw4, yc := ⟨hcp4, hml4⟩, zr := hy5, zn := hm5, zw := hw5, zc := ⟨hcp5, hml5⟩, pb := by dsimp only; omega, bb := by dsimp only; omega, rb := by dsimp only; omega, gb := by dsimp only; omega, xnil := nl1, ynil := nl4, znil := nl5 }⟩

end Go.Proofs.YtlbfllaaabginaaDoor
