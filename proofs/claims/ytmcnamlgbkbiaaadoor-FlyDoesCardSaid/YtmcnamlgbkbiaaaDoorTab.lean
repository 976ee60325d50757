/-
  What a row that lists the table of generators gives the walks: the table's six cells hold its numbers.
-/
import Derived.Test.YtmcnamlgbkbiaaaDoorRows
import Derived.Test.YtmcnamlgbkbiaaaDoorRoot
import Derived.ProofKit
import Derived.OpenShut
import Derived.MakeChecks
import Derived.LaidLaws
import Derived.LaidMore
namespace Go.Proofs.YtmcnamlgbkbiaaaDoor
open Go.RowKit

namespace Tab
theorem gNum : Tryd.prog.globalNamed "bracken/root.generators" = some 2 := by kernel_rfl
theorem gType : (Tryd.prog.globals[2]?).map (·.type) = some 73 := by kernel_rfl
theorem cells1 : Tryd.prog.cellsOf 22 = 1 := by kernel_rfl
theorem cells2 : Tryd.prog.cellsOf 72 = 2 := by kernel_rfl

theorem at_place {cs : List Value} {i n b : Nat} {v : Value} (hb : b < n) (h : (((cs.drop (i * n)).take n).drop b).take 1 = [v]) : cs[i * n + b]? = some v := by
  have h0 := congrArg (fun l => l[0]?) h
  simpa [List.getElem?_take, List.getElem?_drop, hb] using h0

theorem pair_at {W : World} {fuel : Nat} {cs : List Value} {d : DataW Unit × List MemPlace} {i : Nat} {a b : Int} {enc : TypeId × Value → Unit} {base : Nat} {spare : Nat → Bool} {held : Bool}
    (h : DataW.trod enc Tryd.prog W base spare held fuel 72 ((cs.drop (i * 2)).take 2) = some d) (e : d.1 = .agg [.lit (.int .u64 a), .lit (.int .u64 b)]) :
    cs[i * 2 + 0]? = some (.int .u64 a) ∧ cs[i * 2 + 1]? = some (.int .u64 b) := by
  obtain ⟨ys, m, rfl, rfl, -, hlen, hel⟩ := DataW.trod_struct Tryd.underlying72 h
  have hlen' : ys.length = 2 := hlen
  have e0 : DataW.trod enc Tryd.prog W base spare held m 22 ((((cs.drop (i * 2)).take 2).drop 0).take (Tryd.prog.cellsOf 22)) = ys[0]? := hel 0 _ rfl
  have e1 : DataW.trod enc Tryd.prog W base spare held m 22 ((((cs.drop (i * 2)).take 2).drop 1).take (Tryd.prog.cellsOf 22)) = ys[1]? := hel 1 _ rfl
  match ys, hlen', e, e0, e1 with
  | [y0, y1], _, e, e0, e1 =>
    simp only [List.map_cons, List.map_nil, DataW.agg.injEq, List.cons.injEq, and_true] at e
    rw [cells1] at e0 e1
    obtain ⟨k0, c0, x0, -⟩ := DataW.trod_int Tryd.underlying22 e0
    obtain ⟨k1, c1, x1, -⟩ := DataW.trod_int Tryd.underlying22 e1
    obtain ⟨f0, f1⟩ := e
    have k0e : k0 = a := by
      have : y0 = (.lit (.int .u64 k0), []) := x0
      rw [this] at f0; simpa using f0
    have k1e : k1 = b := by
      have : y1 = (.lit (.int .u64 k1), []) := x1
      rw [this] at f1; simpa using f1
    subst k0e
    subst k1e
    exact ⟨at_place (by omega) c0, at_place (by omega) c1⟩

theorem of_laid {W : World} (h : laidMetH Tryd.prog [("bracken/root.generators", Rows.laid_bracken_root_generators)] W) : Gl W := by
  rw [MakeChecks.laidMetH_plain _ _ _ (by kernel_rfl)] at h
  obtain ⟨ps, ⟨g0, t0, cs0, f0, p0, q0, hg0, ht0, hv0, hd0, _, _⟩, _, _⟩ := h
  obtain rfl := Option.some.inj (gNum.symm.trans hg0)
  obtain rfl := Option.some.inj (gType.symm.trans ht0)
  obtain ⟨xs, m, rfl, hx, -, hn, hel⟩ := DataW.trod_array Tryd.underlying73 hd0
  rw [cells2] at hel
  simp only [Rows.laid_bracken_root_generators, Prod.mk.injEq, DataW.agg.injEq] at hx
  have h0 := hel 0 (by decide)
  have h1 := hel 1 (by decide)
  have h2 := hel 2 (by decide)
  match xs, hn, hx, h0, h1, h2 with
  | [x0, x1, x2], _, hx, h0, h1, h2 =>
    simp only [List.map_cons, List.map_nil, List.cons.injEq, and_true] at hx
    obtain ⟨⟨y0, y1, y2⟩, -⟩ := hx
    obtain ⟨a0, b0⟩ := pair_at (d := x0) (i := 0) h0 y0.symm
    obtain ⟨a1, b1⟩ := pair_at (d := x1) (i := 1) h1 y1.symm
    obtain ⟨a2, b2⟩ := pair_at (d := x2) (i := 2) h2 y2.symm
    have hc := fun j => World.var?_cell hg0 hv0 j
    simp only [← Array.getElem?_toList] at hc
    exact ⟨(hc 0).trans a0, (hc 1).trans b0, (hc 2).trans a1, (hc 3).trans b1, (hc 4).trans a2, (hc 5).trans b2⟩
end Tab

end Go.Proofs.YtmcnamlgbkbiaaaDoor
