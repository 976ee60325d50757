/-
  Arrays of two words: as values, as blocks, compared, as results. No function of the program is named here.
-/
import Derived.Test.YtpdiilfpbkmebaaOwn
import Derived.Test.YtpdiilfpbkmebaaQuietTail
import Derived.Laws.Rows
import Derived.Laws.ResultCell
import Derived.ChangeKeysEq
namespace Go.Proofs.Ytpdiilfpbkmebaa
open Go.RowKit

/-- Two words. -/
def arV (a b : Int) : Value := .agg #[.int .u64 a, .int .u64 b]
def arO (a b : Int) : Obj := .cells #[.int .u64 a, .int .u64 b] 25

/-- A block of two words. -/
structure Ar (w : World) (g : Nat) (a b : Int) : Prop where
  is : w.heap[g]? = some (.cells #[.int .u64 a, .int .u64 b] 25)
section
variable {w w' : World} {g : Nat} {a b : Int}
theorem Ar.c0 (h : Ar w g a b) : w.cell? ⟨g, 0, none⟩ = some (.int .u64 a) := by rw [cell_of_row w g 0 _ _ _ h.is]; rfl
theorem Ar.c1 (h : Ar w g a b) : w.cell? ⟨g, 1, none⟩ = some (.int .u64 b) := by rw [cell_of_row w g 1 _ _ _ h.is]; rfl
theorem Ar.fr (h : Ar w g a b) (j : Nat) : w.frozen? ⟨g, j, none⟩ = false := frozen_of_row w g j _ _ h.is
theorem Ar.lt (h : Ar w g a b) : g < w.heap.size := by
  rcases Nat.lt_or_ge g w.heap.size with hlt | hge
  · exact hlt
  · have := h.is; rw [Array.getElem?_eq_none hge] at this; cases this
theorem Ar.below {B : Nat} (h : Ar w g a b) (hb : Below B w w') (hg : g < B) : Ar w' g a b := ⟨(hb.block g hg).trans h.is⟩
theorem Ar.then (h : Ar w g a b) (hb : Below w.heap.size w w') : Ar w' g a b := h.below hb h.lt
theorem Ar.draws (h : Ar w g a b) (n : Nat) : Ar (w.drewN n) g a b := ⟨h.is⟩
theorem Ar.new (w : World) (a b : Int) : Ar (w.alloc (.cells #[.int .u64 a, .int .u64 b] 25)) w.heap.size a b := ⟨heap_alloc_new _ _⟩
theorem Ar.set (h : Ar w g a b) (a' b' : Int) : Ar ((w.setCell ⟨g, 0, none⟩ (.int .u64 a')).setCell ⟨g, 1, none⟩ (.int .u64 b')) g a' b' :=
  ⟨heap_setCell_same _ g 1 _ _ _ (heap_setCell_same _ g 0 _ _ _ h.is)⟩
theorem Ar.set0 (h : Ar w g a b) (a' : Int) : Ar (w.setCell ⟨g, 0, none⟩ (.int .u64 a')) g a' b := ⟨heap_setCell_same _ g 0 _ _ _ h.is⟩
theorem Ar.set1 (h : Ar w g a b) (b' : Int) : Ar (w.setCell ⟨g, 1, none⟩ (.int .u64 b')) g a b' := ⟨heap_setCell_same _ g 1 _ _ _ h.is⟩
theorem below_set2 {B : Nat} {w w' : World} {g : Nat} (h : Below B w w') (hg : B ≤ g) (a b : Value) : Below B w ((w'.setCell ⟨g, 0, none⟩ a).setCell ⟨g, 1, none⟩ b) :=
  (h.setCell (p := ⟨g, 0, none⟩) hg a).setCell (p := ⟨g, 1, none⟩) hg b
/-- As a slice of two. -/
theorem Ar.reads (h : Ar w g a b) {B : Nat} (hB : g < B) : Reads .u64 w B (some ⟨g, 0, none⟩) [a, b] := fun _ => by
  refine ⟨g, 0, rfl, hB, fun j hj => ?_⟩
  obtain rfl | rfl : j = 0 ∨ j = 1 := by simp at hj; omega
  · exact h.c0
  · exact h.c1
end

theorem cells_ar : (Try.prog.info? 25).map (·.size) = some 2 := by kernel_rfl

theorem under_ar : Try.prog.underlying 25 = some (.array 2 22) := by kernel_rfl

/-- Two arrays compared. -/
theorem eql_ar (a b c d : Int) (w : World) : (binOp .eql 25 (arV a b) (arV c d)).run Try.prog w = .ok (.bool (decide (a = c) && decide (b = d))) w := by
  obtain ⟨i0, hi, hz0, hz1, hz2⟩ := info_parts info_u64
  have h1 : Try.prog.cellsOf 22 = 1 := by kernel_rfl
  unfold arV
  rw [run_eql_struct, run_equalIn_array w 9999 _ _ under_ar hi, h1]
  have h2 : List.range 2 = [0, 1] := rfl
  rw [h2]
  by_cases e1 : a = c <;> by_cases e2 : b = d <;> simp [Op.eqItems, e1, e2, part, go_sem]

/-- The result of a function that tells two words and an error. -/
theorem results_ar {fn : Func} {p u : Tmp} (h : fn.results = #[.cell p 25, .tmp u]) (tmps : Array Value) (w : World) (g : Nat) (a b : Int)
    (hp : tmps.getD p undef = .pointer (some ⟨g, 0, none⟩)) (hg : Ar w g a b) : (results fn tmps).run Try.prog w = .ok (.tuple #[arV a b, tmps.getD u undef]) w := by
  rw [results_cell_tmp h, hp]
  simp [asAddr, run_loadVar_row w g _ _ _ _ _ hg.is under_ar rfl cells_ar, arV]

/-- What a call returns that tells two words, or why not. -/
def RetAr (w : World) (a b er : Int) (e : Ending) (w' : World) : Prop := e = .returned (.tuple #[arV a b, .int .i64 er]) ∧ Below w.heap.size w w'

end Go.Proofs.Ytpdiilfpbkmebaa
