/-
  Rows of words of the call's own, whatever words they are: written into, and kept while another row is. No function of the program is named here.
-/
import Derived.Test.YtpdiilfpbkmebaaOwn
namespace Go.Proofs.Ytpdiilfpbkmebaa
open Go.RowKit

/-- A row of n words of the call's own, whatever they are. -/
def AnyW (w : World) (base : Nat) (v : Value) (n : Nat) : Prop := ∃ ys : List Int, ys.length = n ∧ Owns .u64 22 w base v ys

section
variable {w w' : World} {base g n cap : Nat} {v : Value}
theorem AnyW.of {xs : List Int} (h : Owns .u64 22 w base v xs) (hn : xs.length = n) : AnyW w base v n := ⟨xs, hn, h⟩
theorem AnyW.cell (h : AnyW w base (.slice (some ⟨g, 0, none⟩) n cap) n) {j : Nat} (hj : j < n) : ∃ y, w.cell? ⟨g, j, none⟩ = some (.int .u64 y) := by
  obtain ⟨ys, hn, hO⟩ := h
  exact ⟨_, hO.num hn hj⟩
theorem AnyW.melt (h : AnyW w base (.slice (some ⟨g, 0, none⟩) n cap) n) (j : Nat) : w.frozen? ⟨g, j, none⟩ = false := by
  obtain ⟨ys, hn, hO⟩ := h
  exact hO.melt hn j
theorem AnyW.put (h : AnyW w base (.slice (some ⟨g, 0, none⟩) n cap) n) (j : Nat) (u : Int) : AnyW (w.setCell ⟨g, j, none⟩ (.int .u64 u)) base (.slice (some ⟨g, 0, none⟩) n cap) n := by
  obtain ⟨ys, hn, hO⟩ := h
  exact ⟨_, by rw [List.length_set]; exact hn, hO.put hn j u⟩
theorem AnyW.still (h : AnyW w base v n) (hk : ∀ g, v.ownBlock = some g → w'.heap[g]? = w.heap[g]?) : AnyW w' base v n := by
  obtain ⟨ys, hn, hO⟩ := h
  exact ⟨ys, hn, hO.still hk⟩
theorem AnyW.inside (h : AnyW w base v n) {g : Nat} (hg : v.ownBlock = some g) : base ≤ g ∧ g < w.heap.size := by
  obtain ⟨ys, hn, hO⟩ := h
  exact hO.inside hg
theorem AnyW.below (h : AnyW w base v n) (hb : Below w.heap.size w w') : AnyW w' base v n := h.still fun g e => hb.block g (h.inside e).2
theorem AnyW.at {x : Option Addr} (h : AnyW w base (.slice x n cap) n) (h0 : 0 < n) : ∃ g, x = some ⟨g, 0, none⟩ ∧ base ≤ g ∧ g < w.heap.size := by
  obtain ⟨ys, hn, hO⟩ := h
  obtain ⟨x', c', e', -, -, -, hf⟩ := hO.form
  rw [hn] at e'
  simp only [Value.slice.injEq] at e'
  obtain ⟨rfl, -, rfl⟩ := e'
  obtain ⟨g, rfl, h1, h2⟩ := hf (by omega)
  exact ⟨g, rfl, h1, h2⟩
/-- It stays while another row, which lies ahead of its base, is written into. -/
theorem AnyW.apart (h : AnyW w base v n) {p : Addr} (hp : p.block < base) (u : Value) : AnyW (w.setCell p u) base v n := h.still fun g e => Below.heap_setCell _ _ _ _ (by have := (h.inside e).1; omega)
end

end Go.Proofs.Ytpdiilfpbkmebaa
