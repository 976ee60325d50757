/-
  What the calls of vote return, taken apart.
-/
import Derived.Test.YtpdiilfpbkmebaaVoteLive
import Derived.Test.YtpdiilfpbkmebaaMathVoteTwo
namespace Go.Proofs.Ytpdiilfpbkmebaa
open Go.RowKit

theorem Owns.source {k : IntKind} {e : TypeId} {w : World} {base n cap : Nat} {x : Option Addr} {xs : List Int} (h : Owns k e w base (.slice x n cap) xs) (hn : xs.length = n) : Src k w x n cap xs := by
  subst hn
  obtain ⟨x', c', e', hs⟩ := h.src
  simp only [Value.slice.injEq] at e'
  obtain ⟨rfl, -, rfl⟩ := e'
  exact hs

theorem RetP.open {w w' : World} {xs : List Int} {er : Int} {e : Ending} (h : RetP w xs er e w') {n : Nat} (hn : xs.length = n) :
    ∃ x c, e = .returned (.tuple #[.slice x n c, .int .i64 er]) ∧ Owns .u64 22 w' w.heap.size (.slice x n c) xs ∧ n ≤ c ∧ c ≤ maxLen ∧ Below w.heap.size w w' := by
  subst hn
  obtain ⟨v, rfl, hO, hB⟩ := h
  obtain ⟨x, c, rfl, h1, h2, -⟩ := hO.form
  exact ⟨x, c, rfl, hO, h1, h2, hB⟩

theorem RetC.open {w w' : World} {xs : List Int} {fs : List Fx} {er : Int} {e : Ending} (h : RetC w xs fs er e w') {n m : Nat} (hn : xs.length = n) (hm : fs.length = m) :
    ∃ x c y d, e = .returned (.tuple #[.slice x n c, .slice y m d, .int .i64 er]) ∧ Owns .u64 22 w' w.heap.size (.slice x n c) xs ∧ n ≤ c ∧ c ≤ maxLen ∧ ReadsF w' w'.heap.size y fs ∧ Below w.heap.size w w' := by
  subst hn
  subst hm
  obtain ⟨v1, v2, rfl, hO, hF, -, hB⟩ := h
  obtain ⟨x, c, rfl, h1, h2, -⟩ := hO.form
  obtain ⟨y, d, rfl, -, -, hR⟩ := hF.form
  exact ⟨x, c, y, d, rfl, hO, h1, h2, hR, hB⟩

theorem Reads.later {k : IntKind} {w w' : World} {x : Option Addr} {xs : List Int} (h : Reads k w w.heap.size x xs) (hb : Below w.heap.size w w') : Reads k w' w'.heap.size x xs := (h.below hb).more hb.size

end Go.Proofs.Ytpdiilfpbkmebaa
