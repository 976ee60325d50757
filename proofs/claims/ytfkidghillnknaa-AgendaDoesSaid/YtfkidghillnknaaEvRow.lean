/-
  A row of events of the call's own that is written into: an event stored at a place, a tick alone stored at a place; a row made anew.
-/
import Derived.Test.YtfkidghillnknaaEvOne
import Derived.Laws.MakeOwn
import Derived.ArgAppend
namespace Go.Proofs.Ytfkidghillnknaa
open Go.RowKit

theorem getD_set (es : List Ev) (j q : Nat) (x : Ev) (hj : j < es.length) : (es.set j x).getD q noEv = if q = j then x else es.getD q noEv := by
  rw [List.getD_eq_getElem?_getD, List.getElem?_set, List.getD_eq_getElem?_getD]
  by_cases c : j = q
  · subst c; rw [if_pos rfl, if_pos rfl, if_pos hj]; rfl
  · rw [if_neg c, if_neg (fun e => c e.symm)]

theorem flat_set (es : List Ev) (j : Nat) (x : Ev) (hj : j < es.length) :
    ((((((es.flatMap evc).set (j * 6) (.int .i64 x.it)).set (j * 6 + 1) (.int .i64 x.tr)).set (j * 6 + 2) (.int .i64 x.wn)).set (j * 6 + 3) (.int .i64 x.tk)).set (j * 6 + 4) (.int .i64 x.ad)).set (j * 6 + 5) (.int .u64 x.msk) = (es.set j x).flatMap evc := by
  have hl := flatE_len es
  have hl' := flatE_len (es.set j x)
  rw [List.length_set] at hl'
  apply List.ext_getElem?
  intro t
  by_cases ht : t < es.length * 6
  · obtain ⟨q, c, hc, rfl⟩ : ∃ q c, c < 6 ∧ t = q * 6 + c := ⟨t / 6, t % 6, by omega, by omega⟩
    rw [flatE_get (es.set j x) q (by rw [List.length_set]; omega) c hc, getD_set es j q x hj]
    simp only [List.getElem?_set, List.length_set, hl]
    by_cases e : q = j
    · subst e
      rw [if_pos rfl]
      obtain rfl | rfl | rfl | rfl | rfl | rfl : c = 0 ∨ c = 1 ∨ c = 2 ∨ c = 3 ∨ c = 4 ∨ c = 5 := by omega
      all_goals simp [evc]; omega
    · rw [if_neg e, if_neg (by omega), if_neg (by omega), if_neg (by omega), if_neg (by omega), if_neg (by omega), if_neg (by omega)]
      exact flatE_get es q (by omega) c hc
  · rw [List.getElem?_eq_none (by simp [hl]; omega), List.getElem?_eq_none (by rw [hl']; omega)]

theorem flat_tick (es : List Ev) (j : Nat) (u : Int) (hj : j < es.length) : (es.flatMap evc).set (j * 6 + 3) (.int .i64 u) = (es.set j { es.getD j noEv with tk := u }).flatMap evc := by
  have hl := flatE_len es
  have hl' := flatE_len (es.set j { es.getD j noEv with tk := u })
  rw [List.length_set] at hl'
  apply List.ext_getElem?
  intro t
  by_cases ht : t < es.length * 6
  · obtain ⟨q, c, hc, rfl⟩ : ∃ q c, c < 6 ∧ t = q * 6 + c := ⟨t / 6, t % 6, by omega, by omega⟩
    rw [flatE_get _ q (by rw [List.length_set]; omega) c hc, getD_set es j q _ hj]
    simp only [List.getElem?_set, hl]
    by_cases e : q = j
    · subst e
      rw [if_pos rfl]
      have h := flatE_get es q hj c hc
      obtain rfl | rfl | rfl | rfl | rfl | rfl : c = 0 ∨ c = 1 ∨ c = 2 ∨ c = 3 ∨ c = 4 ∨ c = 5 := by omega
      · rw [if_neg (by omega), h]; rfl
      · rw [if_neg (by omega), h]; rfl
      · rw [if_neg (by omega), h]; rfl
      · rw [if_pos rfl, if_pos (by omega)]; rfl
      · rw [if_neg (by omega), h]; rfl
      · rw [if_neg (by omega), h]; rfl
    · rw [if_neg e, if_neg (by omega)]
      exact flatE_get es q (by omega) c hc
  · rw [List.getElem?_eq_none (by simp [hl]; omega), List.getElem?_eq_none (by rw [hl']; omega)]

section
variable {w : World} {base g n cap : Nat} {es : List Ev}
theorem OwnsE.set6 (h : OwnsE w base (.slice (some ⟨g, 0, none⟩) n cap) es) (hn : es.length = n) {j : Nat} (hj : j < n) (x : Ev) :
    OwnsE ((((((w.setCell ⟨g, j * 6, none⟩ (.int .i64 x.it)).setCell ⟨g, j * 6 + 1, none⟩ (.int .i64 x.tr)).setCell ⟨g, j * 6 + 2, none⟩ (.int .i64 x.wn)).setCell ⟨g, j * 6 + 3, none⟩ (.int .i64 x.tk)).setCell ⟨g, j * 6 + 4, none⟩ (.int .i64 x.ad)).setCell ⟨g, j * 6 + 5, none⟩ (.int .u64 x.msk)) base (.slice (some ⟨g, 0, none⟩) n cap) (es.set j x) := by
  subst hn
  have h6 := (World.ownsRow.stored (World.ownsRow.stored (World.ownsRow.stored (World.ownsRow.stored (World.ownsRow.stored (World.ownsRow.stored h (j * 6) (.int .i64 x.it)).1 (j * 6 + 1) (.int .i64 x.tr)).1 (j * 6 + 2) (.int .i64 x.wn)).1 (j * 6 + 3) (.int .i64 x.tk)).1 (j * 6 + 4) (.int .i64 x.ad)).1 (j * 6 + 5) (.int .u64 x.msk)).1
  rw [flat_set es j x hj] at h6
  unfold OwnsE
  rw [List.length_set]
  exact h6
theorem OwnsE.setTick (h : OwnsE w base (.slice (some ⟨g, 0, none⟩) n cap) es) (hn : es.length = n) {j : Nat} (hj : j < n) (u : Int) :
    OwnsE (w.setCell ⟨g, j * 6 + 3, none⟩ (.int .i64 u)) base (.slice (some ⟨g, 0, none⟩) n cap) (es.set j { es.getD j noEv with tk := u }) := by
  subst hn
  have h6 := (World.ownsRow.stored h (j * 6 + 3) (.int .i64 u)).1
  rw [flat_tick es j u hj] at h6
  unfold OwnsE
  rw [List.length_set]
  exact h6
theorem OwnsE.at (h : OwnsE w base (.slice (some ⟨g, 0, none⟩) n cap) es) (hn : es.length = n) {j : Nat} (hj : j < n) : EvAt w g (j * 6) (es.getD j noEv) := by
  subst hn
  have each : ∀ c, c < 6 → w.cell? ⟨g, j * 6 + c, none⟩ = (evc (es.getD j noEv))[c]? := fun c hc => by
    rw [World.ownsRow.cellAt h (j * 6 + c) (by omega), flatE_get es j hj c hc]
  exact ⟨each 0 (by omega), each 1 (by omega), each 2 (by omega), each 3 (by omega), each 4 (by omega), each 5 (by omega)⟩
theorem OwnsE.fz (h : OwnsE w base (.slice (some ⟨g, 0, none⟩) n cap) es) (hn : es.length = n) (o : Nat) : w.frozen? ⟨g, o, none⟩ = false := by
  subst hn
  exact World.ownsRow.frozenAt h o
end

theorem made_ev (n : Nat) : (madeCells (Value.cells (.agg #[.int .i64 0, .int .i64 0, .int .i64 0, .int .i64 0, .int .i64 0, .int .u64 0])) (n * 6)).toList = (List.replicate n noEv).flatMap evc := by
  apply List.ext_getElem?
  intro t
  by_cases ht : t < n * 6
  · have h := flatE_get (List.replicate n noEv) (t / 6) (by simp; omega) (t % 6) (by omega)
    rw [show t / 6 * 6 + t % 6 = t by omega] at h
    have e : (List.replicate n noEv).getD (t / 6) noEv = noEv := by
      rw [List.getD_eq_getElem?_getD, List.getElem?_replicate]; split <;> rfl
    rw [h, e]
    unfold madeCells
    have h6 : (Value.cells (.agg #[.int .i64 0, .int .i64 0, .int .i64 0, .int .i64 0, .int .i64 0, .int .u64 0])).size = 6 := rfl
    rw [h6]
    simp only [Array.toList_map, Array.toList_range, List.getElem?_map, List.getElem?_range ht, Option.map_some]
    obtain c | c | c | c | c | c : t % 6 = 0 ∨ t % 6 = 1 ∨ t % 6 = 2 ∨ t % 6 = 3 ∨ t % 6 = 4 ∨ t % 6 = 5 := by omega
    all_goals rw [c]; rfl
  · rw [List.getElem?_eq_none (by simp [madeCells]; omega), List.getElem?_eq_none (by rw [flatE_len]; simp; omega)]

end Go.Proofs.Ytfkidghillnknaa
