/-
  Rows of fixes of the call's own, once more: a fix's place stored; a row of fixes put behind one fix.
-/
import Derived.Test.YtpdiilfpbkmebaaFix
import Derived.Laws.AppendOwn
import Derived.Laws.AppendOwnNone
namespace Go.Proofs.Ytpdiilfpbkmebaa
open Go.RowKit

theorem flatF_ad (u : Int) : ∀ (fs : List Fx) (j : Nat), j < fs.length → (fs.flatMap fxc).set (j * 3) (.int .i64 u) = (fs.set j { fs.getD j noFx with ad := u }).flatMap fxc
  | [], j, h => by simp at h
  | s :: fs, 0, _ => by simp [fxc]
  | s :: fs, j + 1, h => by
    have ih := flatF_ad u fs j (by simpa using h)
    rw [List.flatMap_cons, List.set_append, if_neg (by simp [fxc]; omega), show (j + 1) * 3 - (fxc s).length = j * 3 by simp [fxc]; omega, ih]
    simp

section
variable {w w' : World} {base g n cap : Nat} {v : Value} {fs : List Fx}
theorem OwnsF.setAd (h : OwnsF w base (.slice (some ⟨g, 0, none⟩) n cap) fs) (hn : fs.length = n) {j : Nat} (hj : j < n) (u : Int) :
    OwnsF (w.setCell ⟨g, j * 3, none⟩ (.int .i64 u)) base (.slice (some ⟨g, 0, none⟩) n cap) (fs.set j { fs.getD j noFx with ad := u }) := by
  subst hn
  have h6 := (World.ownsRow.stored h (j * 3) (.int .i64 u)).1
  rw [flatF_ad u fs j hj] at h6
  unfold OwnsF
  rw [List.length_set]
  exact h6
theorem OwnsF.at (h : OwnsF w base (.slice (some ⟨g, 0, none⟩) n cap) fs) (hn : fs.length = n) {j : Nat} (hj : j < n) : FxAt w g (j * 3) (fs.getD j noFx) := by
  subst hn
  have hl := flatF_len fs
  have each : ∀ c, c < 3 → w.cell? ⟨g, j * 3 + c, none⟩ = (fxc (fs.getD j noFx))[c]? := fun c hc => by
    rw [World.ownsRow.cellAt h (j * 3 + c) (by omega), flatF_get fs j hj c hc]
  exact ⟨each 0 (by omega), each 1 (by omega), each 2 (by omega)⟩
theorem OwnsF.fz (h : OwnsF w base (.slice (some ⟨g, 0, none⟩) n cap) fs) (hn : fs.length = n) (o : Nat) : w.frozen? ⟨g, o, none⟩ = false := by
  subst hn
  exact World.ownsRow.frozenAt h o
/-- Where it lies. -/
theorem OwnsF.where (h : OwnsF w base v fs) : ∃ (x : Option Addr) (cap : Nat), v = .slice x fs.length cap ∧ (0 < fs.length → ∃ g, x = some ⟨g, 0, none⟩) := by
  rcases h.2 with ⟨e1, e2⟩ | ⟨g, cap, cur, e1, -⟩
  · exact ⟨none, 0, by rw [e1, e2], fun hn => by omega⟩
  · exact ⟨some ⟨g, 0, none⟩, cap, e1, fun _ => ⟨g, rfl⟩⟩
end

/-- One fix, made anew, as a row. -/
theorem ownsF_one (w : World) (s : Fx) (base : Nat) (hb : base ≤ w.heap.size) : OwnsF (w.alloc (fxO s)) base (.slice (some ⟨w.heap.size, 0, none⟩) 1 1) [s] := by
  unfold OwnsF fxO
  exact ⟨rfl, .inr ⟨w.heap.size, 1, _, rfl, hb, World.alloc_heap_new w _, Nat.le_refl _, by unfold maxLen; omega, rfl, rfl⟩⟩

/-- append(fs, gs...), both rows of fixes of the call's own (gs may be none). -/
theorem wpList_append_fxs {w : World} {ops : Array Oper} {rest : List Oper} {o : Oper} {a : Act} {Q : Exit → Act → World → Prop} (hgd : o.guard = none) (s x : Operand)
    (ho : o.op = .call { callee := .builtin .append, args := #[s, x], argTypes := #[33, 33] }) (base base' : Nat)
    (v : Value) (fs : List Fx) (hs : a.eval s = v) (hown : OwnsF w base v fs) (y : Value) (gs : List Fx) (hx : a.eval x = y) (hsrc : OwnsF w base' y gs) (hb : fs.length + gs.length ≤ 1000000) (hbase : base ≤ w.heap.size)
    (h : ∀ v' w', OwnsF w' base v' (fs ++ gs) → w.grownBy w' v.ownBlock → wpList Try.prog ops Q rest (a.put o.dst v') w') : wpList Try.prog ops Q (o :: rest) a w := by
  obtain ⟨i0, hi, hz0, hz1, hz2⟩ := info_parts info_fx
  rcases hsrc.2 with ⟨e1, e2⟩ | ⟨g, cap, cur, e1, e2, e3, e4⟩
  · obtain rfl : gs = [] := List.length_eq_zero_iff.1 e2
    subst e1
    exact wpList_append_own_none hgd s x _ ho base 43 i0 3 Try.underlying33 hi v _ _ hs hown hx (h _ _ (by rw [List.append_nil]; exact hown) ⟨rfl, rfl, rfl, Nat.le_refl _, fun _ _ _ => rfl⟩)
  · subst e1
    have hl := flatF_len gs
    refine wpList_append_own w hgd s x _ ho base 43 i0 (.agg #[.int .i64 0, .int .u64 0, .int .u64 0]) 3 24 Try.underlying33 hi hz0 hz1 hz2 rfl (by decide) v fs.length (fs.flatMap fxc) hs hown ⟨g, 0, none⟩ gs.length cap (gs.flatMap fxc) hx (by omega) ?_ ?_ (by unfold maxLen; omega) (by omega) hbase ?_
    · intro j u hj
      have hjl : j < gs.length * 3 := by
        rcases Nat.lt_or_ge j (gs.length * 3) with h | h
        · exact h
        · rw [List.getElem?_eq_none (by omega)] at hj; cases hj
      have ea : (⟨g, 0, none⟩ : Addr).add j = ⟨g, j, none⟩ := by cases j <;> simp [Addr.add]
      rw [ea, World.ownsRow.cellAt hsrc j (by omega)]
      exact hj
    · intro u hu
      obtain ⟨z, -, hz⟩ := List.mem_flatMap.1 hu
      exact fxc_one z u hz
    · intro v' w' hown' hg _
      refine h v' w' ?_ hg
      unfold OwnsF
      rw [List.length_append, List.flatMap_append]
      exact hown'

end Go.Proofs.Ytpdiilfpbkmebaa
