/-
  'append(xs, ys...)' where it comes up in a region that draws its order, or at a list of operations: xs a row of the call's own, ys a slice with an address. No program is named here.
-/
import Derived.Test.YtmcnamlgbkbiaaaDoorRow
namespace Go.Proofs.YtmcnamlgbkbiaaaDoor
open Go.RowKit

/-- 'append(xs, ys...)' where it comes up in a region that draws its order: xs a row of the call's own, ys a slice with an address. -/
theorem step_append_src {P : Program} {w : World} {ops : Array Oper} {o : Oper} {a : Act} {K : Act → World → Prop} {Q : Exit → Act → World → Prop} {E : Prop} (hw : Region.wanted o (yielded ops a.tmps) = true) (s x : Operand) (t : TypeId)
    (ho : o.op = .call { callee := .builtin .append, args := #[s, x], argTypes := #[t, t] }) (base : Nat) (e : TypeId) (i : TypeInfo) (k : IntKind) (bytes : Nat) (ht : P.underlying t = some (.slice e)) (hi : P.info? e = some i) (hz : i.zero = some (.int k 0)) (hsize : i.size = 1) (hby : i.bytes = bytes)
    (v : Value) (xs : List Int) (hs : a.eval s = v) (hown : Owns k e w base v xs) (ad : Addr) (n cap : Nat) (ys : List Int) (hx : a.eval x = .slice (some ad) n cap) (hsrc : Src k w (some ad) n cap ys) (h63 : xs.length + n ≤ maxLen) (hb : (xs.length + n) * bytes ≤ 140737488355328) (hbase : base ≤ w.heap.size)
    (h : ∀ v' w', Owns k e w' base v' (xs ++ ys) → w.grownBy w' v.ownBlock → K (a.put o.dst v') w') : if Region.wanted o (yielded ops a.tmps) = true then Oper.wp P o a w K Q else E := by
  rw [if_pos hw]
  obtain ⟨rfl, ⟨h0, _⟩ | ⟨ad', e', hc⟩⟩ := hsrc
  · cases h0
  · cases e'
    refine wp_append_own w s x t ho base e i (.int k 0) 1 bytes ht hi hz hsize hby rfl (by decide) v _ _ hs hown ad ys.length cap (ys.map (Value.int k)) hx (by simp) ?_ ?_ h63 hb hbase ?_
    · intro j u hu
      have hj : j < ys.length := by
        rcases Nat.lt_or_ge j ys.length with h | h
        · exact h
        · rw [List.getElem?_eq_none (by simpa using h)] at hu; cases hu
      rw [hc j hj]
      simpa [hj] using hu
    · intro u hu
      obtain ⟨z, _, rfl⟩ := List.mem_map.1 hu
      rfl
    · intro v' w' hown' hg _
      refine h v' w' ?_ hg
      unfold Owns
      rw [List.length_append, List.map_append]
      exact hown'

/-- The same at a list of operations: its guard, if it has one, lets it. -/
theorem wpList_append_src {P : Program} {w : World} {ops : Array Oper} {rest : List Oper} {o : Oper} {a : Act} {Q : Exit → Act → World → Prop} (hw : Region.wanted o (yielded ops a.tmps) = true) (s x : Operand) (t : TypeId)
    (ho : o.op = .call { callee := .builtin .append, args := #[s, x], argTypes := #[t, t] }) (base : Nat) (e : TypeId) (i : TypeInfo) (k : IntKind) (bytes : Nat) (ht : P.underlying t = some (.slice e)) (hi : P.info? e = some i) (hz : i.zero = some (.int k 0)) (hsize : i.size = 1) (hby : i.bytes = bytes)
    (v : Value) (xs : List Int) (hs : a.eval s = v) (hown : Owns k e w base v xs) (ad : Addr) (n cap : Nat) (ys : List Int) (hx : a.eval x = .slice (some ad) n cap) (hsrc : Src k w (some ad) n cap ys) (h63 : xs.length + n ≤ maxLen) (hb : (xs.length + n) * bytes ≤ 140737488355328) (hbase : base ≤ w.heap.size)
    (h : ∀ v' w', Owns k e w' base v' (xs ++ ys) → w.grownBy w' v.ownBlock → wpList P ops Q rest (a.put o.dst v') w') : wpList P ops Q (o :: rest) a w := by
  have := step_append_src (Q := Q) (E := True) hw s x t ho base e i k bytes ht hi hz hsize hby v xs hs hown ad n cap ys hx hsrc h63 hb hbase h
  rw [if_pos hw] at this
  unfold wpList
  rw [if_pos hw]
  exact .inl this

end Go.Proofs.YtmcnamlgbkbiaaaDoor
