/-
  Numbers put behind a row of the call's own by an operation that may be guarded. No function of the program is named here.
-/
import Derived.Test.YtpdiilfpbkmebaaOwn
import Derived.Laws.OwnMore
import Derived.Laws.AppendOwn
namespace Go.Proofs.Ytpdiilfpbkmebaa
open Go.RowKit

/-- append(xs, ys...), xs a row of the call's own, ys nil or a row; its guard, if it has one, lets it. -/
theorem wpList_append_nums {P : Program} {w : World} {ops : Array Oper} {rest : List Oper} {o : Oper} {a : Act} {Q : Exit → Act → World → Prop} (hw : Region.wanted o (yielded ops a.tmps) = true) (s x : Operand) (t : TypeId)
    (ho : o.op = .call { callee := .builtin .append, args := #[s, x], argTypes := #[t, t] }) (base : Nat) (e : TypeId) (i : TypeInfo) (k : IntKind) (bytes : Nat) (ht : P.underlying t = some (.slice e)) (hi : P.info? e = some i) (hz : i.zero = some (.int k 0)) (hsize : i.size = 1) (hby : i.bytes = bytes)
    (v : Value) (xs : List Int) (hs : a.eval s = v) (hown : Owns k e w base v xs) (xo : Option Addr) (n cap : Nat) (ys : List Int) (hx : a.eval x = .slice xo n cap) (hsrc : Src k w xo n cap ys) (h63 : xs.length + n ≤ maxLen) (hb : (xs.length + n) * bytes ≤ 140737488355328) (hbase : base ≤ w.heap.size)
    (h : ∀ v' w', Owns k e w' base v' (xs ++ ys) → w.grownBy w' v.ownBlock → wpList P ops Q rest (a.put o.dst v') w') : wpList P ops Q (o :: rest) a w := by
  unfold wpList
  rw [if_pos hw]
  refine .inl ?_
  obtain ⟨rfl, ⟨rfl, h0, rfl⟩ | ⟨ad, rfl, hc⟩⟩ := hsrc
  · obtain rfl : ys = [] := List.length_eq_zero_iff.1 h0
    have hrun := run_append_owned_none (P := P) (w := w) base t o.type e i 1 ht hi v _ _ hown
    unfold Oper.wp
    simp [execOp, ho, resolve, invoke, builtin, hs, hx, hrun, Result.andThen]
    exact h _ _ (by rw [List.append_nil]; exact hown) ⟨rfl, rfl, rfl, Nat.le_refl _, fun _ _ _ => rfl⟩
  · refine wp_append_own w s x t ho base e i (.int k 0) 1 bytes ht hi hz hsize hby rfl (by decide) v _ _ hs hown ad ys.length cap (ys.map (Value.int k)) hx (by simp) ?_ ?_ h63 hb hbase ?_
    · intro j u hu
      have hj : j < ys.length := by
        rcases Nat.lt_or_ge j ys.length with h | h
        · exact h
        · rw [List.getElem?_eq_none (by simpa using h)] at hu; cases hu
      rw [hc j hj]
      simpa [hj] using hu
    · intro u hu
      obtain ⟨z, _, rfl⟩ := List.mem_map.1 hu
      rfl
    · intro v' w' hown' hg _
      refine h v' w' ?_ hg
      unfold Owns
      rw [List.length_append, List.map_append]
      exact hown'

end Go.Proofs.Ytpdiilfpbkmebaa
