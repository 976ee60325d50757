/-
  One event put behind a row of events, and where the row lies then: where it lay, or in a new block.
-/
import Derived.Test.YtaphhgiocahnhaaEvOne
import Derived.Deep.AppendLies
namespace Go.Proofs.Ytaphhgiocahnhaa
open Go.RowKit

theorem wpList_append_at {w : World} {ops : Array Oper} {rest : List Oper} {o : Oper} {a : Act} {Q : Exit → Act → World → Prop} (hgd : o.guard = none) (s x : Operand)
    (ho : o.op = .call { callee := .builtin .append, args := #[s, x], argTypes := #[22, 22] }) (base : Nat)
    (v : Value) (es : List Ev) (hs : a.eval s = v) (hown : OwnsE w base v es) (ad : Addr) (cap : Nat) (y : Ev) (hx : a.eval x = .slice (some ad) 1 cap) (hsrc : SrcE w (some ad) 1 cap [y]) (hb : es.length + 1 ≤ 1000000) (hbase : base ≤ w.heap.size)
    (h : ∀ v' w', OwnsE w' base v' (es ++ [y]) → w.grownBy w' v.ownBlock → (∀ g, v'.ownBlock = some g → v.ownBlock = some g ∨ w.heap.size ≤ g) → wpList Try.prog ops Q rest (a.put o.dst v') w') : wpList Try.prog ops Q (o :: rest) a w := by
  obtain ⟨i0, hi, hz0, hz1, hz2⟩ := info_parts info_ev
  obtain ⟨_, ⟨c, _⟩ | ⟨ad', e', hc⟩⟩ := hsrc
  · cases c
  · cases e'
    refine wpList_append_lies w hgd s x _ ho base 47 i0 (.agg #[.int .i64 0, .int .i64 0, .int .i64 0, .int .i64 0, .int .i64 0, .int .u64 0]) 6 48 Try.underlying22 hi hz0 hz1 hz2 rfl (by decide) v es.length (es.flatMap evc) hs hown ad 1 cap (evc y) hx rfl (by simpa using hc) (evc_one y) (by omega) (by unfold maxLen; omega) (by omega) hbase _ rfl ?_
    intro g cp w' hown' hg hat _
    refine h _ w' ?_ hg (fun g' e => ?_)
    · unfold OwnsE
      rw [List.length_append, List.flatMap_append]
      simpa using hown'
    · have : g = g' := by simpa [Value.ownBlock] using e
      subst this
      exact hat.imp id fun c => by omega

end Go.Proofs.Ytaphhgiocahnhaa
