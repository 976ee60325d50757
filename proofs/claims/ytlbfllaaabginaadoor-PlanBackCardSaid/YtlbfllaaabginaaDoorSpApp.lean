/-
  A row of steps put behind a row of steps of the call's own.
-/
import Derived.Test.YtlbfllaaabginaaDoorStepA
import Derived.Laws.OwnMore
import Derived.Laws.AppendOwn
namespace Go.Proofs.YtlbfllaaabginaaDoor
open Go.RowKit

/-- The address x holds the cells of the steps ss (or is nil, and there are none). -/
def SrcP (w : World) (x : Option Addr) (n cap : Nat) (ss : List Sp) : Prop := n = ss.length ∧ ((x = none ∧ cap = 0 ∧ n = 0) ∨ ∃ ad, x = some ad ∧ ∀ j u, (ss.flatMap spc)[j]? = some u → w.cell? (ad.add j) = some u)
theorem OwnsP.src {w : World} {base : Nat} {v : Value} {ss : List Sp} (h : OwnsP w base v ss) : ∃ x cap, v = .slice x ss.length cap ∧ SrcP w x ss.length cap ss ∧ ReadsP w w.heap.size x ss ∧ ∀ ad, x = some ad → base ≤ ad.block ∧ ad.block < w.heap.size := by
  obtain ⟨x0, c0, ev, -, -, hr⟩ := h.form
  rcases h.2 with ⟨e1, e2⟩ | ⟨g, cap, cur, e1, e2, e3, e4, e5, e6, e7⟩
  · have ev' := ev.symm.trans e1
    simp at ev'
    obtain ⟨rfl, h2, rfl⟩ := ev'
    exact ⟨none, 0, ev, ⟨rfl, .inl ⟨rfl, rfl, by simp [h2]⟩⟩, hr, fun ad e => by cases e⟩
  · have ev' := ev.symm.trans e1
    simp at ev'
    obtain ⟨rfl, rfl⟩ := ev'
    subst e1
    have hb := h.inside (g := g) rfl
    refine ⟨_, _, rfl, ⟨rfl, .inr ⟨_, rfl, fun j u hu => ?_⟩⟩, hr, fun ad e => ?_⟩
    · have hj : j < ss.length * 5 := by
        rw [← flatP_len]
        rcases Nat.lt_or_ge j (ss.flatMap spc).length with hlt | hge
        · exact hlt
        · rw [List.getElem?_eq_none hge] at hu; cases hu
      have := World.ownsRow.cellAt h j (by omega)
      have e0 : (⟨g, 0, none⟩ : Addr).add j = ⟨g, j, none⟩ := by
        unfold Addr.add
        split
        · rename_i h0; rw [h0]
        · simp
      rw [e0, this]
      exact hu
    · cases e
      exact hb
theorem SrcP.below {w w' : World} {x : Option Addr} {n cap B : Nat} {ss : List Sp} (h : SrcP w x n cap ss) (hx : ∀ ad, x = some ad → ad.block < B) (hb : Below B w w') : SrcP w' x n cap ss := by
  obtain ⟨h1, h2 | ⟨ad, e, hc⟩⟩ := h
  · exact ⟨h1, .inl h2⟩
  · exact ⟨h1, .inr ⟨ad, e, fun j u hu => (hb.cell (p := ad.add j) (by unfold Addr.add; split <;> exact hx ad e)).trans (hc j u hu)⟩⟩

/-- A row of steps put behind a row of steps of the call's own. -/
theorem wpList_append_sps {w : World} {ops : Array Oper} {rest : List Oper} {o : Oper} {a : Act} {Q : Exit → Act → World → Prop} (hgd : o.guard = none) (s x : Operand)
    (ho : o.op = .call { callee := .builtin .append, args := #[s, x], argTypes := #[26, 26] }) (base : Nat)
    (v : Value) (ss : List Sp) (hs : a.eval s = v) (hown : OwnsP w base v ss) (xo : Option Addr) (n cap : Nat) (ys : List Sp) (hx : a.eval x = .slice xo n cap) (hsrc : SrcP w xo n cap ys) (hb : ss.length + n ≤ 1000000) (hbase : base ≤ w.heap.size)
    (h : ∀ v' w', OwnsP w' base v' (ss ++ ys) → w.grownBy w' v.ownBlock → wpList Tryd.prog ops Q rest (a.put o.dst v') w') : wpList Tryd.prog ops Q (o :: rest) a w := by
  obtain ⟨i0, hi, hz0, hz1, hz2⟩ := info_parts info_sp
  obtain ⟨rfl, ⟨rfl, rfl, h0⟩ | ⟨ad, rfl, hc⟩⟩ := hsrc
  · obtain rfl : ys = [] := List.length_eq_zero_iff.1 h0
    refine wpList_append_own_none hgd s x _ ho base 49 i0 5 Tryd.underlying26 hi v _ _ hs hown hx (h _ _ (by rw [List.append_nil]; exact hown) ⟨rfl, rfl, rfl, Nat.le_refl _, fun _ _ _ => rfl⟩)
  · refine wpList_append_own w hgd s x _ ho base 49 i0 (.agg #[.int .i64 0, .bool false, .int .i64 0, .int .i64 0, .int .i64 0]) 5 40 Tryd.underlying26 hi hz0 hz1 hz2 rfl (by decide) v ss.length (ss.flatMap spc) hs hown ad ys.length cap (ys.flatMap spc) hx (by rw [flatP_len]) hc ?_ (by unfold maxLen; omega) (by omega) hbase ?_
    · intro u hu
      obtain ⟨s, _, h2⟩ := List.mem_flatMap.1 hu
      exact spc_one s u h2
    · intro v' w' hown' hg _
      refine h v' w' ?_ hg
      unfold OwnsP
      rw [List.length_append, List.flatMap_append]
      exact hown'

end Go.Proofs.YtlbfllaaabginaaDoor
