/-
  Several texts in one: Own, OwnTwo, Pair, MathSums, CodeSums, ArApart, RefSums.
-/
import Derived.Test.YtlbfllaaabginaaDoorRows2
import Derived.Deep.AppendLies
import Derived.Laws.OwnMore
import Derived.Laws.AppendOwn
import Derived.Laws.Rows
import Derived.Laws.ResultCell
import Derived.ChangeKeysEq
import Derived.BigRegion
import Derived.Shelf.Abstract
import Derived.Below

/-!   Rows of numbers of the call's own, once more: a number stored at a place; numbers put behind such a row, and where it lies then. No function of the program is named here.
-/

namespace Go.Proofs.YtlbfllaaabginaaDoor
open Go.RowKit

section
variable {k : IntKind} {e : TypeId} {w w' : World} {base g n cap : Nat} {v : Value} {xs : List Int}
theorem Owns.put (h : Owns k e w base (.slice (some ⟨g, 0, none⟩) n cap) xs) (hn : xs.length = n) (j : Nat) (u : Int) : Owns k e (w.setCell ⟨g, j, none⟩ (.int k u)) base (.slice (some ⟨g, 0, none⟩) n cap) (xs.set j u) := by
  subst hn
  have := (World.ownsRow.stored h j (.int k u)).1
  rw [map_set] at this
  unfold Owns
  rw [List.length_set]
  exact this
theorem Owns.num (h : Owns k e w base (.slice (some ⟨g, 0, none⟩) n cap) xs) (hn : xs.length = n) {j : Nat} (hj : j < n) : w.cell? ⟨g, j, none⟩ = some (.int k (xs.getD j 0)) := by
  subst hn
  rw [World.ownsRow.cellAt h j (by omega)]
  simp [hj]
theorem Owns.melt (h : Owns k e w base (.slice (some ⟨g, 0, none⟩) n cap) xs) (hn : xs.length = n) (j : Nat) : w.frozen? ⟨g, j, none⟩ = false := by
  subst hn
  exact World.ownsRow.frozenAt h j
/-- A row stays, if its block does. -/
theorem Owns.still (h : Owns k e w base v xs) (hk : ∀ g, v.ownBlock = some g → w'.heap[g]? = w.heap[g]?) : Owns k e w' base v xs := by
  refine ⟨h.1, ?_⟩
  rcases h.2 with h2 | ⟨g, cap, cur, e1, e2, e3, e4⟩
  · exact .inl h2
  · exact .inr ⟨g, cap, cur, e1, e2, (hk g (by rw [e1]; rfl)).trans e3, e4⟩
theorem Owns.inside (h : Owns k e w base v xs) {g : Nat} (hg : v.ownBlock = some g) : base ≤ g ∧ g < w.heap.size := World.ownsRow.lt h g hg
theorem Owns.rd {x : Option Addr} (h : Owns k e w base (.slice x n cap) xs) : Reads k w w.heap.size x xs := by
  obtain ⟨x', c', e', _, _, hrd, _⟩ := h.form
  injection e' with e1
  rw [e1]
  exact hrd
theorem Owns.len {x : Option Addr} (h : Owns k e w base (.slice x n cap) xs) : xs.length = n := by
  obtain ⟨x', c', e', _⟩ := h.form
  injection e' with _ e1
  exact e1.symm
/-- A row without numbers, made with room. -/
theorem Owns.room (w : World) (k : IntKind) (e : TypeId) (base : Nat) (hb : base ≤ w.heap.size) : Owns k e (w.alloc (.cells #[] e)) base (.slice (some ⟨w.heap.size, 0, none⟩) 0 0) [] :=
  ⟨rfl, .inr ⟨w.heap.size, 0, #[], rfl, hb, World.alloc_heap_new w _, Nat.le_refl _, by unfold maxLen; omega, rfl, rfl⟩⟩
end

theorem getD_put (xs : List Int) (i j : Nat) (u : Int) (hi : i < xs.length) : (xs.set i u).getD j 0 = if j = i then u else xs.getD j 0 := by
  rw [List.getD_eq_getElem?_getD, List.getElem?_set, List.getD_eq_getElem?_getD]
  by_cases c : i = j
  · subst c; rw [if_pos rfl, if_pos rfl, if_pos hi]; rfl
  · rw [if_neg c, if_neg (fun e => c e.symm)]
theorem Words.put {xs : List Int} (h : Words xs) (i : Nat) {u : Int} (h0 : 0 ≤ u) (h1 : u < 18446744073709551616) : Words (xs.set i u) := fun j => by
  by_cases hi : i < xs.length
  · rw [getD_put xs i j u hi]
    split
    · exact ⟨h0, h1⟩
    · exact h j
  · rw [List.set_eq_of_length_le (by omega)]; exact h j

/-- append(xs, ys...), xs a row of the call's own, ys a slice with an address: and where the row lies then. -/
theorem wpList_append_num {P : Program} {w : World} {ops : Array Oper} {rest : List Oper} {o : Oper} {a : Act} {Q : Exit → Act → World → Prop} (hgd : o.guard = none) (s x : Operand) (t : TypeId)
    (ho : o.op = .call { callee := .builtin .append, args := #[s, x], argTypes := #[t, t] }) (base : Nat) (e : TypeId) (i : TypeInfo) (k : IntKind) (bytes : Nat) (ht : P.underlying t = some (.slice e)) (hi : P.info? e = some i) (hz : i.zero = some (.int k 0)) (hsize : i.size = 1) (hby : i.bytes = bytes)
    (v : Value) (xs : List Int) (hs : a.eval s = v) (hown : Owns k e w base v xs) (ad : Addr) (n cap : Nat) (ys : List Int) (hx : a.eval x = .slice (some ad) n cap) (hsrc : Src k w (some ad) n cap ys) (hn : 0 < n) (h63 : xs.length + n ≤ maxLen) (hb : (xs.length + n) * bytes ≤ 140737488355328) (hbase : base ≤ w.heap.size)
    (h : ∀ v' w', Owns k e w' base v' (xs ++ ys) → w.grownBy w' v.ownBlock → (∀ g, v'.ownBlock = some g → v.ownBlock = some g ∨ w.heap.size ≤ g) → wpList P ops Q rest (a.put o.dst v') w') : wpList P ops Q (o :: rest) a w := by
  obtain ⟨rfl, ⟨c, _⟩ | ⟨ad', e', hc⟩⟩ := hsrc
  · cases c
  · cases e'
    refine wpList_append_lies w hgd s x t ho base e i (.int k 0) 1 bytes ht hi hz hsize hby rfl (by decide) v _ _ hs hown ad ys.length cap (ys.map (Value.int k)) hx (by simp) ?_ ?_ hn h63 hb hbase _ rfl ?_
    · intro j u hu
      have hj : j < ys.length := by
        rcases Nat.lt_or_ge j ys.length with h | h
        · exact h
        · rw [List.getElem?_eq_none (by simpa using h)] at hu; cases hu
      rw [hc j hj]
      simpa [hj] using hu
    · intro u hu
      obtain ⟨z, _, rfl⟩ := List.mem_map.1 hu
      rfl
    · intro g cp w' hown' hg hat _
      refine h _ w' ?_ hg (fun g' e => ?_)
      · unfold Owns
        rw [List.length_append, List.map_append]
        exact hown'
      · have : g = g' := by simpa [Value.ownBlock] using e
        subst this
        exact hat.imp id fun c => by omega

end Go.Proofs.YtlbfllaaabginaaDoor

/-!   Numbers put behind a row of the call's own by an operation that may be guarded. No function of the program is named here.
-/

namespace Go.Proofs.YtlbfllaaabginaaDoor
open Go.RowKit

/-- append(xs, ys...), xs a row of the call's own, ys nil or a row; its guard, if it has one, lets it. -/
theorem wpList_append_nums {P : Program} {w : World} {ops : Array Oper} {rest : List Oper} {o : Oper} {a : Act} {Q : Exit → Act → World → Prop} (hw : Region.wanted o (yielded ops a.tmps) = true) (s x : Operand) (t : TypeId)
    (ho : o.op = .call { callee := .builtin .append, args := #[s, x], argTypes := #[t, t] }) (base : Nat) (e : TypeId) (i : TypeInfo) (k : IntKind) (bytes : Nat) (ht : P.underlying t = some (.slice e)) (hi : P.info? e = some i) (hz : i.zero = some (.int k 0)) (hsize : i.size = 1) (hby : i.bytes = bytes)
    (v : Value) (xs : List Int) (hs : a.eval s = v) (hown : Owns k e w base v xs) (xo : Option Addr) (n cap : Nat) (ys : List Int) (hx : a.eval x = .slice xo n cap) (hsrc : Src k w xo n cap ys) (h63 : xs.length + n ≤ maxLen) (hb : (xs.length + n) * bytes ≤ 140737488355328) (hbase : base ≤ w.heap.size)
    (h : ∀ v' w', Owns k e w' base v' (xs ++ ys) → w.grownBy w' v.ownBlock → wpList P ops Q rest (a.put o.dst v') w') : wpList P ops Q (o :: rest) a w := by
  unfold wpList
  rw [if_pos hw]
  refine .inl ?_
  obtain ⟨rfl, ⟨rfl, h0, rfl⟩ | ⟨ad, rfl, hc⟩⟩ := hsrc
  · obtain rfl : ys = [] := List.length_eq_zero_iff.1 h0
    have hrun := run_append_owned_none (P := P) (w := w) base t o.type e i 1 ht hi v _ _ hown
    unfold Oper.wp
    simp [execOp, ho, resolve, invoke, builtin, hs, hx, hrun, Result.andThen]
    exact h _ _ (by rw [List.append_nil]; exact hown) ⟨rfl, rfl, rfl, Nat.le_refl _, fun _ _ _ => rfl⟩
  · refine wp_append_own w s x t ho base e i (.int k 0) 1 bytes ht hi hz hsize hby rfl (by decide) v _ _ hs hown ad ys.length cap (ys.map (Value.int k)) hx (by simp) ?_ ?_ h63 hb hbase ?_
    · intro j u hu
      have hj : j < ys.length := by
        rcases Nat.lt_or_ge j ys.length with h | h
        · exact h
        · rw [List.getElem?_eq_none (by simpa using h)] at hu; cases hu
      rw [hc j hj]
      simpa [hj] using hu
    · intro u hu
      obtain ⟨z, _, rfl⟩ := List.mem_map.1 hu
      rfl
    · intro v' w' hown' hg _
      refine h v' w' ?_ hg
      unfold Owns
      rw [List.length_append, List.map_append]
      exact hown'

end Go.Proofs.YtlbfllaaabginaaDoor

/-!   Arrays of two words: as values, as blocks, compared, as results. No function of the program is named here.
-/

namespace Go.Proofs.YtlbfllaaabginaaDoor
open Go.RowKit

end Go.Proofs.YtlbfllaaabginaaDoor

/-!   Both sums of words, and what Sums tells, as plain mathematics.
-/

namespace Go.Proofs.YtlbfllaaabginaaDoor
open Go.RowKit

namespace Cd

/-- The sum of the first k numbers, and that of these times their places, counted from 1. -/
def S0 (xs : List Int) : Nat → Int
  | 0 => 0
  | k + 1 => S0 xs k + xs.getD k 0
def S1 (xs : List Int) : Nat → Int
  | 0 => 0
  | k + 1 => S1 xs k + ((k : Int) + 1) * xs.getD k 0
def s0 (p : Int) (xs : List Int) : Int := S0 xs xs.length % p
def s1 (p : Int) (xs : List Int) : Int := S1 xs xs.length % p

/-- What Sums tells: why not, the sums. -/
def smE (p : Int) (n : Nat) : Int := if Fp.kn p = false then 2 else if 4096 < n then 1 else 0
def sm0 (p : Int) (xs : List Int) : Int := if smE p xs.length = 0 then s0 p xs else 0
def sm1 (p : Int) (xs : List Int) : Int := if smE p xs.length = 0 then s1 p xs else 0

end Cd

end Go.Proofs.YtlbfllaaabginaaDoor

/-!   What code.Sums comes to: each of both sums by a closure.
-/

namespace Go.Proofs.YtlbfllaaabginaaDoor
open Go.RowKit Go.Shelf

/-- A callee's contract, met behind draws that are counted together. -/
theorem quiet_more {P : Program} {f : FuncId} {args : Array Value} {w : World} {q a : Nat} {v : Value} (h : Calls P f args (w.drewN (q + a)) (RetQ v (w.drewN (q + a)))) :
    Calls P f args (w.drewN (q + a)) fun e w'' => e = .returned v ∧ ∃ n, w'' = w.drewN (q + n) :=
  h.mono fun _ _ ⟨he, m, hm⟩ => ⟨he, a + m, by rw [hm, World.drewN_drewN, Nat.add_assoc]⟩

end Go.Proofs.YtlbfllaaabginaaDoor

/-!   A pair of words stays as it is when another block is written into. No function of the program is named here.
-/

namespace Go.Proofs.YtlbfllaaabginaaDoor
open Go.RowKit

end Go.Proofs.YtlbfllaaabginaaDoor

/-!   What the document's Sums of layer 14 come to (brackenref14): the same.
-/

namespace Go.Proofs.YtlbfllaaabginaaDoor
open Go.RowKit

end Go.Proofs.YtlbfllaaabginaaDoor
