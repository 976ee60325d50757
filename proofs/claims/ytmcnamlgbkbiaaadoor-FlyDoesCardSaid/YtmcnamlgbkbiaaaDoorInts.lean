/-
  Slices of integers, once more: parts of them, joined ones, the comparison of two. What every layer beyond the third needs of them.
-/
import Derived.Test.YtmcnamlgbkbiaaaDoorRow
import Derived.Test.YtmcnamlgbkbiaaaDoorSince
import Derived.Test.YtmcnamlgbkbiaaaDoorBoxes
namespace Go.Proofs.YtmcnamlgbkbiaaaDoor
open Go.RowKit

theorem cast_mod (m : Nat) (r : Nat) : (m : Int) % (r : Int) = ((m % r : Nat) : Int) := (Int.natCast_emod m r).symm

theorem cast_div (m : Nat) (r : Nat) : (m : Int) / (r : Int) = ((m / r : Nat) : Int) := (Int.natCast_ediv m r).symm

theorem ret_b {a b : Bool} (h : a = b) : Ending.returned (.bool a) = .returned (.bool b) := by rw [h]

theorem info_int : (Tryd.prog.info? 3).map (fun i => (i.zero, i.size, i.bytes)) = some (some (.int .i64 0), 1, 8) := by kernel_rfl

/-- 'append(xs, ys...)', xs a row of the call's own, ys nil or a row. -/
theorem wpList_append_list {P : Program} {w : World} {ops : Array Oper} {rest : List Oper} {o : Oper} {a : Act} {Q : Exit → Act → World → Prop} (hgd : o.guard = none) (s x : Operand) (t : TypeId)
    (ho : o.op = .call { callee := .builtin .append, args := #[s, x], argTypes := #[t, t] }) (base : Nat) (e : TypeId) (i : TypeInfo) (k : IntKind) (bytes : Nat) (ht : P.underlying t = some (.slice e)) (hi : P.info? e = some i) (hz : i.zero = some (.int k 0)) (hsize : i.size = 1) (hby : i.bytes = bytes)
    (v : Value) (xs : List Int) (hs : a.eval s = v) (hown : Owns k e w base v xs) (xo : Option Addr) (n cap : Nat) (ys : List Int) (hx : a.eval x = .slice xo n cap) (hsrc : Src k w xo n cap ys) (h63 : xs.length + n ≤ maxLen) (hb : (xs.length + n) * bytes ≤ 140737488355328) (hbase : base ≤ w.heap.size)
    (h : ∀ v' w', Owns k e w' base v' (xs ++ ys) → w.grownBy w' v.ownBlock → wpList P ops Q rest (a.put o.dst v') w') : wpList P ops Q (o :: rest) a w := by
  obtain ⟨rfl, ⟨rfl, h0, rfl⟩ | ⟨ad, rfl, hc⟩⟩ := hsrc
  · obtain rfl : ys = [] := List.length_eq_zero_iff.1 h0
    exact wpList_append_own_none hgd s x t ho base e i 1 ht hi v _ _ hs hown hx (h _ _ (by rw [List.append_nil]; exact hown) ⟨rfl, rfl, rfl, Nat.le_refl _, fun _ _ _ => rfl⟩)
  · refine wpList_append_own w hgd s x t ho base e i (.int k 0) 1 bytes ht hi hz hsize hby rfl (by decide) v _ _ hs hown ad ys.length cap (ys.map (Value.int k)) hx (by simp) ?_ ?_ h63 hb hbase ?_
    · intro j u hu
      have hj : j < ys.length := by
        rcases Nat.lt_or_ge j ys.length with h | h
        · exact h
        · rw [List.getElem?_eq_none (by simpa using h)] at hu; cases hu
      rw [hc j hj]
      simpa [hj] using hu
    · intro u hu
      obtain ⟨z, _, rfl⟩ := List.mem_map.1 hu
      rfl
    · intro v' w' hown' hg _
      refine h v' w' ?_ hg
      unfold Owns
      rw [List.length_append, List.map_append]
      exact hown'

theorem Owns.src {k : IntKind} {e : TypeId} {w : World} {base : Nat} {v : Value} {xs : List Int} (h : Owns k e w base v xs) : ∃ x cap, v = .slice x xs.length cap ∧ Src k w x xs.length cap xs := by
  rcases h.2 with ⟨e1, e2⟩ | ⟨g, cap, cur, e1, _⟩
  · exact ⟨none, 0, by rw [e1, e2], rfl, .inl ⟨rfl, e2, rfl⟩⟩
  · refine ⟨some ⟨g, 0, none⟩, cap, e1, rfl, .inr ⟨_, rfl, fun j hj => ?_⟩⟩
    subst e1
    have hc := World.ownsRow.cellAt h j (by omega)
    have ea : (⟨g, 0, none⟩ : Addr).add j = ⟨g, j, none⟩ := by cases j <;> simp [Addr.add]
    rw [ea, hc]
    simp [List.getD_eq_getElem?_getD, hj]

theorem Src.keep {k : IntKind} {w w' : World} {x : Option Addr} {n cap : Nat} {xs : List Int} (h : Src k w x n cap xs) (hb : Below w.heap.size w w') : Src k w' x n cap xs := by
  refine ⟨h.1, h.2.imp id fun ⟨ad, e, hc⟩ => ⟨ad, e, fun j hj => ?_⟩⟩
  exact (hb.cell (World.block_lt_of_cell? _ _ (hc j hj))).trans (hc j hj)

/-- A slice of one number, made anew. -/
theorem owns_one (w : World) (k : IntKind) (e : TypeId) (u : Int) (base : Nat) (hb : base ≤ w.heap.size) : Owns k e (w.alloc (.cells #[.int k u] e)) base (.slice (some ⟨w.heap.size, 0, none⟩) 1 1) [u] :=
  ⟨rfl, .inr ⟨w.heap.size, 1, #[.int k u], rfl, hb, World.alloc_heap_new w _, Nat.le_refl _, by unfold maxLen; omega, rfl, rfl⟩⟩

theorem ret_i {a b : Int} (h : a = b) : Ending.returned (.int .i64 a) = .returned (.int .i64 b) := by rw [h]

theorem Reads.take {k : IntKind} {w : World} {B : Nat} {x : Option Addr} {xs : List Int} (h : Reads k w B x xs) (i : Nat) : Reads k w B x (xs.take i) := fun hn => by
  obtain ⟨b, off, e, hb, hc⟩ := h (by simp at hn; omega)
  refine ⟨b, off, e, hb, fun j hj => ?_⟩
  have hj' : j < i ∧ j < xs.length := by simp at hj; omega
  rw [hc j hj'.2]
  simp [List.getD_eq_getElem?_getD, hj'.1]

theorem Reads.drop {k : IntKind} {w : World} {B : Nat} {b off : Nat} {xs : List Int} (h : Reads k w B (some ⟨b, off, none⟩) xs) (i : Nat) : Reads k w B (some ⟨b, off + i, none⟩) (xs.drop i) := fun hn => by
  obtain ⟨b', off', e, hb, hc⟩ := h (by simp at hn; omega)
  cases e
  refine ⟨b, off + i, rfl, hb, fun j hj => ?_⟩
  have hj' : i + j < xs.length := by simp at hj; omega
  rw [Nat.add_assoc, hc (i + j) hj']
  simp [List.getD_eq_getElem?_getD]
theorem i64_of {n : Int} (h : (Lit.int .i64 n).wf = true) : -9223372036854775808 ≤ n ∧ n < 9223372036854775808 := by
  have := bounds_i64 h
  omega
theorem u8_of {n : Int} (h : (Lit.int .u8 n).wf = true) : 0 ≤ n ∧ n < 256 := by
  have := bounds_u8 h
  omega

/-- What stands behind the first i numbers of a slice. -/
theorem Reads.behind {k : IntKind} {w : World} {B : Nat} {b off : Nat} {xs : List Int} (h : Reads k w B (some ⟨b, off, none⟩) xs) {cap : Nat} (hc : xs.length ≤ cap) (i : Nat) : Reads k w B (if cap = i then some ⟨b, off, none⟩ else some ⟨b, off + i, none⟩) (xs.drop i) := by
  by_cases e : cap = i
  · rw [List.drop_eq_nil_of_le (by omega)]; exact Reads.nil
  · rw [if_neg e]; exact h.drop i

/-- A slice with an address, as a source of append. -/
theorem Reads.src {k : IntKind} {w : World} {B : Nat} {ad : Addr} {xs : List Int} (h : Reads k w B (some ad) xs) (cap : Nat) : Src k w (some ad) xs.length cap xs := by
  refine ⟨rfl, .inr ⟨ad, rfl, fun j hj => ?_⟩⟩
  obtain ⟨b, off, e, _, hc⟩ := h (by omega)
  cases e
  have ea : (⟨b, off, none⟩ : Addr).add j = ⟨b, off + j, none⟩ := by cases j <;> simp [Addr.add]
  rw [ea]
  exact hc j hj

/-- A slice of numbers that came in reads as a list of numbers. -/
theorem RowIn.readsI {w : World} {a : Option Addr} {len cap : Nat} {zs : List Int} (h : RowIn .i64 w a len cap zs) : ∃ xs, xs = zs.take len ∧ xs.length = len ∧ len ≤ cap ∧ cap ≤ maxLen ∧ Reads .i64 w w.heap.size a xs ∧ Src .i64 w a len cap xs := by
  rcases h with ⟨rfl, rfl, rfl, rfl⟩ | ⟨x, rfl, h1, h2, h3, h4, h5⟩
  · exact ⟨[], rfl, rfl, Nat.le_refl _, by unfold maxLen; omega, Reads.nil, rfl, .inl ⟨rfl, rfl, rfl⟩⟩
  · refine ⟨zs.take len, rfl, by simp; omega, h1, h2, fun hn => ?_, by simp; omega, .inr ⟨x, rfl, fun j hj => ?_⟩⟩
    · have hn' : 0 < zs.length := by simp at hn; omega
      obtain ⟨b, off, rfl, hc⟩ := ints_at h4 hn'
      refine ⟨b, off, rfl, ?_, fun j hj => ?_⟩
      · exact World.block_lt_of_cell? _ _ (hc 0 hn')
      · have hj' : j < len ∧ j < zs.length := by simp at hj; omega
        rw [hc j hj'.2]; simp [hj'.1]
    · rw [h4 j (by omega)]; simp [hj]

/-- The slice of one number that is built ahead of an append. -/
theorem src_one (w : World) (k : IntKind) (e : TypeId) (u : Int) : Src k (w.alloc (.cells #[.int k u] e)) (some ⟨w.heap.size, 0, none⟩) 1 1 [u] := by
  refine ⟨rfl, .inr ⟨_, rfl, fun j hj => ?_⟩⟩
  obtain rfl : j = 0 := by omega
  have hc := World.ownsRow.cellAt (owns_one w k e u w.heap.size (Nat.le_refl _)) 0 (by simp)
  have ea : (⟨w.heap.size, 0, none⟩ : Addr).add 0 = ⟨w.heap.size, 0, none⟩ := by simp [Addr.add]
  rw [ea, hc]
  rfl
theorem Owns.alloc {k : IntKind} {e : TypeId} {w : World} {base : Nat} {v : Value} {xs : List Int} (h : Owns k e w base v xs) (o : Obj) : Owns k e (w.alloc o) base v xs := World.ownsRow.alloc h o

end Go.Proofs.YtmcnamlgbkbiaaaDoor
