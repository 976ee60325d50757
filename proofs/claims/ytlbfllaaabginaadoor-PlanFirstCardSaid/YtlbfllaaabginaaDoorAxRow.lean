/-
  Rows of axes of the call's own: copied, and one number of one axis stored.
-/
import Derived.Test.YtlbfllaaabginaaDoorGrids
import Derived.Test.YtlbfllaaabginaaDoorPairs
import Derived.Laws.Rows
import Derived.Laws.OwnMore
import Derived.Laws.AppendOwn
namespace Go.Proofs.YtlbfllaaabginaaDoor
open Go.RowKit

def axc (u : Ax) : List Value := [.int .i64 u.n, .bool u.neg]
/-- The value v is a slice of the axes xa in a row that lies at or beyond block base, and nobody else's. -/
def OwnsAx (w : World) (base : Nat) (v : Value) (xa : List Ax) : Prop := w.ownsRow base 53 2 v xa.length (xa.flatMap axc)
/-- The address x holds the cells of the axes xa (or is nil, and there are none). -/
def SrcA (w : World) (x : Option Addr) (n cap : Nat) (xa : List Ax) : Prop := n = xa.length ∧ ((x = none ∧ n = 0 ∧ cap = 0) ∨ ∃ ad, x = some ad ∧ ∀ j u, (xa.flatMap axc)[j]? = some u → w.cell? (ad.add j) = some u)

theorem flatA_len (xa : List Ax) : (xa.flatMap axc).length = xa.length * 2 := by
  induction xa with
  | nil => rfl
  | cons s ss ih => rw [List.flatMap_cons, List.length_append, ih]; simp [axc]; omega
theorem flatA_get : ∀ (xa : List Ax) (j : Nat), j < xa.length → ∀ c, c < 2 → (xa.flatMap axc)[j * 2 + c]? = (axc (xa.getD j noAx))[c]?
  | [], j, h, _, _ => by simp at h
  | s :: ss, 0, _, c, hc => by
    rw [List.flatMap_cons, List.getElem?_append_left (by simp [axc]; omega)]
    simp
  | s :: ss, j + 1, h, c, hc => by
    have := flatA_get ss j (by simpa using h) c hc
    rw [List.flatMap_cons, List.getElem?_append_right (by simp [axc]; omega)]
    rw [show (j + 1) * 2 + c - (axc s).length = j * 2 + c by simp [axc]; omega, this]
    simp
theorem axc_one (u : Ax) : ∀ v ∈ axc u, v.oneCell' = true := by
  intro v hv
  simp [axc] at hv
  rcases hv with rfl | rfl <;> rfl

section
variable {w w' : World} {base base' : Nat} {v : Value} {xa : List Ax}
theorem OwnsAx.nil : OwnsAx w base (.slice none 0 0) [] := World.ownsRow_nil _ _ _ _
theorem OwnsAx.still (h : OwnsAx w base v xa) (hk : ∀ g, v.ownBlock = some g → w'.heap[g]? = w.heap[g]?) : OwnsAx w' base v xa := by
  refine ⟨h.1, ?_⟩
  rcases h.2 with h2 | ⟨g, cap, cur, e1, e2, e3, e4⟩
  · exact .inl h2
  · exact .inr ⟨g, cap, cur, e1, e2, (hk g (by rw [e1]; rfl)).trans e3, e4⟩
theorem OwnsAx.inside (h : OwnsAx w base v xa) {g : Nat} (hg : v.ownBlock = some g) : base ≤ g ∧ g < w.heap.size := World.ownsRow.lt h g hg
theorem OwnsAx.below (h : OwnsAx w base v xa) (hb : Below w.heap.size w w') : OwnsAx w' base v xa := h.still fun g e => hb.block g (h.inside e).2
theorem OwnsAx.mono (h : OwnsAx w base v xa) (hb : base' ≤ base) : OwnsAx w base' v xa := World.ownsRow.mono h hb
/-- A store in another block. -/
theorem OwnsAx.far (h : OwnsAx w base v xa) {a : Addr} (ha : v.ownBlock ≠ some a.block) (u : Value) : OwnsAx (w.setCell a u) base v xa :=
  h.still fun g e => Below.heap_setCell _ _ _ _ (fun c => ha (by rw [e, c]))
theorem OwnsAx.form (h : OwnsAx w base v xa) : ∃ x cap, v = .slice x xa.length cap ∧ xa.length ≤ cap ∧ cap ≤ maxLen ∧ ReadsA w w.heap.size x xa ∧ (x = none → xa.length = 0 ∧ cap = 0) ∧ (∀ ad, x = some ad → ∃ g, ad = ⟨g, 0, none⟩ ∧ base ≤ g ∧ g < w.heap.size) := by
  rcases h.2 with ⟨e1, e2⟩ | ⟨g, cap, cur, e1, e2, e3, e4, e5, e6, e7⟩
  · exact ⟨none, 0, by rw [e1, e2], by omega, by unfold maxLen; omega, fun hn => by omega, fun _ => ⟨e2, rfl⟩, (fun ad e => (by cases e))⟩
  · have hg : g < w.heap.size := by
      rcases Nat.lt_or_ge g w.heap.size with hlt | hge
      · exact hlt
      · rw [Array.getElem?_eq_none hge] at e3; cases e3
    refine ⟨some ⟨g, 0, none⟩, cap, e1, e4, e5, fun hn => ⟨g, 0, rfl, hg, fun j hj => ?_⟩, (fun e => (by cases e)), fun ad e => ⟨g, (by cases e; rfl), e2, hg⟩⟩
    subst e1
    have hl := flatA_len xa
    have each : ∀ c, c < 2 → w.cell? ⟨g, 0 + j * 2 + c, none⟩ = (axc (xa.getD j noAx))[c]? := fun c hc => by
      rw [Nat.zero_add, World.ownsRow.cellAt h (j * 2 + c) (by omega), flatA_get xa j hj c hc]
    exact ⟨each 0 (by omega), each 1 (by omega)⟩
theorem OwnsAx.melt {g n cap : Nat} (h : OwnsAx w base (.slice (some ⟨g, 0, none⟩) n cap) xa) (hn : xa.length = n) (j : Nat) : w.frozen? ⟨g, j, none⟩ = false := by
  subst hn
  exact World.ownsRow.frozenAt h j
end

/-- The first axis has another number. -/
def hdA (z : Int) : List Ax → List Ax
  | [] => []
  | u :: r => ⟨z, u.neg⟩ :: r
theorem hdA_len (z : Int) (xa : List Ax) : (hdA z xa).length = xa.length := by cases xa <;> rfl
theorem OwnsAx.head {w : World} {base g n cap : Nat} {xa : List Ax} (h : OwnsAx w base (.slice (some ⟨g, 0, none⟩) n cap) xa) (hn : xa.length = n) (hx : 0 < xa.length) (z : Int) : OwnsAx (w.setCell ⟨g, 0, none⟩ (.int .i64 z)) base (.slice (some ⟨g, 0, none⟩) n cap) (hdA z xa) := by
  subst hn
  have h1 := (World.ownsRow.stored h 0 (.int .i64 z)).1
  unfold OwnsAx
  rw [hdA_len]
  match xa, hx with
  | u :: r, _ =>
    simpa [hdA, axc] using h1

theorem info_ax : (Tryd.prog.info? 53).map (fun i => (i.zero, i.size, i.bytes)) = some (some (.agg #[.int .i64 0, .bool false]), 2, 16) := by kernel_rfl

/-- A copy of axes of its own. -/
theorem wpList_copy_ax {w : World} {ops : Array Oper} {rest : List Oper} {o : Oper} {a : Act} {Q : Exit → Act → World → Prop} (hgd : o.guard = none) (s x : Operand)
    (ho : o.op = .call { callee := .builtin .append, args := #[s, x], argTypes := #[23, 23] })
    (hs : a.eval s = .slice none 0 0) (xo : Option Addr) (n cap : Nat) (xa : List Ax) (hx : a.eval x = .slice xo n cap) (hsrc : SrcA w xo n cap xa) (hb : n ≤ 1000000)
    (h : ∀ v' w', OwnsAx w' w.heap.size v' xa → Below w.heap.size w w' → wpList Tryd.prog ops Q rest (a.put o.dst v') w') : wpList Tryd.prog ops Q (o :: rest) a w := by
  obtain ⟨i0, hi, hz0, hz1, hz2⟩ := info_parts info_ax
  obtain ⟨rfl, ⟨rfl, h0, rfl⟩ | ⟨ad, rfl, hc⟩⟩ := hsrc
  · obtain rfl : xa = [] := List.length_eq_zero_iff.1 h0
    exact wpList_append_own_none hgd s x _ ho w.heap.size 53 i0 2 Tryd.underlying23 hi _ 0 [] hs (World.ownsRow_nil _ _ _ _) hx (h _ _ OwnsAx.nil (Below.refl _ _))
  · refine wpList_append_own w hgd s x _ ho w.heap.size 53 i0 (.agg #[.int .i64 0, .bool false]) 2 16 Tryd.underlying23 hi hz0 hz1 hz2 rfl (by decide) _ 0 [] hs (World.ownsRow_nil _ _ _ _) ad xa.length cap (xa.flatMap axc) hx (by rw [flatA_len]) hc ?_ (by unfold maxLen; omega) (by omega) (Nat.le_refl _) ?_
    · intro u hu
      obtain ⟨s, _, h2⟩ := List.mem_flatMap.1 hu
      exact axc_one s u h2
    · intro v' w' hown' hg _
      refine h v' w' ?_ ((Below.refl _ _).grown hg (Nat.le_refl _) (fun g e => by cases e))
      unfold OwnsAx
      simpa using hown'

end Go.Proofs.YtlbfllaaabginaaDoor
