/-
  Slices of integers, read as lists: a slice that came in, and a slice that a call made for itself; lists written place by place. No function of the program is named here.
-/
import Derived.Test.YtmcnamlgbkbiaaaDoorProg
import Derived.WalkKit
import Derived.WalkSpells
import Derived.WalkSmall
import Derived.Deep.QuietTactic
import Derived.Deep.Onto
import Derived.Deep.AppendLies
import Derived.BigQuiet
import Derived.Lib.Hide
import Derived.KernelRfl
import Derived.OpenShut
import Derived.Laws.AppendOwnNone
namespace Go.Proofs.YtmcnamlgbkbiaaaDoor
open Go.RowKit

/-- The address x holds the integers xs, in blocks below B (asked only if there are any). -/
def Reads (k : IntKind) (w : World) (B : Nat) (x : Option Addr) (xs : List Int) : Prop :=
  0 < xs.length → ∃ b off, x = some ⟨b, off, none⟩ ∧ b < B ∧ ∀ j, j < xs.length → w.cell? ⟨b, off + j, none⟩ = some (.int k (xs.getD j 0))

section
variable {k : IntKind} {w w' : World} {B B' : Nat} {x : Option Addr} {xs : List Int}
theorem Reads.nil : Reads k w B x [] := fun h => absurd h (by simp)
theorem Reads.keep (h : Reads k w B x xs) (hk : ∀ p : Addr, p.block < B → w'.cell? p = w.cell? p) : Reads k w' B x xs := fun hn => by
  obtain ⟨b, off, e, hb, hc⟩ := h hn
  exact ⟨b, off, e, hb, fun j hj => (hk _ (by exact hb)).trans (hc j hj)⟩
theorem Reads.more (h : Reads k w B x xs) (hB : B ≤ B') : Reads k w B' x xs := fun hn => by
  obtain ⟨b, off, e, hb, hc⟩ := h hn
  exact ⟨b, off, e, by omega, hc⟩
theorem Reads.below (h : Reads k w B x xs) (hb : Below B w w') : Reads k w' B x xs := h.keep fun _ hp => hb.cell hp
theorem Reads.draws (h : Reads k w B x xs) (n : Nat) : Reads k (w.drewN n) B x xs := h
theorem Reads.same (h : Reads k w B x xs) {ys : List Int} (e : ys = xs) : Reads k w B x ys := e ▸ h
end

/-- The value v is a slice of the integers xs in a row that lies at or beyond block base, and nobody else's. -/
def Owns (k : IntKind) (e : TypeId) (w : World) (base : Nat) (v : Value) (xs : List Int) : Prop := w.ownsRow base e 1 v xs.length (xs.map (Value.int k))

theorem draws_below (B : Nat) (w : World) (n : Nat) : Below B w (w.drewN n) := ⟨rfl, rfl, rfl, Nat.le_refl _, fun _ _ => rfl⟩
theorem below_of_draws {w w' : World} {n : Nat} (h : Below (w.drewN n).heap.size (w.drewN n) w') : Below w.heap.size w w' := (draws_below _ w n).trans h
theorem below_draws {B : Nat} {w w' : World} (h : Below B w w') (n : Nat) : Below B w (w'.drewN n) := h.trans (draws_below B w' n)

section
variable {k : IntKind} {e : TypeId} {w w' : World} {base base' : Nat} {v : Value} {xs : List Int}
theorem Owns.nil : Owns k e w base (.slice none 0 0) [] := World.ownsRow_nil _ _ _ _
theorem Owns.mono (h : Owns k e w base v xs) (hb : base' ≤ base) : Owns k e w base' v xs := World.ownsRow.mono h hb
theorem Owns.draws (h : Owns k e w base v xs) (n : Nat) : Owns k e (w.drewN n) base v xs := h
theorem Owns.keep (h : Owns k e w base v xs) (hk : ∀ g, base ≤ g → g < w.heap.size → w'.heap[g]? = w.heap[g]?) : Owns k e w' base v xs := by
  refine ⟨h.1, ?_⟩
  rcases h.2 with h2 | ⟨g, cap, cur, e1, e2, e3, e4⟩
  · exact .inl h2
  · have hg : g < w.heap.size := by
      rcases Nat.lt_or_ge g w.heap.size with hlt | hge
      · exact hlt
      · rw [Array.getElem?_eq_none hge] at e3; cases e3
    exact .inr ⟨g, cap, cur, e1, e2, (hk g e2 hg).trans e3, e4⟩
theorem Owns.below (h : Owns k e w base v xs) (hb : Below w.heap.size w w') : Owns k e w' base v xs := h.keep fun g _ hg => hb.block g hg
theorem Owns.len_le (h : Owns k e w base v xs) : xs.length ≤ maxLen := by
  rcases h.2 with ⟨_, e2⟩ | ⟨_, _, _, _, _, _, e4, e5, _⟩
  · unfold maxLen; omega
  · omega
theorem Owns.form (h : Owns k e w base v xs) : ∃ x cap, v = .slice x xs.length cap ∧ xs.length ≤ cap ∧ cap ≤ maxLen ∧ Reads k w w.heap.size x xs ∧ (0 < xs.length → ∃ g, x = some ⟨g, 0, none⟩ ∧ base ≤ g ∧ g < w.heap.size) := by
  rcases h.2 with ⟨e1, e2⟩ | ⟨g, cap, cur, e1, e2, e3, e4, e5, e6, e7⟩
  · exact ⟨none, 0, by rw [e1, e2], by omega, by unfold maxLen; omega, fun hn => by omega, fun hn => by omega⟩
  · have hg : g < w.heap.size := by
      rcases Nat.lt_or_ge g w.heap.size with hlt | hge
      · exact hlt
      · rw [Array.getElem?_eq_none hge] at e3; cases e3
    refine ⟨some ⟨g, 0, none⟩, cap, e1, e4, e5, fun hn => ⟨g, 0, rfl, hg, fun j hj => ?_⟩, fun _ => ⟨g, rfl, e2, hg⟩⟩
    subst e1
    have hc := World.ownsRow.cellAt h j (by omega)
    rw [Nat.zero_add, hc]
    simp [List.getD_eq_getElem?_getD, hj]
end

/-! Places of a list, written one by one: the first i of f, behind them those of g. -/
def mixed (f g : Nat → Int) (n i : Nat) : List Int := (List.range n).map fun j => if j < i then f j else g j
theorem mixed_len (f g : Nat → Int) (n i : Nat) : (mixed f g n i).length = n := by simp [mixed]
theorem mixed_get (f g : Nat → Int) (n i j : Nat) (hj : j < n) : (mixed f g n i).getD j 0 = if j < i then f j else g j := by simp [mixed, hj]
theorem mixed_zero (g f : Nat → Int) (n : Nat) : mixed f g n 0 = (List.range n).map g := by simp [mixed]
theorem mixed_all (g f : Nat → Int) (n : Nat) : mixed f g n n = (List.range n).map f := by
  unfold mixed; apply List.map_congr_left; intro j hj; rw [if_pos (List.mem_range.1 hj)]
theorem mixed_set (f g : Nat → Int) (n i : Nat) : (mixed f g n i).set i (f i) = mixed f g n (i + 1) := by
  apply List.ext_getElem?
  intro j
  rw [List.getElem?_set]
  by_cases hj : j < n
  · by_cases e : i = j
    · subst e; simp [mixed, hj]
    · by_cases h1 : j < i
      · simp [mixed, hj, e, h1, show j < i + 1 by omega]
      · simp [mixed, hj, e, h1, show ¬ j < i + 1 by omega]
  · by_cases e : i = j
    · subst e; simp [mixed, hj]
    · simp [mixed, hj, e]
theorem map_set (k : IntKind) (xs : List Int) (i : Nat) (a : Int) : (xs.map (Value.int k)).set i (.int k a) = (xs.set i a).map (Value.int k) := by rw [List.map_set]
theorem range_zeros (n : Nat) : (List.range n).map (fun _ => (0 : Int)) = List.replicate n 0 := by
  rw [List.map_const', List.length_range]
theorem list_range (xs : List Int) : (List.range xs.length).map (fun j => xs.getD j 0) = xs := by
  apply List.ext_getElem?
  intro j
  by_cases hj : j < xs.length
  · simp [hj]
  · simp [hj]

/-! A row of n places that the call made at block g, its first i places those of f, the others those of f0. -/
def Half (k : IntKind) (e : TypeId) (wr : World) (base g n : Nat) (f f0 : Nat → Int) (i : Nat) : Prop := Owns k e wr base (.slice (some ⟨g, 0, none⟩) n n) (mixed f f0 n i)
section
variable {k : IntKind} {e : TypeId} {w wr : World} {base g n i : Nat} {f f0 : Nat → Int}
theorem Half.own (h : Half k e wr base g n f f0 i) : wr.ownsRow base e 1 (.slice (some ⟨g, 0, none⟩) n n) n ((mixed f f0 n i).map (Value.int k)) := by
  unfold Half Owns at h; rw [mixed_len] at h; exact h
theorem Half.of (h : wr.ownsRow base e 1 (.slice (some ⟨g, 0, none⟩) n n) n ((mixed f f0 n i).map (Value.int k))) : Half k e wr base g n f f0 i := by
  unfold Half Owns; rw [mixed_len]; exact h
theorem Half.start (h : wr.ownsRow base e 1 (.slice (some ⟨g, 0, none⟩) n n) n (madeCells (Value.int k 0).cells (n * 1)).toList) : Half k e wr base g n f (fun _ => 0) 0 := by
  refine Half.of ?_
  rw [mixed_zero, range_zeros, List.map_replicate]
  rw [show (Value.int k 0).cells = #[.int k 0] from rfl, toList_madeCells_one, Nat.mul_one] at h
  exact h
theorem Half.step (h : Half k e wr base g n f f0 i) : Half k e (wr.setCell ⟨g, i, none⟩ (.int k (f i))) base g n f f0 (i + 1) := by
  have := (World.ownsRow.stored h.own i (.int k (f i))).1
  rw [map_set, mixed_set] at this
  exact Half.of this
theorem Half.cell (h : Half k e wr base g n f f0 i) (j : Nat) (hj : j < n) : wr.cell? ⟨g, j, none⟩ = some (.int k (if j < i then f j else f0 j)) := by
  rw [World.ownsRow.cellAt h.own j (by omega)]; simp [mixed, hj]
theorem Half.cellNext (h : Half k e wr base g n f f0 i) (hj : i < n) : wr.cell? ⟨g, i, none⟩ = some (.int k (f0 i)) := by
  rw [h.cell i hj, if_neg (Nat.lt_irrefl i)]
theorem Half.frozen (h : Half k e wr base g n f f0 i) (j : Nat) : wr.frozen? ⟨g, j, none⟩ = false := World.ownsRow.frozenAt h.own j
theorem Half.lt (h : Half k e wr base g n f f0 i) : base ≤ g ∧ g < wr.heap.size := h.own.lt g rfl
theorem Half.all (h : Half k e wr base g n f f0 n) : Owns k e wr base (.slice (some ⟨g, 0, none⟩) n n) ((List.range n).map f) := by
  unfold Half at h; rw [mixed_all] at h; exact h
theorem Half.draws (h : Half k e wr base g n f f0 i) (m : Nat) : Half k e (wr.drewN m) base g n f f0 i := h
end

/-- Words: numbers of 64 bits. -/
def Words (xs : List Int) : Prop := ∀ j, 0 ≤ xs.getD j 0 ∧ xs.getD j 0 < 18446744073709551616
theorem Words.at {xs : List Int} (h : Words xs) (j : Nat) : 0 ≤ xs[j]?.getD 0 ∧ xs[j]?.getD 0 < 18446744073709551616 := by
  have := h j; rwa [List.getD_eq_getElem?_getD] at this

/-- A slice of integers that came in: nil, or a row of cells. -/
def RowIn (k : IntKind) (w : World) (a : Option Addr) (len cap : Nat) (zs : List Int) : Prop :=
  (a = none ∧ len = 0 ∧ cap = 0 ∧ zs = []) ∨
  ∃ x, a = some x ∧ len ≤ cap ∧ cap ≤ maxLen ∧ zs.length = cap ∧ (∀ i, i < zs.length → w.cell? (x.add i) = some (.int k (zs.getD i 0))) ∧ ∀ n ∈ zs, (Lit.int k n).wf = true

/-- A slice of words that came in reads as a list of words. -/
theorem RowIn.reads {w : World} {a : Option Addr} {len cap : Nat} {zs : List Int} (h : RowIn .u64 w a len cap zs) : ∃ xs, xs = zs.take len ∧ xs.length = len ∧ len ≤ cap ∧ cap ≤ maxLen ∧ Reads .u64 w w.heap.size a xs ∧ Words xs := by
  rcases h with ⟨rfl, rfl, rfl, rfl⟩ | ⟨x, rfl, h1, h2, h3, h4, h5⟩
  · exact ⟨[], rfl, rfl, Nat.le_refl _, by unfold maxLen; omega, Reads.nil, fun j => by simp⟩
  · refine ⟨zs.take len, rfl, by simp; omega, h1, h2, fun hn => ?_, fun j => ?_⟩
    · have hn' : 0 < zs.length := by simp at hn; omega
      obtain ⟨b, off, rfl, hc⟩ := ints_at h4 hn'
      refine ⟨b, off, rfl, ?_, fun j hj => ?_⟩
      · exact World.block_lt_of_cell? _ _ (hc 0 hn')
      · have hj' : j < len ∧ j < zs.length := by simp at hj; omega
        rw [hc j hj'.2]; simp [hj'.1]
    · by_cases hj : j < len ∧ j < zs.length
      · have := bounds_u64 (h5 zs[j] (List.getElem_mem hj.2))
        simp [hj.1, hj.2]; omega
      · by_cases h1' : j < len
        · simp [h1', show zs.length ≤ j by omega]
        · simp [List.getElem?_take, h1']

theorem Owns.push {k : IntKind} {e : TypeId} {w : World} {base : Nat} {v : Value} {xs : List Int} {u : Int} (h : w.ownsRow base e 1 v (xs.length + 1) (xs.map (Value.int k) ++ [.int k u])) : Owns k e w base v (xs ++ [u]) := by
  unfold Owns; rw [List.length_append, List.map_append]; exact h
theorem Owns.ownBlock {k : IntKind} {e : TypeId} {w : World} {base : Nat} {v : Value} {xs : List Int} (h : Owns k e w base v xs) : ∀ g, v.ownBlock = some g → base ≤ g := fun g hg => (World.ownsRow.lt h g hg).1
theorem range_snoc (f : Nat → Int) (n : Nat) : (List.range (n + 1)).map f = (List.range n).map f ++ [f n] := by simp [List.range_succ]
theorem one_int (k : IntKind) (u : Int) : ∀ x ∈ [Value.int k u], x.oneCell' = true := by intro x hx; simp at hx; subst hx; rfl

/-- A slice that is handed to append as its source: nil, or with an address at which its numbers lie. -/
def Src (k : IntKind) (w : World) (x : Option Addr) (n cap : Nat) (xs : List Int) : Prop :=
  xs.length = n ∧ ((x = none ∧ n = 0 ∧ cap = 0) ∨ ∃ ad, x = some ad ∧ ∀ j, j < n → w.cell? (ad.add j) = some (.int k (xs.getD j 0)))
theorem Src.draws {k : IntKind} {w : World} {x : Option Addr} {n cap : Nat} {xs : List Int} (h : Src k w x n cap xs) (m : Nat) : Src k (w.drewN m) x n cap xs := h
/-- 'append([]T(nil), xs...)': a copy of its own. -/
theorem wpList_copy_new {P : Program} {w : World} {ops : Array Oper} {rest : List Oper} {o : Oper} {a : Act} {Q : Exit → Act → World → Prop} (hgd : o.guard = none) (s x : Operand) (t : TypeId)
    (ho : o.op = .call { callee := .builtin .append, args := #[s, x], argTypes := #[t, t] }) (e : TypeId) (i : TypeInfo) (k : IntKind) (bytes : Nat) (ht : P.underlying t = some (.slice e)) (hi : P.info? e = some i) (hz : i.zero = some (.int k 0)) (hsize : i.size = 1) (hby : i.bytes = bytes)
    (xo : Option Addr) (n cap : Nat) (xs : List Int) (hs : a.eval s = .slice none 0 0) (hx : a.eval x = .slice xo n cap) (hsrc : Src k w xo n cap xs) (h63 : n ≤ maxLen) (hb : n * bytes ≤ 140737488355328)
    (h : ∀ v' w', Owns k e w' w.heap.size v' xs → Below w.heap.size w w' → wpList P ops Q rest (a.put o.dst v') w') : wpList P ops Q (o :: rest) a w := by
  obtain ⟨rfl, ⟨rfl, h0, rfl⟩ | ⟨ad, rfl, hc⟩⟩ := hsrc
  · obtain rfl : xs = [] := List.length_eq_zero_iff.1 h0
    exact wpList_append_own_none hgd s x t ho w.heap.size e i 1 ht hi _ 0 [] hs (World.ownsRow_nil _ _ _ _) hx (h _ _ Owns.nil (Below.refl _ _))
  · refine wpList_append_own w hgd s x t ho w.heap.size e i (.int k 0) 1 bytes ht hi hz hsize hby rfl (by decide) _ 0 [] hs (World.ownsRow_nil _ _ _ _) ad xs.length cap (xs.map (Value.int k)) hx (by simp) ?_ ?_ (by omega) (by simpa using hb) (Nat.le_refl _) ?_
    · intro j u hu
      have hj : j < xs.length := by
        rcases Nat.lt_or_ge j xs.length with h | h
        · exact h
        · rw [List.getElem?_eq_none (by simpa using h)] at hu; cases hu
      rw [hc j hj]
      simpa [hj] using hu
    · intro u hu
      obtain ⟨z, _, rfl⟩ := List.mem_map.1 hu
      rfl
    · intro v' w' hown hg _
      refine h v' w' ?_ ((Below.refl _ _).grown hg (Nat.le_refl _) (fun g e => by cases e))
      unfold Owns
      simpa using hown
/-- A slice of words that came in, as such a source. -/
theorem RowIn.src {w : World} {a : Option Addr} {len cap : Nat} {zs : List Int} (h : RowIn .u64 w a len cap zs) : Src .u64 w a len cap (zs.take len) := by
  rcases h with ⟨rfl, rfl, rfl, rfl⟩ | ⟨x, rfl, h1, h2, h3, h4, h5⟩
  · exact ⟨rfl, .inl ⟨rfl, rfl, rfl⟩⟩
  · refine ⟨by simp; omega, .inr ⟨x, rfl, fun j hj => ?_⟩⟩
    rw [h4 j (by omega)]; simp [hj]

theorem info_u64 : (Tryd.prog.info? 22).map (fun i => (i.zero, i.size, i.bytes)) = some (some (.int .u64 0), 1, 8) := by kernel_rfl

end Go.Proofs.YtmcnamlgbkbiaaaDoor
