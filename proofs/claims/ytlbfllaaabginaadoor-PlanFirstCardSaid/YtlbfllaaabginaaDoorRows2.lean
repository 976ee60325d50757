/-
  Several texts in one: Row, Field, Bits, Mul, Power, Powers, In, Ref, RefInv, Ahead, RefPow, Some, Since, SinceCell, Boxes, Ints, QuietTail, SinceTail, Late.
-/
import Derived.Test.YtlbfllaaabginaaDoorProg
import Derived.Test.YtlbfllaaabginaaDoorGround
import Derived.WalkKit
import Derived.WalkSpells
import Derived.WalkSmall
import Derived.Deep.QuietTactic
import Derived.Deep.Onto
import Derived.Deep.AppendLies
import Derived.BigQuiet
import Derived.Lib.Hide
import Derived.KernelRfl
import Derived.OpenShut
import Derived.Laws.AppendOwnNone
import Derived.Lib.Mul64
import Derived.Laws.Bits64b
import Derived.RangeFuncNested
import Derived.RangeFuncBox
import Derived.StillTail
import Derived.OrdersIn
import Derived.RangeFuncCalls
import Derived.TacticsIn
import Derived.Deep.RegionWith

/-!   Slices of integers, read as lists: a slice that came in, and a slice that a call made for itself; lists written place by place. No function of the program is named here.
-/

namespace Go.Proofs.YtlbfllaaabginaaDoor
open Go.RowKit

/-- The address x holds the integers xs, in blocks below B (asked only if there are any). -/
def Reads (k : IntKind) (w : World) (B : Nat) (x : Option Addr) (xs : List Int) : Prop :=
  0 < xs.length → ∃ b off, x = some ⟨b, off, none⟩ ∧ b < B ∧ ∀ j, j < xs.length → w.cell? ⟨b, off + j, none⟩ = some (.int k (xs.getD j 0))

section
variable {k : IntKind} {w w' : World} {B B' : Nat} {x : Option Addr} {xs : List Int}
theorem Reads.nil : Reads k w B x [] := fun h => absurd h (by simp)
theorem Reads.keep (h : Reads k w B x xs) (hk : ∀ p : Addr, p.block < B → w'.cell? p = w.cell? p) : Reads k w' B x xs := fun hn => by
  obtain ⟨b, off, e, hb, hc⟩ := h hn
  exact ⟨b, off, e, hb, fun j hj => (hk _ (by exact hb)).trans (hc j hj)⟩
theorem Reads.more (h : Reads k w B x xs) (hB : B ≤ B') : Reads k w B' x xs := fun hn => by
  obtain ⟨b, off, e, hb, hc⟩ := h hn
  exact ⟨b, off, e, by omega, hc⟩
theorem Reads.below (h : Reads k w B x xs) (hb : Below B w w') : Reads k w' B x xs := h.keep fun _ hp => hb.cell hp
theorem Reads.draws (h : Reads k w B x xs) (n : Nat) : Reads k (w.drewN n) B x xs := h
theorem Reads.same (h : Reads k w B x xs) {ys : List Int} (e : ys = xs) : Reads k w B x ys := e ▸ h
end

/-- The value v is a slice of the integers xs in a row that lies at or beyond block base, and nobody else's. -/
def Owns (k : IntKind) (e : TypeId) (w : World) (base : Nat) (v : Value) (xs : List Int) : Prop := w.ownsRow base e 1 v xs.length (xs.map (Value.int k))

theorem draws_below (B : Nat) (w : World) (n : Nat) : Below B w (w.drewN n) := ⟨rfl, rfl, rfl, Nat.le_refl _, fun _ _ => rfl⟩
theorem below_of_draws {w w' : World} {n : Nat} (h : Below (w.drewN n).heap.size (w.drewN n) w') : Below w.heap.size w w' := (draws_below _ w n).trans h
theorem below_draws {B : Nat} {w w' : World} (h : Below B w w') (n : Nat) : Below B w (w'.drewN n) := h.trans (draws_below B w' n)

section
variable {k : IntKind} {e : TypeId} {w w' : World} {base base' : Nat} {v : Value} {xs : List Int}
theorem Owns.nil : Owns k e w base (.slice none 0 0) [] := World.ownsRow_nil _ _ _ _
theorem Owns.mono (h : Owns k e w base v xs) (hb : base' ≤ base) : Owns k e w base' v xs := World.ownsRow.mono h hb
theorem Owns.draws (h : Owns k e w base v xs) (n : Nat) : Owns k e (w.drewN n) base v xs := h
theorem Owns.keep (h : Owns k e w base v xs) (hk : ∀ g, base ≤ g → g < w.heap.size → w'.heap[g]? = w.heap[g]?) : Owns k e w' base v xs := by
  refine ⟨h.1, ?_⟩
  rcases h.2 with h2 | ⟨g, cap, cur, e1, e2, e3, e4⟩
  · exact .inl h2
  · have hg : g < w.heap.size := by
      rcases Nat.lt_or_ge g w.heap.size with hlt | hge
      · exact hlt
      · rw [Array.getElem?_eq_none hge] at e3; cases e3
    exact .inr ⟨g, cap, cur, e1, e2, (hk g e2 hg).trans e3, e4⟩
theorem Owns.below (h : Owns k e w base v xs) (hb : Below w.heap.size w w') : Owns k e w' base v xs := h.keep fun g _ hg => hb.block g hg
theorem Owns.len_le (h : Owns k e w base v xs) : xs.length ≤ maxLen := by
  rcases h.2 with ⟨_, e2⟩ | ⟨_, _, _, _, _, _, e4, e5, _⟩
  · unfold maxLen; omega
  · omega
theorem Owns.form (h : Owns k e w base v xs) : ∃ x cap, v = .slice x xs.length cap ∧ xs.length ≤ cap ∧ cap ≤ maxLen ∧ Reads k w w.heap.size x xs ∧ (0 < xs.length → ∃ g, x = some ⟨g, 0, none⟩ ∧ base ≤ g ∧ g < w.heap.size) := by
  rcases h.2 with ⟨e1, e2⟩ | ⟨g, cap, cur, e1, e2, e3, e4, e5, e6, e7⟩
  · exact ⟨none, 0, by rw [e1, e2], by omega, by unfold maxLen; omega, fun hn => by omega, fun hn => by omega⟩
  · have hg : g < w.heap.size := by
      rcases Nat.lt_or_ge g w.heap.size with hlt | hge
      · exact hlt
      · rw [Array.getElem?_eq_none hge] at e3; cases e3
    refine ⟨some ⟨g, 0, none⟩, cap, e1, e4, e5, fun hn => ⟨g, 0, rfl, hg, fun j hj => ?_⟩, fun _ => ⟨g, rfl, e2, hg⟩⟩
    subst e1
    have hc := World.ownsRow.cellAt h j (by omega)
    rw [Nat.zero_add, hc]
    simp [List.getD_eq_getElem?_getD, hj]
end

/-! Places of a list, written one by one: the first i of f, behind them those of g. -/
def mixed (f g : Nat → Int) (n i : Nat) : List Int := (List.range n).map fun j => if j < i then f j else g j
theorem mixed_len (f g : Nat → Int) (n i : Nat) : (mixed f g n i).length = n := by simp [mixed]
theorem mixed_get (f g : Nat → Int) (n i j : Nat) (hj : j < n) : (mixed f g n i).getD j 0 = if j < i then f j else g j := by simp [mixed, hj]
theorem mixed_zero (g f : Nat → Int) (n : Nat) : mixed f g n 0 = (List.range n).map g := by simp [mixed]
theorem mixed_all (g f : Nat → Int) (n : Nat) : mixed f g n n = (List.range n).map f := by
  unfold mixed; apply List.map_congr_left; intro j hj; rw [if_pos (List.mem_range.1 hj)]
theorem mixed_set (f g : Nat → Int) (n i : Nat) : (mixed f g n i).set i (f i) = mixed f g n (i + 1) := by
  apply List.ext_getElem?
  intro j
  rw [List.getElem?_set]
  by_cases hj : j < n
  · by_cases e : i = j
    · subst e; simp [mixed, hj]
    · by_cases h1 : j < i
      · simp [mixed, hj, e, h1, show j < i + 1 by omega]
      · simp [mixed, hj, e, h1, show ¬ j < i + 1 by omega]
  · by_cases e : i = j
    · subst e; simp [mixed, hj]
    · simp [mixed, hj, e]
theorem map_set (k : IntKind) (xs : List Int) (i : Nat) (a : Int) : (xs.map (Value.int k)).set i (.int k a) = (xs.set i a).map (Value.int k) := by rw [List.map_set]
theorem range_zeros (n : Nat) : (List.range n).map (fun _ => (0 : Int)) = List.replicate n 0 := by
  rw [List.map_const', List.length_range]
theorem list_range (xs : List Int) : (List.range xs.length).map (fun j => xs.getD j 0) = xs := by
  apply List.ext_getElem?
  intro j
  by_cases hj : j < xs.length
  · simp [hj]
  · simp [hj]

/-! A row of n places that the call made at block g, its first i places those of f, the others those of f0. -/
def Half (k : IntKind) (e : TypeId) (wr : World) (base g n : Nat) (f f0 : Nat → Int) (i : Nat) : Prop := Owns k e wr base (.slice (some ⟨g, 0, none⟩) n n) (mixed f f0 n i)
section
variable {k : IntKind} {e : TypeId} {w wr : World} {base g n i : Nat} {f f0 : Nat → Int}
theorem Half.own (h : Half k e wr base g n f f0 i) : wr.ownsRow base e 1 (.slice (some ⟨g, 0, none⟩) n n) n ((mixed f f0 n i).map (Value.int k)) := by
  unfold Half Owns at h; rw [mixed_len] at h; exact h
theorem Half.of (h : wr.ownsRow base e 1 (.slice (some ⟨g, 0, none⟩) n n) n ((mixed f f0 n i).map (Value.int k))) : Half k e wr base g n f f0 i := by
  unfold Half Owns; rw [mixed_len]; exact h
theorem Half.start (h : wr.ownsRow base e 1 (.slice (some ⟨g, 0, none⟩) n n) n (madeCells (Value.int k 0).cells (n * 1)).toList) : Half k e wr base g n f (fun _ => 0) 0 := by
  refine Half.of ?_
  rw [mixed_zero, range_zeros, List.map_replicate]
  rw [show (Value.int k 0).cells = #[.int k 0] from rfl, toList_madeCells_one, Nat.mul_one] at h
  exact h
theorem Half.step (h : Half k e wr base g n f f0 i) : Half k e (wr.setCell ⟨g, i, none⟩ (.int k (f i))) base g n f f0 (i + 1) := by
  have := (World.ownsRow.stored h.own i (.int k (f i))).1
  rw [map_set, mixed_set] at this
  exact Half.of this
theorem Half.cell (h : Half k e wr base g n f f0 i) (j : Nat) (hj : j < n) : wr.cell? ⟨g, j, none⟩ = some (.int k (if j < i then f j else f0 j)) := by
  rw [World.ownsRow.cellAt h.own j (by omega)]; simp [mixed, hj]
theorem Half.cellNext (h : Half k e wr base g n f f0 i) (hj : i < n) : wr.cell? ⟨g, i, none⟩ = some (.int k (f0 i)) := by
  rw [h.cell i hj, if_neg (Nat.lt_irrefl i)]
theorem Half.frozen (h : Half k e wr base g n f f0 i) (j : Nat) : wr.frozen? ⟨g, j, none⟩ = false := World.ownsRow.frozenAt h.own j
theorem Half.lt (h : Half k e wr base g n f f0 i) : base ≤ g ∧ g < wr.heap.size := h.own.lt g rfl
theorem Half.all (h : Half k e wr base g n f f0 n) : Owns k e wr base (.slice (some ⟨g, 0, none⟩) n n) ((List.range n).map f) := by
  unfold Half at h; rw [mixed_all] at h; exact h
theorem Half.draws (h : Half k e wr base g n f f0 i) (m : Nat) : Half k e (wr.drewN m) base g n f f0 i := h
end

/-- Words: numbers of 64 bits. -/
def Words (xs : List Int) : Prop := ∀ j, 0 ≤ xs.getD j 0 ∧ xs.getD j 0 < 18446744073709551616
theorem Words.at {xs : List Int} (h : Words xs) (j : Nat) : 0 ≤ xs[j]?.getD 0 ∧ xs[j]?.getD 0 < 18446744073709551616 := by
  have := h j; rwa [List.getD_eq_getElem?_getD] at this

/-- A slice of integers that came in: nil, or a row of cells. -/
def RowIn (k : IntKind) (w : World) (a : Option Addr) (len cap : Nat) (zs : List Int) : Prop :=
  (a = none ∧ len = 0 ∧ cap = 0 ∧ zs = []) ∨
  ∃ x, a = some x ∧ len ≤ cap ∧ cap ≤ maxLen ∧ zs.length = cap ∧ (∀ i, i < zs.length → w.cell? (x.add i) = some (.int k (zs.getD i 0))) ∧ ∀ n ∈ zs, (Lit.int k n).wf = true

/-- A slice of words that came in reads as a list of words. -/
theorem RowIn.reads {w : World} {a : Option Addr} {len cap : Nat} {zs : List Int} (h : RowIn .u64 w a len cap zs) : ∃ xs, xs = zs.take len ∧ xs.length = len ∧ len ≤ cap ∧ cap ≤ maxLen ∧ Reads .u64 w w.heap.size a xs ∧ Words xs := by
  rcases h with ⟨rfl, rfl, rfl, rfl⟩ | ⟨x, rfl, h1, h2, h3, h4, h5⟩
  · exact ⟨[], rfl, rfl, Nat.le_refl _, by unfold maxLen; omega, Reads.nil, fun j => by simp⟩
  · refine ⟨zs.take len, rfl, by simp; omega, h1, h2, fun hn => ?_, fun j => ?_⟩
    · have hn' : 0 < zs.length := by simp at hn; omega
      obtain ⟨b, off, rfl, hc⟩ := ints_at h4 hn'
      refine ⟨b, off, rfl, ?_, fun j hj => ?_⟩
      · exact World.block_lt_of_cell? _ _ (hc 0 hn')
      · have hj' : j < len ∧ j < zs.length := by simp at hj; omega
        rw [hc j hj'.2]; simp [hj'.1]
    · by_cases hj : j < len ∧ j < zs.length
      · have := bounds_u64 (h5 zs[j] (List.getElem_mem hj.2))
        simp [hj.1, hj.2]; omega
      · by_cases h1' : j < len
        · simp [h1', show zs.length ≤ j by omega]
        · simp [List.getElem?_take, h1']

theorem Owns.push {k : IntKind} {e : TypeId} {w : World} {base : Nat} {v : Value} {xs : List Int} {u : Int} (h : w.ownsRow base e 1 v (xs.length + 1) (xs.map (Value.int k) ++ [.int k u])) : Owns k e w base v (xs ++ [u]) := by
  unfold Owns; rw [List.length_append, List.map_append]; exact h
theorem Owns.ownBlock {k : IntKind} {e : TypeId} {w : World} {base : Nat} {v : Value} {xs : List Int} (h : Owns k e w base v xs) : ∀ g, v.ownBlock = some g → base ≤ g := fun g hg => (World.ownsRow.lt h g hg).1
theorem range_snoc (f : Nat → Int) (n : Nat) : (List.range (n + 1)).map f = (List.range n).map f ++ [f n] := by simp [List.range_succ]
theorem one_int (k : IntKind) (u : Int) : ∀ x ∈ [Value.int k u], x.oneCell' = true := by intro x hx; simp at hx; subst hx; rfl

/-- A slice that is handed to append as its source: nil, or with an address at which its numbers lie. -/
def Src (k : IntKind) (w : World) (x : Option Addr) (n cap : Nat) (xs : List Int) : Prop :=
  xs.length = n ∧ ((x = none ∧ n = 0 ∧ cap = 0) ∨ ∃ ad, x = some ad ∧ ∀ j, j < n → w.cell? (ad.add j) = some (.int k (xs.getD j 0)))
theorem Src.draws {k : IntKind} {w : World} {x : Option Addr} {n cap : Nat} {xs : List Int} (h : Src k w x n cap xs) (m : Nat) : Src k (w.drewN m) x n cap xs := h
/-- 'append([]T(nil), xs...)': a copy of its own. -/
theorem wpList_copy_new {P : Program} {w : World} {ops : Array Oper} {rest : List Oper} {o : Oper} {a : Act} {Q : Exit → Act → World → Prop} (hgd : o.guard = none) (s x : Operand) (t : TypeId)
    (ho : o.op = .call { callee := .builtin .append, args := #[s, x], argTypes := #[t, t] }) (e : TypeId) (i : TypeInfo) (k : IntKind) (bytes : Nat) (ht : P.underlying t = some (.slice e)) (hi : P.info? e = some i) (hz : i.zero = some (.int k 0)) (hsize : i.size = 1) (hby : i.bytes = bytes)
    (xo : Option Addr) (n cap : Nat) (xs : List Int) (hs : a.eval s = .slice none 0 0) (hx : a.eval x = .slice xo n cap) (hsrc : Src k w xo n cap xs) (h63 : n ≤ maxLen) (hb : n * bytes ≤ 140737488355328)
    (h : ∀ v' w', Owns k e w' w.heap.size v' xs → Below w.heap.size w w' → wpList P ops Q rest (a.put o.dst v') w') : wpList P ops Q (o :: rest) a w := by
  obtain ⟨rfl, ⟨rfl, h0, rfl⟩ | ⟨ad, rfl, hc⟩⟩ := hsrc
  · obtain rfl : xs = [] := List.length_eq_zero_iff.1 h0
    exact wpList_append_own_none hgd s x t ho w.heap.size e i 1 ht hi _ 0 [] hs (World.ownsRow_nil _ _ _ _) hx (h _ _ Owns.nil (Below.refl _ _))
  · refine wpList_append_own w hgd s x t ho w.heap.size e i (.int k 0) 1 bytes ht hi hz hsize hby rfl (by decide) _ 0 [] hs (World.ownsRow_nil _ _ _ _) ad xs.length cap (xs.map (Value.int k)) hx (by simp) ?_ ?_ (by omega) (by simpa using hb) (Nat.le_refl _) ?_
    · intro j u hu
      have hj : j < xs.length := by
        rcases Nat.lt_or_ge j xs.length with h | h
        · exact h
        · rw [List.getElem?_eq_none (by simpa using h)] at hu; cases hu
      rw [hc j hj]
      simpa [hj] using hu
    · intro u hu
      obtain ⟨z, _, rfl⟩ := List.mem_map.1 hu
      rfl
    · intro v' w' hown hg _
      refine h v' w' ?_ ((Below.refl _ _).grown hg (Nat.le_refl _) (fun g e => by cases e))
      unfold Owns
      simpa using hown
/-- A slice of words that came in, as such a source. -/
theorem RowIn.src {w : World} {a : Option Addr} {len cap : Nat} {zs : List Int} (h : RowIn .u64 w a len cap zs) : Src .u64 w a len cap (zs.take len) := by
  rcases h with ⟨rfl, rfl, rfl, rfl⟩ | ⟨x, rfl, h1, h2, h3, h4, h5⟩
  · exact ⟨rfl, .inl ⟨rfl, rfl, rfl⟩⟩
  · refine ⟨by simp; omega, .inr ⟨x, rfl, fun j hj => ?_⟩⟩
    rw [h4 j (by omega)]; simp [hj]

theorem info_u64 : (Tryd.prog.info? 22).map (fun i => (i.zero, i.size, i.bytes)) = some (some (.int .u64 0), 1, 8) := by kernel_rfl

end Go.Proofs.YtlbfllaaabginaaDoor

/-!   What each function of package field comes to, as a contract over every input: the numbers of XMath. No condition but that the numbers are 64-bit words.
-/

namespace Go.Proofs.YtlbfllaaabginaaDoor
open Go.RowKit

theorem ret_u64 {a b : Int} (h : a = b) : Ending.returned (.int .u64 a) = .returned (.int .u64 b) := by rw [h]

theorem known_yes (p : Int) (w : World) (h : Fp.kn p = true) :
    Calls Tryd.prog 60 #[.int .u64 p] w fun e w' => e = .returned (.bool true) ∧ w = w' := by
  rcases Fp.kn_cases h with h | h | h <;> subst h
  all_goals
    go_enter Tryd.func60, Tryd.ntmps60
    go_wp2
    go_ret
    exact ⟨rfl, rfl⟩

theorem known_no (p : Int) (w : World) (h : Fp.kn p = false) :
    Calls Tryd.prog 60 #[.int .u64 p] w fun e w' => e = .returned (.bool false) ∧ w = w' := by
  simp only [Fp.kn, Bool.or_eq_false_iff] at h
  obtain ⟨⟨h1, h2⟩, h3⟩ := h
  go_enter Tryd.func60, Tryd.ntmps60
  go_wp2
  go_ret
  exact ⟨rfl, rfl⟩

/-- It returns v, and has only drawn. -/
def RetQ (v : Value) (w : World) (e : Ending) (w' : World) : Prop := e = .returned v ∧ ∃ n, w' = w.drewN n

theorem reduce_yes (p a : Int) (w : World) (h : Fp.kn p = true) (a0 : 0 ≤ a) (a1 : a < 18446744073709551616) :
    Calls Tryd.prog 104 #[.int .u64 p, .int .u64 a] w fun e w' => e = .returned (.int .u64 (Fp.red p a)) ∧ w = w' := by
  have hr : Hid (Fp.red p a = a % p) := Lib.hid (by unfold Fp.red; rw [if_pos h])
  have hb := Fp.kn_bd h
  obtain ⟨b1, b2⟩ := hb
  have l1 := Fp.md_lo a (Fp.kn_pos h)
  have l2 := Fp.md_hi a (Fp.kn_pos h)
  have H := Lib.hid h; clear h
  go_enter Tryd.func104, Tryd.ntmps104
  go_wp2_with (go_at_call 60; refine (known_yes p _ H.out).mono ?_; rintro e w' ⟨rfl, rfl⟩)
  go_ret
  exact ⟨ret_u64 hr.out.symm, rfl⟩

theorem add_yes (p a b : Int) (w : World) (h : Fp.kn p = true) (a0 : 0 ≤ a) (a1 : a < 18446744073709551616) (b0 : 0 ≤ b) (b1 : b < 18446744073709551616) :
    Calls Tryd.prog 120 #[.int .u64 p, .int .u64 a, .int .u64 b] w (RetQ (.int .u64 (Fp.add p a b)) w) := by
  have hr : Hid (Fp.add p a b = (a + b) % p) := Lib.hid (by unfold Fp.add; rw [if_pos h])
  obtain ⟨p1, p2⟩ := Fp.kn_bd h
  have l1 := Fp.md_lo a (Fp.kn_pos h)
  have l2 := Fp.md_hi a (Fp.kn_pos h)
  have l3 := Fp.md_lo b (Fp.kn_pos h)
  have l4 := Fp.md_hi b (Fp.kn_pos h)
  have H := Lib.hid h; clear h
  by_cases hc : a % p < p - b % p
  · have he := Lib.hid (Fp.add_low (Fp.kn_pos H.out) hc)
    go_enter Tryd.func120, Tryd.ntmps120
    go_wp2_with (go_at_call 60; refine (known_yes p _ H.out).mono ?_; rintro e w' ⟨rfl, rfl⟩)
    go_quiet (fail)
    go_wp2
    go_ret
    exact ⟨ret_u64 (he.out.trans hr.out.symm), _, rfl⟩
  · have he := Lib.hid (Fp.add_high (a := a) (b := b) (Fp.kn_pos H.out) (by omega))
    go_enter Tryd.func120, Tryd.ntmps120
    go_wp2_with (go_at_call 60; refine (known_yes p _ H.out).mono ?_; rintro e w' ⟨rfl, rfl⟩)
    go_quiet (fail)
    go_wp2
    go_ret
    exact ⟨ret_u64 (he.out.trans hr.out.symm), _, rfl⟩

theorem sub_yes (p a b : Int) (w : World) (h : Fp.kn p = true) (a0 : 0 ≤ a) (a1 : a < 18446744073709551616) (b0 : 0 ≤ b) (b1 : b < 18446744073709551616) :
    Calls Tryd.prog 125 #[.int .u64 p, .int .u64 a, .int .u64 b] w (RetQ (.int .u64 (Fp.sub p a b)) w) := by
  have hr : Hid (Fp.sub p a b = (a - b) % p) := Lib.hid (by unfold Fp.sub; rw [if_pos h])
  obtain ⟨p1, p2⟩ := Fp.kn_bd h
  have l1 := Fp.md_lo a (Fp.kn_pos h)
  have l2 := Fp.md_hi a (Fp.kn_pos h)
  have l3 := Fp.md_lo b (Fp.kn_pos h)
  have l4 := Fp.md_hi b (Fp.kn_pos h)
  have H := Lib.hid h; clear h
  by_cases hc : a % p < b % p
  · have he := Lib.hid (Fp.sub_low (Fp.kn_pos H.out) hc)
    go_enter Tryd.func125, Tryd.ntmps125
    go_wp2_with (go_at_call 60; refine (known_yes p _ H.out).mono ?_; rintro e w' ⟨rfl, rfl⟩)
    go_quiet (fail)
    go_wp2
    go_ret
    exact ⟨ret_u64 (he.out.trans hr.out.symm), _, rfl⟩
  · have he := Lib.hid (Fp.sub_high (a := a) (b := b) (Fp.kn_pos H.out) (by omega))
    go_enter Tryd.func125, Tryd.ntmps125
    go_wp2_with (go_at_call 60; refine (known_yes p _ H.out).mono ?_; rintro e w' ⟨rfl, rfl⟩)
    go_quiet (fail)
    go_wp2
    go_ret
    exact ⟨ret_u64 (he.out.trans hr.out.symm), _, rfl⟩

theorem reduce_any (p a : Int) (w : World) (a0 : 0 ≤ a) (a1 : a < 18446744073709551616) :
    Calls Tryd.prog 104 #[.int .u64 p, .int .u64 a] w fun e w' => e = .returned (.int .u64 (Fp.red p a)) ∧ w = w' := by
  cases h : Fp.kn p
  · have he := Lib.hid (Fp.red_no a h)
    have H := Lib.hid h; clear h
    go_enter Tryd.func104, Tryd.ntmps104
    go_wp2_with (go_at_call 60; refine (known_no p _ H.out).mono ?_; rintro e w' ⟨rfl, rfl⟩)
    go_ret
    exact ⟨ret_u64 he.out.symm, rfl⟩
  · exact reduce_yes p a w h a0 a1

theorem add_any (p a b : Int) (w : World) (a0 : 0 ≤ a) (a1 : a < 18446744073709551616) (b0 : 0 ≤ b) (b1 : b < 18446744073709551616) :
    Calls Tryd.prog 120 #[.int .u64 p, .int .u64 a, .int .u64 b] w (RetQ (.int .u64 (Fp.add p a b)) w) := by
  cases h : Fp.kn p
  · have he := Lib.hid (Fp.red_no (a + b) h)
    have H := Lib.hid h; clear h
    go_enter Tryd.func120, Tryd.ntmps120
    go_wp2_with (go_at_call 60; refine (known_no p _ H.out).mono ?_; rintro e w' ⟨rfl, rfl⟩)
    go_ret
    exact ⟨ret_u64 he.out.symm, 0, rfl⟩
  · exact add_yes p a b w h a0 a1 b0 b1

theorem sub_any (p a b : Int) (w : World) (a0 : 0 ≤ a) (a1 : a < 18446744073709551616) (b0 : 0 ≤ b) (b1 : b < 18446744073709551616) :
    Calls Tryd.prog 125 #[.int .u64 p, .int .u64 a, .int .u64 b] w (RetQ (.int .u64 (Fp.sub p a b)) w) := by
  cases h : Fp.kn p
  · have he := Lib.hid (Fp.red_no (a - b) h)
    have H := Lib.hid h; clear h
    go_enter Tryd.func125, Tryd.ntmps125
    go_wp2_with (go_at_call 60; refine (known_no p _ H.out).mono ?_; rintro e w' ⟨rfl, rfl⟩)
    go_ret
    exact ⟨ret_u64 he.out.symm, 0, rfl⟩
  · exact sub_yes p a b w h a0 a1 b0 b1

end Go.Proofs.YtlbfllaaabginaaDoor

/-!   What math/bits.Mul64 and Rem64 come to, where field.Mul calls them: the product of two words in two words; what is left over of two words by one of the three primes.
-/

namespace Go.Proofs.YtlbfllaaabginaaDoor
open Go.RowKit

namespace Wd
theorem maskN (a : Nat) (ha : a < 18446744073709551616) : bits .and .u64 (a : Int) 4294967295 = ((a % 4294967296 : Nat) : Int) := by
  have h := bits_and_u64_nat a 4294967295 ha (by omega)
  rw [show a &&& 4294967295 = a % 4294967296 from Nat.and_two_pow_sub_one_eq_mod a 32] at h
  exact h
theorem divN (a : Nat) : (a : Int) / 4294967296 = ((a / 4294967296 : Nat) : Int) := by omega
theorem mulN (a b : Nat) : (a : Int) * (b : Int) = ((a * b : Nat) : Int) := (Int.natCast_mul a b).symm
theorem addN (a b : Nat) : (a : Int) + (b : Int) = ((a + b : Nat) : Int) := (Int.natCast_add a b).symm
theorem wrapN (a : Nat) (ha : a < 18446744073709551616) : IntKind.u64.wrap (a : Int) = (a : Int) := by rw [IntKind.wrap_u64]; omega
theorem wrapM (a : Nat) : IntKind.u64.wrap (a : Int) = ((a % 18446744073709551616 : Nat) : Int) := by rw [IntKind.wrap_u64]; omega
end Wd

theorem ret_i64 {a b : Int} (h : a = b) : Ending.returned (.int .i64 a) = .returned (.int .i64 b) := by rw [h]
theorem tup_u64 {a b c d : Int} (h : a = c) (h' : b = d) : Ending.returned (.tuple #[.int .u64 a, .int .u64 b]) = .returned (.tuple #[.int .u64 c, .int .u64 d]) := by rw [h, h']

set_option maxHeartbeats 1000000 in
theorem mul64_nat (x y : Nat) (hx : x < 18446744073709551616) (hy : y < 18446744073709551616) (w : World) :
    Calls Tryd.prog 79 #[.int .u64 x, .int .u64 y] w fun e w' => e = .returned (.tuple #[.int .u64 ((x * y / 18446744073709551616 : Nat) : Int), .int .u64 ((x * y % 18446744073709551616 : Nat) : Int)]) ∧ w = w' := by
  obtain ⟨bd, bt, bw, hhi⟩ := Lib.mul64_hi x y hx hy
  have ba := Lib.half_mul_le (a := x / 4294967296) (b := y / 4294967296) (by omega) (by omega)
  have bb := Lib.half_mul_le (a := x / 4294967296) (b := y % 4294967296) (by omega) (by omega)
  have bc := Lib.half_mul_le (a := x % 4294967296) (b := y / 4294967296) (by omega) (by omega)
  have ba' : x / 4294967296 * (y / 4294967296) < 18446744073709551616 := by omega
  have bb' : x / 4294967296 * (y % 4294967296) < 18446744073709551616 := by omega
  have bc' : x % 4294967296 * (y / 4294967296) < 18446744073709551616 := by omega
  have bh1 : x / 4294967296 * (y / 4294967296) + (x / 4294967296 * (y % 4294967296) + x % 4294967296 * (y % 4294967296) / 4294967296) / 4294967296 < 18446744073709551616 := by omega
  have bh : x / 4294967296 * (y / 4294967296) + (x / 4294967296 * (y % 4294967296) + x % 4294967296 * (y % 4294967296) / 4294967296) / 4294967296 + ((x / 4294967296 * (y % 4294967296) + x % 4294967296 * (y % 4294967296) / 4294967296) % 4294967296 + x % 4294967296 * (y / 4294967296)) / 4294967296 < 18446744073709551616 := by omega
  have HH := Lib.hid hhi; clear hhi
  have HB := Lib.hid (And.intro bd (And.intro bb' (And.intro bt (And.intro bc' (And.intro bw (And.intro ba' (And.intro bh1 bh)))))))
  clear bd bb' bt bc' bw ba' bh1 bh ba bb bc
  go_enter Tryd.func79, Tryd.ntmps79
  go_wp2
  go_ret2
  obtain ⟨bd, bb', bt, bc', bw, ba', bh1, bh⟩ := HB.out
  refine ⟨tup_u64 ?_ ?_, rfl⟩
  · simp only [Wd.maskN x hx, Wd.maskN y hy, Wd.divN, Wd.mulN, Wd.addN, Wd.wrapN _ bd, Wd.wrapN _ bb', Wd.wrapN _ bt, Wd.maskN _ bt, Wd.wrapN _ bc', Wd.wrapN _ bw, Wd.wrapN _ ba', Wd.wrapN _ bh1, Wd.wrapN _ bh]
    rw [HH.out]
  · rw [Wd.mulN, Wd.wrapM]

set_option maxRecDepth 100000 in
theorem len_P0 (w : World) : Calls Tryd.prog 124 #[.int .u64 18446744069414584321] w fun e w' => e = .returned (.int .i64 64) ∧ w = w' := by
  go_enter Tryd.func124, Tryd.ntmps124
  go_wp2
  go_ret
  exact ⟨ret_i64 (by kernel_rfl), rfl⟩
theorem lead_P0 (w : World) : Calls Tryd.prog 116 #[.int .u64 18446744069414584321] w fun e w' => e = .returned (.int .i64 0) ∧ w = w' := by
  go_enter Tryd.func116, Tryd.ntmps116
  go_wp2_with (go_at_call 124; refine (len_P0 _).mono ?_; rintro e w' ⟨rfl, rfl⟩)
  go_ret
  exact ⟨rfl, rfl⟩

theorem div_low (lo y : Int) (w : World) (l0 : 0 ≤ lo) (l1 : lo < 18446744073709551616) (y0 : 1 ≤ y) (y1 : y < 18446744073709551616) :
    Calls Tryd.prog 101 #[.int .u64 0, .int .u64 lo, .int .u64 y] w (RetQ (.tuple #[.int .u64 (lo / y), .int .u64 (lo % y)]) w) := by
  have q0 : 0 ≤ lo / y := Int.ediv_nonneg l0 (by omega)
  have q1 : lo / y ≤ lo := Int.ediv_le_self _ l0
  have r0 := Fp.md_lo lo (p := y) (by omega)
  have r1 := Fp.md_hi lo (p := y) (by omega)
  go_enter Tryd.func101, Tryd.ntmps101
  go_wp2
  go_quiet (fail)
  go_wp2
  go_ret2
  exact ⟨rfl, _, rfl⟩

namespace Wd
theorem or_zero (hi lo : Int) (h0 : 0 ≤ hi) (h1 : hi < 18446744073709551616) (l0 : 0 ≤ lo) (l1 : lo < 18446744073709551616) : bits .or .u64 hi (lo / 18446744073709551616) = hi := by
  obtain ⟨n, rfl⟩ := Int.eq_ofNat_of_zero_le h0
  rw [show lo / 18446744073709551616 = ((0 : Nat) : Int) by omega]
  rw [bits_or_u64_nat n 0 (by omega) (by omega)]
  simp
theorem mask_int (lo : Int) (l0 : 0 ≤ lo) (l1 : lo < 18446744073709551616) : bits .and .u64 lo 4294967295 = lo % 4294967296 := by
  obtain ⟨n, rfl⟩ := Int.eq_ofNat_of_zero_le l0
  rw [maskN n (by omega)]; omega
theorem mask_P0 : bits .and .u64 18446744069414584321 4294967295 = 1 := by
  have := mask_int 18446744069414584321 (by omega) (by omega)
  rw [this]; omega
theorem quo1 (hi : Int) (h0 : 0 ≤ hi) (h1 : hi < 18446744073709551616) : IntKind.u64.wrap (hi.tdiv 4294967295) = hi / 4294967295 := by
  rw [IntKind.wrap_u64, Int.tdiv_eq_ediv_of_nonneg h0]; omega
theorem rem1 (hi : Int) (_h0 : 0 ≤ hi) (_h1 : hi < 18446744073709551616) : IntKind.u64.wrap (hi - IntKind.u64.wrap (hi / 4294967295 * 4294967295)) = hi % 4294967295 := by
  rw [IntKind.wrap_u64, IntKind.wrap_u64]; omega
end Wd

/-- It returns some quotient and the rest r, and has done nothing else. -/
def RemQ (r : Int) (w : World) (e : Ending) (w' : World) : Prop := ∃ q : Int, e = .returned (.tuple #[.int .u64 q, .int .u64 r]) ∧ w = w'

set_option maxHeartbeats 400000 in
theorem div_P0 (hi lo : Int) (w : World) (h0 : 1 ≤ hi) (h1 : hi < 18446744069414584321) (l0 : 0 ≤ lo) (l1 : lo < 18446744073709551616) :
    Calls Tryd.prog 101 #[.int .u64 hi, .int .u64 lo, .int .u64 18446744069414584321] w (RemQ ((hi * 18446744073709551616 + lo) % 18446744069414584321) w) := by
  go_enter Tryd.func101, Tryd.ntmps101
  go_wp2_with (go_at_call 116; refine (lead_P0 _).mono ?_; rintro e w' ⟨rfl, rfl⟩)
  simp only [Wd.or_zero hi lo (by omega) (by omega) l0 l1, Wd.mask_P0, Wd.mask_int lo l0 l1, Wd.quo1 hi (by omega) (by omega), Wd.rem1 hi (by omega) (by omega), show decide ((18446744069414584321 : Int) ≤ hi) = false by simp; omega]
  go_loop [15, 16] (fun a b => ∃ q r : Int, 0 ≤ q ∧ q ≤ 4294967296 ∧ 0 ≤ r ∧ r < 4294967296 ∧ q * 4294967295 + r ≤ hi ∧ hi ≤ q * 4294967295 + r ∧ hi * 4294967296 + lo / 4294967296 < (q + 1) * 18446744069414584321 ∧ a = .int .u64 q ∧ b = .int .u64 r) (fun a _ => (intOf a).toNat)
  case atStart => exact ⟨hi / 4294967295, hi % 4294967295, by omega, by omega, by omega, by omega, by omega, by omega, by omega, rfl, rfl⟩
  case round =>
    obtain ⟨q, r, q0, q1, r0, r1, e0, e1, hq, rfl, rfl⟩ := hrel
    by_cases c1 : 4294967296 ≤ q
    · go_wp2
      go_round
      case rel => exact ⟨q - 1, r + 4294967295, by omega, by omega, by omega, by omega, by omega, by omega, by omega, rfl, rfl⟩
      case measure => simp [intOf]; omega
    · by_cases c2 : 4294967296 * r + lo / 4294967296 < q
      · go_wp2
        go_round
        case rel => exact ⟨q - 1, r + 4294967295, by omega, by omega, by omega, by omega, by omega, by omega, by omega, rfl, rfl⟩
        case measure => simp [intOf]; omega
      · go_wp2
        obtain ⟨v, hv⟩ : ∃ v, IntKind.u64.wrap (IntKind.u64.wrap (IntKind.u64.wrap (hi * 4294967296) + lo / 4294967296) - IntKind.u64.wrap (q * 18446744069414584321)) = v := ⟨_, rfl⟩
        have v1 : v ≤ hi * 4294967296 + lo / 4294967296 - q * 18446744069414584321 := by rw [← hv]; simp only [IntKind.wrap_u64]; omega
        have v2 : hi * 4294967296 + lo / 4294967296 - q * 18446744069414584321 ≤ v := by rw [← hv]; simp only [IntKind.wrap_u64]; omega
        have v3 : 0 ≤ v := by omega
        have v4 : v < 18446744069414584321 := by omega
        simp only [hv, Wd.quo1 v (by omega) (by omega), Wd.rem1 v (by omega) (by omega)]
        clear hv
        go_loop [18, 16] (fun a b => ∃ q' r' : Int, 0 ≤ q' ∧ q' ≤ 4294967296 ∧ 0 ≤ r' ∧ r' < 4294967296 ∧ q' * 4294967295 + r' ≤ v ∧ v ≤ q' * 4294967295 + r' ∧ v * 4294967296 + lo % 4294967296 < (q' + 1) * 18446744069414584321 ∧ a = .int .u64 q' ∧ b = .int .u64 r') (fun a _ => (intOf a).toNat)
        case atStart => exact ⟨v / 4294967295, v % 4294967295, by omega, by omega, by omega, by omega, by omega, by omega, by omega, rfl, rfl⟩
        case round =>
          obtain ⟨q', r', q0', q1', r0', r1', e0', e1', hq', rfl, rfl⟩ := hrel
          by_cases c1' : 4294967296 ≤ q'
          · go_wp2
            go_round
            case rel => exact ⟨q' - 1, r' + 4294967295, by omega, by omega, by omega, by omega, by omega, by omega, by omega, rfl, rfl⟩
            case measure => simp [intOf]; omega
          · by_cases c2' : 4294967296 * r' + lo % 4294967296 < q'
            · go_wp2
              go_round
              case rel => exact ⟨q' - 1, r' + 4294967295, by omega, by omega, by omega, by omega, by omega, by omega, by omega, rfl, rfl⟩
              case measure => simp [intOf]; omega
            · go_wp2
              go_ret2
              refine ⟨_, tup_u64 rfl ?_, rfl⟩
              simp only [IntKind.wrap_u64]
              omega

/-- Rem64 of two words whose high one is 0. -/
theorem rem_low (lo y : Int) (w : World) (l0 : 0 ≤ lo) (l1 : lo < 18446744073709551616) (y0 : 1 ≤ y) (y1 : y < 18446744073709551616) :
    Calls Tryd.prog 80 #[.int .u64 0, .int .u64 lo, .int .u64 y] w (RetQ (.int .u64 (lo % y)) w) := by
  go_enter Tryd.func80, Tryd.ntmps80
  go_wp2_with (go_at_call 101; refine (div_low lo y _ l0 l1 y0 y1).mono ?_; rintro e w' ⟨rfl, n, rfl⟩)
  go_ret
  exact ⟨rfl, n, rfl⟩

/-- Rem64 by P0. -/
theorem rem_P0 (hi lo : Int) (w : World) (h0 : 0 ≤ hi) (h1 : hi < 18446744069414584321) (l0 : 0 ≤ lo) (l1 : lo < 18446744073709551616) :
    Calls Tryd.prog 80 #[.int .u64 hi, .int .u64 lo, .int .u64 18446744069414584321] w (RetQ (.int .u64 ((hi * 18446744073709551616 + lo) % 18446744069414584321)) w) := by
  by_cases hz : hi = 0
  · subst hz
    have := rem_low lo 18446744069414584321 w l0 l1 (by omega) (by omega)
    rw [show ((0 : Int) * 18446744073709551616 + lo) = lo by omega]
    exact this
  · have h2 : 1 ≤ hi := by omega
    have e1 := Lib.hid (Int.emod_eq_of_lt h0 h1)
    clear hz
    go_enter Tryd.func80, Tryd.ntmps80
    go_wp2_with fail
    rw [e1.out]
    refine (div_P0 hi lo _ h2 h1 l0 l1).mono ?_
    rintro e w' ⟨q, rfl, rfl⟩
    go_wp2
    go_ret
    exact ⟨rfl, 0, rfl⟩

end Go.Proofs.YtlbfllaaabginaaDoor

/-!   What field.Mul comes to: the product by a known prime, for every two words; 0 by what is no such prime.
-/

namespace Go.Proofs.YtlbfllaaabginaaDoor
open Go.RowKit

theorem mul64_int (x y : Int) (x0 : 0 ≤ x) (x1 : x < 18446744073709551616) (y0 : 0 ≤ y) (y1 : y < 18446744073709551616) (w : World) :
    Calls Tryd.prog 79 #[.int .u64 x, .int .u64 y] w fun e w' => e = .returned (.tuple #[.int .u64 (x * y / 18446744073709551616), .int .u64 (x * y % 18446744073709551616)]) ∧ w' = w := by
  obtain ⟨a, rfl⟩ := Int.eq_ofNat_of_zero_le x0
  obtain ⟨b, rfl⟩ := Int.eq_ofNat_of_zero_le y0
  refine (mul64_nat a b (by omega) (by omega) w).mono ?_
  rintro e w' ⟨rfl, rfl⟩
  exact ⟨tup_u64 (by simp) (by simp), rfl⟩

theorem mul_high {x y p : Int} (x0 : 0 ≤ x) (x1 : x < p) (y0 : 0 ≤ y) (y1 : y < p) (hp : p ≤ 18446744073709551616) :
    0 ≤ x * y ∧ 0 ≤ x * y / 18446744073709551616 ∧ x * y / 18446744073709551616 < p := by
  have h1 : 0 ≤ x * y := Int.mul_nonneg x0 y0
  have h2 : x * y ≤ x * 18446744073709551616 := Int.mul_le_mul_of_nonneg_left (by omega) x0
  refine ⟨h1, by omega, ?_⟩
  have : x * y / 18446744073709551616 ≤ x := by omega
  omega

theorem prod_back (p a b : Int) : (a % p * (b % p) / 18446744073709551616 * 18446744073709551616 + a % p * (b % p) % 18446744073709551616) % p = (a * b) % p := by
  rw [show a % p * (b % p) / 18446744073709551616 * 18446744073709551616 + a % p * (b % p) % 18446744073709551616 = a % p * (b % p) by omega]
  exact Fp.mul_md

theorem mul_yes (p a b : Int) (w : World) (h : Fp.kn p = true) (a0 : 0 ≤ a) (a1 : a < 18446744073709551616) (b0 : 0 ≤ b) (b1 : b < 18446744073709551616) :
    Calls Tryd.prog 56 #[.int .u64 p, .int .u64 a, .int .u64 b] w (RetQ (.int .u64 (Fp.mul p a b)) w) := by
  have hr : Hid (Fp.mul p a b = (a * b) % p) := Lib.hid (by unfold Fp.mul; rw [if_pos h])
  obtain ⟨p1, p2⟩ := Fp.kn_bd h
  have l1 := Fp.md_lo a (Fp.kn_pos h)
  have l2 := Fp.md_hi a (Fp.kn_pos h)
  have l3 := Fp.md_lo b (Fp.kn_pos h)
  have l4 := Fp.md_hi b (Fp.kn_pos h)
  have M := Lib.hid (mul_high l1 l2 l3 l4 (by omega))
  have H := Lib.hid h; clear h
  go_enter Tryd.func56, Tryd.ntmps56
  go_wp2_with (go_at_call 60; refine (known_yes p _ H.out).mono ?_; rintro e w' ⟨rfl, rfl⟩)
  go_quiet ((go_at_call 79; exact Calls.quiet_of_same (mul64_int _ _ l1 (by omega) l3 (by omega) _)))
  go_wp2_with fail
  obtain ⟨m0, m1, m2⟩ := M.out
  rcases Fp.kn_cases H.out with h | h | h
  · have e1 := prod_back p a b
    subst h
    refine (rem_P0 _ _ _ m1 m2 (by omega) (by omega)).mono ?_
    rintro e w' ⟨rfl, n, rfl⟩
    rw [e1]
    go_wp2
    go_ret
    exact ⟨ret_u64 hr.out.symm, _, rfl⟩
  all_goals
    have s1 : a % p * (b % p) ≤ 2013265921 * 2013265921 := Int.mul_le_mul (by omega) (by omega) l3 (by omega)
    have e1 := prod_back p a b
    have s2 : a % p * (b % p) / 18446744073709551616 = 0 := by omega
    rw [s2] at e1 ⊢
    rw [show (0 : Int) * 18446744073709551616 + a % p * (b % p) % 18446744073709551616 = a % p * (b % p) % 18446744073709551616 by omega] at e1
    have l5 : 0 ≤ a % p * (b % p) % 18446744073709551616 := by omega
    have l6 : a % p * (b % p) % 18446744073709551616 < 18446744073709551616 := by omega
    refine (rem_low _ p _ l5 l6 (by omega) (by omega)).mono ?_
    rintro e w' ⟨rfl, n, rfl⟩
    rw [e1]
    clear e1 s1 s2 l5 l6 m0 m1 m2 h
    go_wp2
    go_ret
    exact ⟨ret_u64 hr.out.symm, _, rfl⟩

theorem mul_any (p a b : Int) (w : World) (a0 : 0 ≤ a) (a1 : a < 18446744073709551616) (b0 : 0 ≤ b) (b1 : b < 18446744073709551616) :
    Calls Tryd.prog 56 #[.int .u64 p, .int .u64 a, .int .u64 b] w (RetQ (.int .u64 (Fp.mul p a b)) w) := by
  cases h : Fp.kn p
  · have he := Lib.hid (Fp.red_no (a * b) h)
    have H := Lib.hid h; clear h
    go_enter Tryd.func56, Tryd.ntmps56
    go_wp2_with (go_at_call 60; refine (known_no p _ H.out).mono ?_; rintro e w' ⟨rfl, rfl⟩)
    go_ret
    exact ⟨ret_u64 he.out.symm, 0, rfl⟩
  · exact mul_yes p a b w h a0 a1 b0 b1

end Go.Proofs.YtlbfllaaabginaaDoor

/-!   What power.Pow and power.Inv come to, over every input: the numbers of XMathPow.
-/

namespace Go.Proofs.YtlbfllaaabginaaDoor
open Go.RowKit

theorem pow_no (p a n : Int) (w : World) (h : Fp.kn p = false) :
    Calls Tryd.prog 86 #[.int .u64 p, .int .u64 a, .int .u64 n] w (RetQ (.int .u64 0) w) := by
  have H := Lib.hid h; clear h
  go_enter Tryd.func86, Tryd.ntmps86
  go_wp2_with (go_at_call 60; refine (known_no p _ H.out).mono ?_; rintro e w' ⟨rfl, rfl⟩)
  go_ret
  exact ⟨rfl, 0, rfl⟩

set_option maxHeartbeats 400000 in
theorem pow_yes (p a n : Int) (w : World) (h : Fp.kn p = true) (a0 : 0 ≤ a) (a1 : a < 18446744073709551616) (n0 : 0 ≤ n) (n1 : n < 18446744073709551616) :
    Calls Tryd.prog 86 #[.int .u64 p, .int .u64 a, .int .u64 n] w (RetQ (.int .u64 (Fp.pw p a n.toNat)) w) := by
  have H := Lib.hid h; clear h
  go_enter Tryd.func86, Tryd.ntmps86
  go_wp2_with (go_at_call 60; refine (known_yes p _ H.out).mono ?_; rintro e w' ⟨rfl, rfl⟩)
  go_loopw [1, 2, 7] (fun b m x wr => ∃ (y mm z : Int) (k : Nat), b = .int .u64 y ∧ m = .int .u64 mm ∧ x = .int .u64 z ∧ 0 ≤ y ∧ y < 18446744073709551616 ∧ 0 ≤ mm ∧ mm < 18446744073709551616 ∧ 0 ≤ z ∧ z < 18446744073709551616 ∧ wr = w.drewN k ∧ Hid (Fp.red p (z * y ^ mm.toNat) = Fp.pw p a n.toNat ∧ Fp.red p z = z)) (fun _ m _ _ => (intOf m).toNat)
  case atStart => exact ⟨a, n, 1, 0, rfl, rfl, rfl, a0, a1, n0, n1, by omega, by omega, rfl, Lib.hid ⟨by rw [Int.one_mul]; rfl, Fp.red_one H.out⟩⟩
  case round =>
    obtain ⟨y, mm, z, k, rfl, rfl, rfl, y0, y1, m0, m1, z0, z1, rfl, HR⟩ := hrel
    by_cases hlt : 0 < mm
    · have hand := and_one_u64 mm m0 (by omega)
      obtain ⟨u0, u1, _⟩ := Fp.mul_bd p y y
      obtain ⟨v0, v1, _⟩ := Fp.mul_bd p z y
      by_cases hodd : mm % 2 = 1
      · have HN : Hid (Fp.red p (Fp.mul p z y * Fp.mul p y y ^ (mm / 2).toNat) = Fp.pw p a n.toNat) := Lib.hid (by
          rw [← HR.out.1, show (mm / 2).toNat = mm.toNat / 2 by omega]; exact Fp.sq_odd p z y mm.toNat (by omega))
        go_wp2_with (go_at_call 56; refine (mul_any _ _ _ _ (by omega) (by omega) (by omega) (by omega)).mono ?_; rintro e w' ⟨rfl, n, rfl⟩)
        go_roundw
        case rel => exact ⟨_, mm / 2, _, _, rfl, rfl, rfl, by omega, by omega, by omega, by omega, by omega, by omega, rfl, Lib.hid ⟨HN.out, Fp.red_mul _ _ _⟩⟩
        case measure => simp [intOf]; omega
      · have hodd' : (mm % 2 == 1) = false := by simpa using hodd
        have HN : Hid (Fp.red p (z * Fp.mul p y y ^ (mm / 2).toNat) = Fp.pw p a n.toNat) := Lib.hid (by
          rw [← HR.out.1, show (mm / 2).toNat = mm.toNat / 2 by omega]; exact Fp.sq_even p z y mm.toNat (by omega))
        go_wp2_with (go_at_call 56; refine (mul_any _ _ _ _ (by omega) (by omega) (by omega) (by omega)).mono ?_; rintro e w' ⟨rfl, n, rfl⟩)
        go_roundw
        case rel => exact ⟨_, mm / 2, _, _, rfl, rfl, rfl, by omega, by omega, by omega, by omega, by omega, by omega, rfl, Lib.hid ⟨HN.out, HR.out.2⟩⟩
        case measure => simp [intOf]; omega
    · have hz : Hid (z = Fp.pw p a n.toNat) := Lib.hid (by
        obtain ⟨e1, e2⟩ := HR.out
        rw [show mm.toNat = 0 by omega, Int.pow_zero, Int.mul_one, e2] at e1; exact e1)
      go_wp2
      go_ret
      exact ⟨ret_u64 hz.out, _, rfl⟩

theorem pow_any (p a n : Int) (w : World) (a0 : 0 ≤ a) (a1 : a < 18446744073709551616) (n0 : 0 ≤ n) (n1 : n < 18446744073709551616) :
    Calls Tryd.prog 86 #[.int .u64 p, .int .u64 a, .int .u64 n] w (RetQ (.int .u64 (Fp.pw p a n.toNat)) w) := by
  cases h : Fp.kn p
  · rw [Fp.pw_no _ _ h]; exact pow_no p a n w h
  · exact pow_yes p a n w h a0 a1 n0 n1

/-! power.Inv: by what is no prime; of what is 0; of all else. -/
theorem inv_noprime (p a : Int) (w : World) (h : Fp.kn p = false) :
    Calls Tryd.prog 84 #[.int .u64 p, .int .u64 a] w (RetQ (.tuple #[.int .u64 0, .int .i64 2]) w) := by
  have H := Lib.hid h; clear h
  go_enter Tryd.func84, Tryd.ntmps84
  go_wp2_with (go_at_call 60; refine (known_no p _ H.out).mono ?_; rintro e w' ⟨rfl, rfl⟩)
  go_ret2
  exact ⟨rfl, 0, rfl⟩

theorem inv_zero (p a : Int) (w : World) (h : Fp.kn p = true) (a0 : 0 ≤ a) (a1 : a < 18446744073709551616) (hz : Fp.red p a = 0) :
    Calls Tryd.prog 84 #[.int .u64 p, .int .u64 a] w (RetQ (.tuple #[.int .u64 0, .int .i64 9]) w) := by
  have H := Lib.hid h; clear h
  have t : (Fp.red p a == 0) = true := by rw [hz]; rfl
  clear hz
  go_enter Tryd.func84, Tryd.ntmps84
  go_wp2_with (first
    | (go_at_call 60; refine (known_yes p _ H.out).mono ?_; rintro e w' ⟨rfl, rfl⟩)
    | (go_at_call 104; refine (reduce_any _ _ _ (by omega) (by omega)).mono ?_; rintro e w' ⟨rfl, rfl⟩))
  go_ret2
  exact ⟨rfl, 0, rfl⟩

theorem tup_ret {a b : Value} {e f : Value} (h : a = b) (k : e = f) : Ending.returned (.tuple #[a, e]) = .returned (.tuple #[b, f]) := by rw [h, k]
theorem inv_num {p a : Int} (h : Fp.kn p = true) : Fp.pw p a (p - 2).toNat = Fp.inv p a := by
  unfold Fp.inv; rw [show (p - 2).toNat = p.toNat - 2 by have := Fp.kn_bd h; omega]

theorem inv_yes (p a : Int) (w : World) (h : Fp.kn p = true) (a0 : 0 ≤ a) (a1 : a < 18446744073709551616) (hz : Fp.red p a ≠ 0) :
    Calls Tryd.prog 84 #[.int .u64 p, .int .u64 a] w (RetQ (.tuple #[.int .u64 (Fp.inv p a), .int .i64 0]) w) := by
  obtain ⟨p1, p2⟩ := Fp.kn_bd h
  have hn := Lib.hid (inv_num (a := a) h)
  have H := Lib.hid h; clear h
  have t : (Fp.red p a == 0) = false := beq_eq_false_iff_ne.2 hz
  clear hz
  go_enter Tryd.func84, Tryd.ntmps84
  go_wp2_with (first
    | (go_at_call 60; refine (known_yes p _ H.out).mono ?_; rintro e w' ⟨rfl, rfl⟩)
    | (go_at_call 104; refine (reduce_any _ _ _ (by omega) (by omega)).mono ?_; rintro e w' ⟨rfl, rfl⟩)
    | (go_at_call 86; refine (pow_any _ _ _ _ (by omega) (by omega) (by omega) (by omega)).mono ?_; rintro e w' ⟨rfl, n, rfl⟩))
  go_ret2
  exact ⟨tup_ret (congrArg (Value.int .u64) hn.out) rfl, _, rfl⟩

end Go.Proofs.YtlbfllaaabginaaDoor

/-!   What power.Powers comes to: the powers in order, in a new slice, or why not.
-/

namespace Go.Proofs.YtlbfllaaabginaaDoor
open Go.RowKit

/-- What a call returns that makes a list of words, with no error: the list, in memory of its own. -/
def ListRet (w : World) (xs : List Int) (e : Ending) (w' : World) : Prop :=
  ∃ v, e = .returned (.tuple #[v, .int .i64 0]) ∧ Owns .u64 22 w' w.heap.size v xs ∧ Below w.heap.size w w'

theorem powers_noprime (p a many : Int) (w : World) (h : Fp.kn p = false) :
    Calls Tryd.prog 83 #[.int .u64 p, .int .u64 a, .int .i64 many] w (RetQ (.tuple #[.slice none 0 0, .int .i64 2]) w) := by
  have H := Lib.hid h; clear h
  go_enter Tryd.func83, Tryd.ntmps83
  go_wp2_with (go_at_call 60; refine (known_no p _ H.out).mono ?_; rintro e w' ⟨rfl, rfl⟩)
  go_ret2
  exact ⟨rfl, 0, rfl⟩

theorem powers_bad (p a many : Int) (w : World) (h : Fp.kn p = true) (hm : many < 0 ∨ 65536 < many) :
    Calls Tryd.prog 83 #[.int .u64 p, .int .u64 a, .int .i64 many] w (RetQ (.tuple #[.slice none 0 0, .int .i64 1]) w) := by
  have H := Lib.hid h; clear h
  by_cases h0 : many < 0
  · go_enter Tryd.func83, Tryd.ntmps83
    go_wp2_with (go_at_call 60; refine (known_yes p _ H.out).mono ?_; rintro e w' ⟨rfl, rfl⟩)
    go_ret2
    exact ⟨rfl, 0, rfl⟩
  · have h1 : 65536 < many := by omega
    clear hm
    go_enter Tryd.func83, Tryd.ntmps83
    go_wp2_with (go_at_call 60; refine (known_yes p _ H.out).mono ?_; rintro e w' ⟨rfl, rfl⟩)
    go_ret2
    exact ⟨rfl, 0, rfl⟩

/-- The powers 0 to n less 1 of a. -/
def pws (p a : Int) (n : Nat) : List Int := (List.range n).map (Fp.pw p a)
theorem pws_len (p a : Int) (n : Nat) : (pws p a n).length = n := by simp [pws]

set_option maxRecDepth 100000 in
set_option maxHeartbeats 1000000 in
theorem powers_yes (p a : Int) (n : Nat) (w : World) (h : Fp.kn p = true) (a0 : 0 ≤ a) (a1 : a < 18446744073709551616) (hn : n ≤ 65536) :
    Calls Tryd.prog 83 #[.int .u64 p, .int .u64 a, .int .i64 n] w (ListRet w (pws p a n)) := by
  have H := Lib.hid h; clear h
  obtain ⟨i0, hi, hz0, hz1, hz2⟩ := info_parts info_u64
  have HZ2 := Lib.hid hz2; clear hz2
  go_enter Tryd.func83, Tryd.ntmps83
  go_wp2_with (first
    | (go_at_call 60; refine (known_yes p _ H.out).mono ?_; rintro e w' ⟨rfl, rfl⟩)
    | (at_make; refine wpList_make_full _ rfl _ _ 37 rfl w.heap.size 22 i0 (.int .u64 0) 1 Tryd.underlying37 hi hz0 hz1 .i64 .i64 _ _ n rfl rfl rfl rfl (by rw [HZ2.out]; omega) (by unfold maxLen; omega) (Nat.le_refl _) ?_; intro w1 hown hgrow))
  have hst := Half.start (f := Fp.pw p a) hown
  have hbl := (Below.refl w.heap.size w).grown hgrow (Nat.le_refl _) (fun k e => by cases e)
  clear hown hgrow hi hz0 hz1
  go_loopw [9, 24] (fun x i wr => ∃ k : Nat, k ≤ n ∧ i = .int .i64 k ∧ x = .int .u64 (Fp.pw p a k) ∧ Half .u64 22 wr w.heap.size w.heap.size n (Fp.pw p a) (fun _ => 0) k ∧ Below w.heap.size w wr) (fun _ i _ => n - (intOf i).toNat)
  case atStart => exact ⟨0, Nat.zero_le _, rfl, by rw [Fp.pw_zero, Fp.red_one H.out], hst, hbl⟩
  case round =>
    obtain ⟨k, hk, rfl, rfl, hP, hB⟩ := hrel
    obtain ⟨x0, x1, _⟩ := Fp.pw_bd p a k
    by_cases hlt : k < n
    · have hs := hP.step
      have hsB := hB.setCell (p := ⟨w.heap.size, k, none⟩) (Nat.le_refl _) (.int .u64 (Fp.pw p a k))
      have hc := hP.cellNext hlt
      have hf := hP.frozen k
      have hg := hP.lt.2
      have HS := Lib.hid (Fp.pw_succ p a k)
      clear hP hB hst hbl
      go_wp2_with (go_at_call 56; refine (mul_any _ _ _ _ (by omega) (by omega) (by omega) (by omega)).mono ?_; rintro e w' ⟨rfl, n, rfl⟩)
      go_roundw
      case rel => exact ⟨k + 1, by omega, by go_num, by rw [HS.out], hs.draws _, below_draws hsB _⟩
      case measure => simp [intOf]; omega
    · obtain rfl : k = n := by omega
      have hR : ListRet w (pws p a k) (.returned (.tuple #[.slice (some ⟨w.heap.size, 0, none⟩) k k, .int .i64 0])) wr := ⟨_, rfl, hP.all, hB⟩
      clear hP hB hst hbl
      go_wp2
      go_ret2
      exact hR

end Go.Proofs.YtlbfllaaabginaaDoor

/-!   What field.In comes to: true just if p is a known prime and all numbers of the slice are below it; nothing is written.
-/

namespace Go.Proofs.YtlbfllaaabginaaDoor
open Go.RowKit

namespace Fp
/-- Are the first n numbers of f below p, and p known? -/
def isIn (p : Int) (f : Nat → Int) : Nat → Bool
  | 0 => kn p
  | n + 1 => isIn p f n && decide (f n < p)
theorem isIn_no {p : Int} {f : Nat → Int} (h : kn p = false) : ∀ n, isIn p f n = false
  | 0 => h
  | n + 1 => by rw [isIn, isIn_no h n]; rfl
theorem isIn_yes {p : Int} {f : Nat → Int} (h : kn p = true) : ∀ n, (∀ j, j < n → f j < p) → isIn p f n = true
  | 0, _ => h
  | n + 1, hf => by rw [isIn, isIn_yes h n (fun j hj => hf j (by omega)), decide_eq_true (hf n (by omega))]; rfl
theorem isIn_at {p : Int} {f : Nat → Int} {k : Nat} (hk : ¬ f k < p) : ∀ n, k < n → isIn p f n = false
  | n + 1, hn => by
    rw [isIn]
    by_cases e : k = n
    · subst e; rw [decide_eq_false hk]; simp
    · rw [isIn_at hk n (by omega)]; rfl
end Fp

theorem ret_bool {a b : Bool} (h : a = b) : Ending.returned (.bool a) = .returned (.bool b) := by rw [h]

theorem in_nil (p : Int) (x : Option Addr) (cap : Nat) (w : World) :
    Calls Tryd.prog 45 #[.int .u64 p, .slice x 0 cap] w fun e w' => e = .returned (.bool (Fp.kn p)) ∧ w = w' := by
  cases h : Fp.kn p
  · have H := Lib.hid h; clear h
    go_enter Tryd.func45, Tryd.ntmps45
    go_wp2_with (go_at_call 60; refine (known_no _ _ H.out).mono ?_; rintro e w' ⟨rfl, rfl⟩)
    go_ret
    exact ⟨rfl, rfl⟩
  · have H := Lib.hid h; clear h
    go_enter Tryd.func45, Tryd.ntmps45
    go_wp2_with (go_at_call 60; refine (known_yes _ _ H.out).mono ?_; rintro e w' ⟨rfl, rfl⟩)
    refine wp_loop_rounds 1 ?_
    rw [rounds_succ]
    go_wp2
    go_ret
    exact ⟨rfl, rfl⟩

theorem in_row (p : Int) (b off len cap : Nat) (f : Nat → Int) (w : World) (hl : (len : Int) ≤ 9223372036854775807)
    (hcell : ∀ j, j < len → w.cell? ⟨b, off + j, none⟩ = some (.int .u64 (f j))) :
    Calls Tryd.prog 45 #[.int .u64 p, .slice (some ⟨b, off, none⟩) len cap] w fun e w' => e = .returned (.bool (Fp.isIn p f len)) ∧ w = w' := by
  have HC := Lib.hid hcell; clear hcell
  cases h : Fp.kn p
  · have he := Lib.hid (Fp.isIn_no (f := f) h len)
    have H := Lib.hid h; clear h
    go_enter Tryd.func45, Tryd.ntmps45
    go_wp2_with (go_at_call 60; refine (known_no _ _ H.out).mono ?_; rintro e w' ⟨rfl, rfl⟩)
    go_ret
    exact ⟨ret_bool he.out.symm, rfl⟩
  · have H := Lib.hid h; clear h
    go_enter Tryd.func45, Tryd.ntmps45
    go_wp2_with (go_at_call 60; refine (known_yes _ _ H.out).mono ?_; rintro e w' ⟨rfl, rfl⟩)
    go_loop [12] (fun i => ∃ k : Nat, k ≤ len ∧ i = .int .i64 k ∧ Hid (∀ j, j < k → f j < p)) (fun i => len - (intOf i).toNat)
    case atStart => exact ⟨0, Nat.zero_le _, rfl, Lib.hid (fun j hj => by omega)⟩
    case round =>
      obtain ⟨k, hk, rfl, HA⟩ := hrel
      by_cases hlt : k < len
      · have hc := HC.out k hlt
        by_cases hv : f k < p
        · go_wp2
          go_round
          case rel => exact ⟨k + 1, by omega, by go_num, Lib.hid (fun j hj => by by_cases e : j = k; exact e ▸ hv; exact HA.out j (by omega))⟩
          case measure => simp [intOf]; omega
        · have he := Lib.hid (Fp.isIn_at hv len hlt)
          go_wp2
          go_ret
          exact ⟨ret_bool he.out.symm, rfl⟩
      · have he := Lib.hid (Fp.isIn_yes (f := f) H.out len (fun j hj => HA.out j (by omega)))
        go_wp2
        go_ret
        exact ⟨ret_bool he.out.symm, rfl⟩

end Go.Proofs.YtlbfllaaabginaaDoor

/-!   What each function of the document's answer for layer 1 comes to: the same numbers as package field's.
-/

namespace Go.Proofs.YtlbfllaaabginaaDoor
open Go.RowKit

theorem rknown_yes (p : Int) (w : World) (h : Fp.kn p = true) :
    Calls Tryd.prog 65 #[.int .u64 p] w fun e w' => e = .returned (.bool true) ∧ w = w' := by
  rcases Fp.kn_cases h with h | h | h <;> subst h
  all_goals
    go_enter Tryd.func65, Tryd.ntmps65
    go_wp2
    go_ret
    exact ⟨rfl, rfl⟩

theorem rknown_no (p : Int) (w : World) (h : Fp.kn p = false) :
    Calls Tryd.prog 65 #[.int .u64 p] w fun e w' => e = .returned (.bool false) ∧ w = w' := by
  simp only [Fp.kn, Bool.or_eq_false_iff] at h
  obtain ⟨⟨h1, h2⟩, h3⟩ := h
  go_enter Tryd.func65, Tryd.ntmps65
  go_wp2
  go_ret
  exact ⟨rfl, rfl⟩

theorem rreduce_any (p a : Int) (w : World) (a0 : 0 ≤ a) (a1 : a < 18446744073709551616) :
    Calls Tryd.prog 92 #[.int .u64 p, .int .u64 a] w fun e w' => e = .returned (.int .u64 (Fp.red p a)) ∧ w = w' := by
  cases h : Fp.kn p
  · have he := Lib.hid (Fp.red_no a h)
    have H := Lib.hid h; clear h
    go_enter Tryd.func92, Tryd.ntmps92
    go_wp2_with (go_at_call 65; refine (rknown_no p _ H.out).mono ?_; rintro e w' ⟨rfl, rfl⟩)
    go_ret
    exact ⟨ret_u64 he.out.symm, rfl⟩
  · have hr : Hid (Fp.red p a = a % p) := Lib.hid (by unfold Fp.red; rw [if_pos h])
    obtain ⟨b1, b2⟩ := Fp.kn_bd h
    have l1 := Fp.md_lo a (Fp.kn_pos h)
    have l2 := Fp.md_hi a (Fp.kn_pos h)
    have H := Lib.hid h; clear h
    go_enter Tryd.func92, Tryd.ntmps92
    go_wp2_with (go_at_call 65; refine (rknown_yes p _ H.out).mono ?_; rintro e w' ⟨rfl, rfl⟩)
    go_ret
    exact ⟨ret_u64 hr.out.symm, rfl⟩

/-- plus, of two numbers of p. -/
theorem plus_any (p a b : Int) (w : World) (h : Fp.kn p = true) (a0 : 0 ≤ a) (a1 : a < p) (b0 : 0 ≤ b) (b1 : b < p) :
    Calls Tryd.prog 93 #[.int .u64 p, .int .u64 a, .int .u64 b] w fun e w' => e = .returned (.int .u64 ((a + b) % p)) ∧ w = w' := by
  obtain ⟨p1, p2⟩ := Fp.kn_bd h
  have ea := Int.emod_eq_of_lt a0 a1
  have eb := Int.emod_eq_of_lt b0 b1
  by_cases hl : a < p - b
  · have he := Lib.hid (Fp.add_low (a := a) (b := b) (Fp.kn_pos h) (by rw [ea, eb]; exact hl))
    rw [ea, eb] at he
    clear ea eb h
    go_enter Tryd.func93, Tryd.ntmps93
    go_wp2
    go_ret
    exact ⟨ret_u64 he.out, rfl⟩
  · have he := Lib.hid (Fp.add_high (a := a) (b := b) (Fp.kn_pos h) (by rw [ea, eb]; omega))
    rw [ea, eb] at he
    clear ea eb h
    go_enter Tryd.func93, Tryd.ntmps93
    go_wp2
    go_ret
    exact ⟨ret_u64 he.out, rfl⟩

theorem flip_same {P : Program} {f : FuncId} {args : Array Value} {w : World} {v : Ending} (h : Calls P f args w fun e w' => e = v ∧ w = w') : Calls P f args w fun e w' => e = v ∧ w' = w :=
  h.mono fun _ _ ⟨h1, h2⟩ => ⟨h1, h2.symm⟩

namespace Fp
/-- 2 to the power n, as a plain number. -/
def tw (n : Nat) : Int := ((2 ^ n : Nat) : Int)
theorem tw_pos (n : Nat) : 1 ≤ tw n := by unfold tw; have := Nat.two_pow_pos n; omega
theorem tw_succ (n : Nat) : tw (n + 1) = 2 * tw n := by unfold tw; rw [Nat.pow_succ]; omega
theorem tw_half (n : Nat) : tw (n + 1) / 2 = tw n := by rw [tw_succ]; omega
theorem tw_63 : tw 63 = 9223372036854775808 := by decide
theorem tw_64 : tw 64 = 18446744073709551616 := by decide
theorem tw_le {m n : Nat} (h : m ≤ n) : tw m ≤ tw n := by unfold tw; have := Nat.pow_le_pow_right (n := 2) (by omega) h; omega
/-- What is made of the highest k of 64 bits of b: a times them, by p. -/
def part (p a b : Int) (k : Nat) : Int := (a * (b / tw (64 - k))) % p
theorem part_zero (p a b : Int) (b0 : 0 ≤ b) (b1 : b < 18446744073709551616) : part p a b 0 = 0 := by
  unfold part
  rw [show (64 - 0 : Nat) = 64 from rfl, tw_64, show b / 18446744073709551616 = 0 by omega]; simp
theorem part_all (p a b : Int) : part p a b 64 = (a * b) % p := by
  unfold part
  rw [show (64 - 64 : Nat) = 0 from rfl, show tw 0 = 1 from rfl, Int.ediv_one]
theorem part_step (p a b : Int) (k : Nat) (hk : k < 64) (_b0 : 0 ≤ b) :
    (b % tw (64 - k) < tw (63 - k) → (part p a b k + part p a b k) % p = part p a b (k + 1) ∧ b % tw (63 - k) = b % tw (64 - k)) ∧
    (tw (63 - k) ≤ b % tw (64 - k) → ((part p a b k + part p a b k) % p + a) % p = part p a b (k + 1) ∧ b % tw (63 - k) = b % tw (64 - k) - tw (63 - k)) := by
  have e1 : 64 - k = (63 - k) + 1 := by omega
  have e2 : 64 - (k + 1) = 63 - k := by omega
  unfold part
  rw [e2, e1, tw_succ]
  have ht := tw_pos (63 - k)
  generalize tw (63 - k) = t at *
  have hq := Int.mul_ediv_add_emod b (2 * t)
  have r0 := md_lo b (p := 2 * t) (by omega)
  have r1 := md_hi b (p := 2 * t) (by omega)
  generalize b / (2 * t) = q at *
  generalize b % (2 * t) = r at *
  constructor
  · intro hl
    have hb : b = r + t * (2 * q) := by rw [← hq, Int.mul_comm 2 t, Int.mul_assoc]; omega
    have h1 : b / t = 2 * q := by rw [hb, Int.add_mul_ediv_left _ _ (by omega), Int.ediv_eq_zero_of_lt r0 hl]; omega
    have h2 : b % t = r := by rw [hb, Int.add_mul_emod_self_left, Int.emod_eq_of_lt r0 hl]
    refine ⟨?_, h2⟩
    rw [h1, Int.emod_add_emod, Int.add_emod_emod]
    congr 1; rw [Int.mul_left_comm]; omega
  · intro hl
    have hb : b = (r - t) + t * (2 * q + 1) := by rw [← hq, Int.mul_comm 2 t, Int.mul_add, Int.mul_assoc]; omega
    have h1 : b / t = 2 * q + 1 := by rw [hb, Int.add_mul_ediv_left _ _ (by omega), Int.ediv_eq_zero_of_lt (by omega) (by omega)]; omega
    have h2 : b % t = r - t := by rw [hb, Int.add_mul_emod_self_left, Int.emod_eq_of_lt (by omega) (by omega)]
    refine ⟨?_, h2⟩
    rw [h1, Int.emod_add_emod, Int.add_assoc, Int.emod_add_emod, Int.add_left_comm, Int.emod_add_emod]
    congr 1; rw [Int.mul_add, Int.mul_left_comm, Int.mul_one]; omega
end Fp

set_option maxHeartbeats 400000 in
theorem rmul_yes (p a b : Int) (w : World) (h : Fp.kn p = true) (a0 : 0 ≤ a) (a1 : a < 18446744073709551616) (b0 : 0 ≤ b) (b1 : b < 18446744073709551616) :
    Calls Tryd.prog 73 #[.int .u64 p, .int .u64 a, .int .u64 b] w fun e w' => e = .returned (.int .u64 (Fp.mul p a b)) ∧ w = w' := by
  have hr : Hid (Fp.mul p a b = (a % p * (b % p)) % p) := Lib.hid (by unfold Fp.mul; rw [if_pos h, Int.mul_emod])
  obtain ⟨p1, p2⟩ := Fp.kn_bd h
  have l1 := Fp.md_lo a (Fp.kn_pos h)
  have l2 := Fp.md_hi a (Fp.kn_pos h)
  have l3 := Fp.md_lo b (Fp.kn_pos h)
  have l4 := Fp.md_hi b (Fp.kn_pos h)
  by_cases hs : p < 4294967296
  · have s0 : 0 ≤ a % p * (b % p) := Int.mul_nonneg l1 l3
    have s1 : a % p * (b % p) ≤ 4294967296 * 4294967296 - 8589934591 := by
      have : a % p * (b % p) ≤ 4294967295 * 4294967295 := Int.mul_le_mul (by omega) (by omega) l3 (by omega)
      omega
    have s2 := Fp.md_lo (a % p * (b % p)) (Fp.kn_pos h)
    have s3 := Fp.md_hi (a % p * (b % p)) (Fp.kn_pos h)
    have H := Lib.hid h; clear h
    go_enter Tryd.func73, Tryd.ntmps73
    go_wp2_with (go_at_call 65; refine (rknown_yes p _ H.out).mono ?_; rintro e w' ⟨rfl, rfl⟩)
    go_ret
    exact ⟨ret_u64 hr.out.symm, rfl⟩
  · have hz := Lib.hid (Fp.part_zero p (a % p) (b % p) l3 (by omega))
    have hall := Lib.hid (Fp.part_all p (a % p) (b % p))
    have H := Lib.hid h; clear h
    have hp0 : 0 < p := by omega
    go_enter Tryd.func73, Tryd.ntmps73
    go_wp2_with (go_at_call 65; refine (rknown_yes p _ H.out).mono ?_; rintro e w' ⟨rfl, rfl⟩)
    go_loop [2, 7, 8, 25] (fun bb out bit i => ∃ (k : Nat) (x o t : Int), k ≤ 64 ∧ i = .int .i64 k ∧ bb = .int .u64 x ∧ out = .int .u64 o ∧ bit = .int .u64 t ∧ 0 ≤ t ∧ t ≤ 9223372036854775808 ∧ 0 ≤ o ∧ o < p ∧ 0 ≤ x ∧ x < 18446744073709551616 ∧ Hid (x = b % p % Fp.tw (64 - k) ∧ o = Fp.part p (a % p) (b % p) k ∧ (k < 64 → t = Fp.tw (63 - k)))) (fun _ _ _ i => 64 - (intOf i).toNat)
    case atStart =>
      refine ⟨0, b % p, 0, 9223372036854775808, by omega, rfl, rfl, rfl, rfl, by omega, by omega, by omega, by omega, by omega, by omega, Lib.hid ⟨?_, hz.out.symm, fun _ => by rw [Fp.tw_63]⟩⟩
      rw [show (64 - 0 : Nat) = 64 from rfl, Fp.tw_64, Int.emod_eq_of_lt l3 (by omega)]
    case round =>
      obtain ⟨k, x, o, t, hk, rfl, rfl, rfl, rfl, t0, t1, o0, o1, x0, x1, HR⟩ := hrel
      by_cases hlt : k < 64
      · have u0 := Fp.md_lo (o + o) hp0
        have u1 := Fp.md_hi (o + o) hp0
        have v0 := Fp.md_lo (o + o + a) hp0
        have v1 := Fp.md_hi (o + o + a) hp0
        have t2 : x < 2 * t := by
          obtain ⟨e1, -, e3⟩ := HR.out
          have := Fp.md_hi (p := Fp.tw (64 - k)) (b % p) (by have := Fp.tw_pos (64 - k); omega)
          rw [e1, e3 hlt, ← Fp.tw_succ, show 63 - k + 1 = 64 - k by omega]; exact this
        have HN : Hid (k + 1 < 64 → t / 2 = Fp.tw (63 - (k + 1))) := Lib.hid (fun hk1 => by rw [HR.out.2.2 hlt, show 63 - k = (63 - (k + 1)) + 1 by omega, Fp.tw_half])
        by_cases hc : t ≤ x
        · have HS : Hid ((o + o + a) % p = Fp.part p (a % p) (b % p) (k + 1) ∧ b % p % Fp.tw (64 - (k + 1)) = x - t) := by
            obtain ⟨e1, e2, e3⟩ := HR.out
            have st := (Fp.part_step p (a % p) (b % p) k hlt l3).2
            rw [← e1, ← e2, ← e3 hlt, Int.emod_add_emod, Int.add_emod_emod] at st
            rw [show 64 - (k + 1) = 63 - k by omega, ← e3 hlt]
            exact Lib.hid (st hc)
          go_wp2_with (go_at_call 93; refine (plus_any p _ _ _ H.out (by omega) (by omega) (by omega) (by omega)).mono ?_; rintro e w' ⟨rfl, rfl⟩)
          go_round
          case rel => exact ⟨k + 1, x - t, _, t / 2, by omega, by go_num, rfl, rfl, rfl, by omega, by omega, v0, v1, by omega, by omega, Lib.hid ⟨HS.out.2.symm, HS.out.1, HN.out⟩⟩
          case measure => simp [intOf]; omega
        · have HS : Hid ((o + o) % p = Fp.part p (a % p) (b % p) (k + 1) ∧ b % p % Fp.tw (64 - (k + 1)) = x) := by
            obtain ⟨e1, e2, e3⟩ := HR.out
            have st := (Fp.part_step p (a % p) (b % p) k hlt l3).1
            rw [← e1, ← e2, ← e3 hlt] at st
            rw [show 64 - (k + 1) = 63 - k by omega, ← e3 hlt]
            exact Lib.hid (st (by omega))
          go_wp2_with (go_at_call 93; refine (plus_any p _ _ _ H.out (by omega) (by omega) (by omega) (by omega)).mono ?_; rintro e w' ⟨rfl, rfl⟩)
          go_round
          case rel => exact ⟨k + 1, x, _, t / 2, by omega, by go_num, rfl, rfl, rfl, by omega, by omega, u0, u1, by omega, by omega, Lib.hid ⟨HS.out.2.symm, HS.out.1, HN.out⟩⟩
          case measure => simp [intOf]; omega
      · obtain rfl : k = 64 := by omega
        have he : Hid (o = Fp.mul p a b) := Lib.hid (by rw [HR.out.2.1, hall.out, hr.out])
        go_wp2
        go_ret
        exact ⟨ret_u64 he.out, rfl⟩

theorem rmul_any (p a b : Int) (w : World) (a0 : 0 ≤ a) (a1 : a < 18446744073709551616) (b0 : 0 ≤ b) (b1 : b < 18446744073709551616) :
    Calls Tryd.prog 73 #[.int .u64 p, .int .u64 a, .int .u64 b] w fun e w' => e = .returned (.int .u64 (Fp.mul p a b)) ∧ w = w' := by
  cases h : Fp.kn p
  · have he := Lib.hid (Fp.red_no (a * b) h)
    have H := Lib.hid h; clear h
    go_enter Tryd.func73, Tryd.ntmps73
    go_wp2_with (go_at_call 65; refine (rknown_no p _ H.out).mono ?_; rintro e w' ⟨rfl, rfl⟩)
    go_ret
    exact ⟨ret_u64 he.out.symm, rfl⟩
  · exact rmul_yes p a b w h a0 a1 b0 b1

theorem rin_nil (p : Int) (x : Option Addr) (cap : Nat) (w : World) :
    Calls Tryd.prog 47 #[.int .u64 p, .slice x 0 cap] w fun e w' => e = .returned (.bool (Fp.kn p)) ∧ w = w' := by
  cases h : Fp.kn p
  · have H := Lib.hid h; clear h
    go_enter Tryd.func47, Tryd.ntmps47
    go_wp2
    refine wp_loop_rounds 1 ?_
    rw [rounds_succ]
    go_wp2_with (go_at_call 65; refine (rknown_no _ _ H.out).mono ?_; rintro e w' ⟨rfl, rfl⟩)
    go_ret
    exact ⟨rfl, rfl⟩
  · have H := Lib.hid h; clear h
    go_enter Tryd.func47, Tryd.ntmps47
    go_wp2
    refine wp_loop_rounds 1 ?_
    rw [rounds_succ]
    go_wp2_with (go_at_call 65; refine (rknown_yes _ _ H.out).mono ?_; rintro e w' ⟨rfl, rfl⟩)
    go_ret
    exact ⟨rfl, rfl⟩

theorem rin_row (p : Int) (b off len cap : Nat) (f : Nat → Int) (w : World) (hl : (len : Int) ≤ 9223372036854775807)
    (hcell : ∀ j, j < len → w.cell? ⟨b, off + j, none⟩ = some (.int .u64 (f j))) :
    Calls Tryd.prog 47 #[.int .u64 p, .slice (some ⟨b, off, none⟩) len cap] w fun e w' => e = .returned (.bool (Fp.isIn p f len)) ∧ w = w' := by
  have HC := Lib.hid hcell; clear hcell
  go_enter Tryd.func47, Tryd.ntmps47
  go_wp2
  go_loop [9] (fun i => ∃ k : Nat, k ≤ len ∧ i = .int .i64 k ∧ Hid (∀ j, j < k → f j < p)) (fun i => len - (intOf i).toNat)
  case atStart => exact ⟨0, Nat.zero_le _, rfl, Lib.hid (fun j hj => by omega)⟩
  case round =>
    obtain ⟨k, hk, rfl, HA⟩ := hrel
    by_cases hlt : k < len
    · have hc := HC.out k hlt
      by_cases hv : f k < p
      · go_wp2
        go_round
        case rel => exact ⟨k + 1, by omega, by go_num, Lib.hid (fun j hj => by by_cases e : j = k; exact e ▸ hv; exact HA.out j (by omega))⟩
        case measure => simp [intOf]; omega
      · have he := Lib.hid (Fp.isIn_at hv len hlt)
        go_wp2
        go_ret
        exact ⟨ret_bool he.out.symm, rfl⟩
    · cases h : Fp.kn p
      · have he := Lib.hid (Fp.isIn_no (f := f) h len)
        have H := Lib.hid h; clear h
        go_wp2_with (go_at_call 65; refine (rknown_no _ _ H.out).mono ?_; rintro e w' ⟨rfl, rfl⟩)
        go_ret
        exact ⟨ret_bool he.out.symm, rfl⟩
      · have he := Lib.hid (Fp.isIn_yes (f := f) h len (fun j hj => HA.out j (by omega)))
        have H := Lib.hid h; clear h
        go_wp2_with (go_at_call 65; refine (rknown_yes _ _ H.out).mono ?_; rintro e w' ⟨rfl, rfl⟩)
        go_ret
        exact ⟨ret_bool he.out.symm, rfl⟩

end Go.Proofs.YtlbfllaaabginaaDoor

/-!   What the document's own answers of layer 2 come to that tell numbers (brackenref02's Pow and Inv), and power.Inv and it in one form each.
-/

namespace Go.Proofs.YtlbfllaaabginaaDoor
open Go.RowKit

theorem rpow_le (k : Nat) : ∀ (p a n : Int) (w : World), 0 ≤ a → a < 18446744073709551616 → 0 ≤ n → n < 18446744073709551616 → n < ((2 ^ k : Nat) : Int) →
    Calls Tryd.prog 71 #[.int .u64 p, .int .u64 a, .int .u64 n] w fun e w' => e = .returned (.int .u64 (Fp.pw p a n.toNat)) ∧ w = w' := by
  induction k with
  | zero =>
    intro p a n w a0 a1 n0 n1 hk
    obtain rfl : n = 0 := by simp at hk; omega
    have HE : Hid (Fp.red p 1 = Fp.pw p a 0) := Lib.hid (Fp.pw_zero p a).symm
    go_enter Tryd.func71, Tryd.ntmps71
    go_wp2_with (go_at_call 92; refine (rreduce_any _ _ _ (by omega) (by omega)).mono ?_; rintro e w' ⟨rfl, rfl⟩)
    go_ret
    exact ⟨ret_u64 HE.out, rfl⟩
  | succ k ih =>
    intro p a n w a0 a1 n0 n1 hk
    have IH := Lib.hid ih; clear ih
    by_cases hz : n = 0
    · subst hz
      have HE : Hid (Fp.red p 1 = Fp.pw p a 0) := Lib.hid (Fp.pw_zero p a).symm
      go_enter Tryd.func71, Tryd.ntmps71
      go_wp2_with (go_at_call 92; refine (rreduce_any _ _ _ (by omega) (by omega)).mono ?_; rintro e w' ⟨rfl, rfl⟩)
      go_ret
      exact ⟨ret_u64 HE.out, rfl⟩
    · have hz' : (n == 0) = false := beq_eq_false_iff_ne.2 hz
      have hk2 : n / 2 < ((2 ^ k : Nat) : Int) := by rw [Nat.pow_succ] at hk; omega
      have HK := Lib.hid hk2; clear hk hk2
      obtain ⟨x0, x1, _⟩ := Fp.pw_bd p a (n / 2).toNat
      obtain ⟨y0, y1, _⟩ := Fp.mul_bd p (Fp.pw p a (n / 2).toNat) (Fp.pw p a (n / 2).toNat)
      have e1 : Fp.mul p (Fp.pw p a (n / 2).toNat) (Fp.pw p a (n / 2).toNat) = Fp.pw p a ((n / 2).toNat + (n / 2).toNat) := (Fp.pw_add _ _ _ _).symm
      by_cases hodd : n % 2 = 1
      · have HE : Hid (Fp.mul p (Fp.mul p (Fp.pw p a (n / 2).toNat) (Fp.pw p a (n / 2).toNat)) a = Fp.pw p a n.toNat) := Lib.hid (by
          rw [e1, ← Fp.pw_succ]; congr 1; omega)
        have ho : (n % 2 == 1) = true := by rw [hodd]; rfl
        clear e1 hodd hz
        obtain ⟨h2, hh2⟩ : ∃ h2, h2 = Fp.pw p a (n / 2).toNat := ⟨_, rfl⟩
        rw [← hh2] at x0 x1 y0 y1 HE
        have HH := Lib.hid hh2; clear hh2
        go_enter Tryd.func71, Tryd.ntmps71
        go_wp2_with fail
        refine (IH.out p a (n / 2) _ a0 a1 (by omega) (by omega) HK.out).mono ?_
        rintro e w' ⟨rfl, rfl⟩
        rw [← HH.out]
        go_wp2_with (go_at_call 73; refine (rmul_any _ _ _ _ (by omega) (by omega) (by omega) (by omega)).mono ?_; rintro e w' ⟨rfl, rfl⟩)
        go_ret
        exact ⟨ret_u64 HE.out, rfl⟩
      · have HE : Hid (Fp.mul p (Fp.pw p a (n / 2).toNat) (Fp.pw p a (n / 2).toNat) = Fp.pw p a n.toNat) := Lib.hid (by
          rw [e1]; congr 1; omega)
        have ho : (n % 2 == 1) = false := beq_eq_false_iff_ne.2 hodd
        clear e1 hodd hz
        obtain ⟨h2, hh2⟩ : ∃ h2, h2 = Fp.pw p a (n / 2).toNat := ⟨_, rfl⟩
        rw [← hh2] at x0 x1 y0 y1 HE
        have HH := Lib.hid hh2; clear hh2
        go_enter Tryd.func71, Tryd.ntmps71
        go_wp2_with fail
        refine (IH.out p a (n / 2) _ a0 a1 (by omega) (by omega) HK.out).mono ?_
        rintro e w' ⟨rfl, rfl⟩
        rw [← HH.out]
        go_wp2_with (go_at_call 73; refine (rmul_any _ _ _ _ (by omega) (by omega) (by omega) (by omega)).mono ?_; rintro e w' ⟨rfl, rfl⟩)
        go_ret
        exact ⟨ret_u64 HE.out, rfl⟩

theorem rpow_any (p a n : Int) (w : World) (a0 : 0 ≤ a) (a1 : a < 18446744073709551616) (n0 : 0 ≤ n) (n1 : n < 18446744073709551616) :
    Calls Tryd.prog 71 #[.int .u64 p, .int .u64 a, .int .u64 n] w fun e w' => e = .returned (.int .u64 (Fp.pw p a n.toNat)) ∧ w = w' :=
  rpow_le 64 p a n w a0 a1 n0 n1 (by simpa using n1)

theorem rinv_noprime (p a : Int) (w : World) (h : Fp.kn p = false) :
    Calls Tryd.prog 72 #[.int .u64 p, .int .u64 a] w fun e w' => e = .returned (.tuple #[.int .u64 0, .int .i64 2]) ∧ w = w' := by
  have H := Lib.hid h; clear h
  go_enter Tryd.func72, Tryd.ntmps72
  go_wp2_with (go_at_call 65; refine (rknown_no p _ H.out).mono ?_; rintro e w' ⟨rfl, rfl⟩)
  go_ret2
  exact ⟨rfl, rfl⟩

theorem rinv_zero (p a : Int) (w : World) (h : Fp.kn p = true) (a0 : 0 ≤ a) (a1 : a < 18446744073709551616) (hz : Fp.red p a = 0) :
    Calls Tryd.prog 72 #[.int .u64 p, .int .u64 a] w fun e w' => e = .returned (.tuple #[.int .u64 0, .int .i64 9]) ∧ w = w' := by
  have H := Lib.hid h; clear h
  have t : (Fp.red p a == 0) = true := by rw [hz]; rfl
  clear hz
  go_enter Tryd.func72, Tryd.ntmps72
  go_wp2_with (first
    | (go_at_call 65; refine (rknown_yes p _ H.out).mono ?_; rintro e w' ⟨rfl, rfl⟩)
    | (go_at_call 92; refine (rreduce_any _ _ _ (by omega) (by omega)).mono ?_; rintro e w' ⟨rfl, rfl⟩))
  go_ret2
  exact ⟨rfl, rfl⟩

theorem rinv_yes (p a : Int) (w : World) (h : Fp.kn p = true) (a0 : 0 ≤ a) (a1 : a < 18446744073709551616) (hz : Fp.red p a ≠ 0) :
    Calls Tryd.prog 72 #[.int .u64 p, .int .u64 a] w fun e w' => e = .returned (.tuple #[.int .u64 (Fp.inv p a), .int .i64 0]) ∧ w = w' := by
  obtain ⟨p1, p2⟩ := Fp.kn_bd h
  have hn := Lib.hid (inv_num (a := a) h)
  have H := Lib.hid h; clear h
  have t : (Fp.red p a == 0) = false := beq_eq_false_iff_ne.2 hz
  clear hz
  go_enter Tryd.func72, Tryd.ntmps72
  go_wp2_with (first
    | (go_at_call 65; refine (rknown_yes p _ H.out).mono ?_; rintro e w' ⟨rfl, rfl⟩)
    | (go_at_call 92; refine (rreduce_any _ _ _ (by omega) (by omega)).mono ?_; rintro e w' ⟨rfl, rfl⟩)
    | (go_at_call 71; refine (rpow_any _ _ _ _ (by omega) (by omega) (by omega) (by omega)).mono ?_; rintro e w' ⟨rfl, rfl⟩))
  go_ret2
  exact ⟨tup_ret (congrArg (Value.int .u64) hn.out) rfl, rfl⟩

/-! What Inv tells, in one form. -/
def invN (p a : Int) : Int := if Fp.kn p = false then 0 else if Fp.red p a = 0 then 0 else Fp.inv p a
def invE (p a : Int) : Int := if Fp.kn p = false then 2 else if Fp.red p a = 0 then 9 else 0

theorem inv_any (p a : Int) (w : World) (a0 : 0 ≤ a) (a1 : a < 18446744073709551616) :
    Calls Tryd.prog 84 #[.int .u64 p, .int .u64 a] w (RetQ (.tuple #[.int .u64 (invN p a), .int .i64 (invE p a)]) w) := by
  unfold invN invE
  cases h : Fp.kn p
  · simp only [if_true]; exact inv_noprime p a w h
  · by_cases hz : Fp.red p a = 0
    · simp only [Bool.true_eq_false, if_false, if_pos hz]; exact inv_zero p a w h a0 a1 hz
    · simp only [Bool.true_eq_false, if_false, if_neg hz]; exact inv_yes p a w h a0 a1 hz

theorem rinv_any (p a : Int) (w : World) (a0 : 0 ≤ a) (a1 : a < 18446744073709551616) :
    Calls Tryd.prog 72 #[.int .u64 p, .int .u64 a] w (RetQ (.tuple #[.int .u64 (invN p a), .int .i64 (invE p a)]) w) := by
  unfold invN invE
  cases h : Fp.kn p
  · simp only [if_true]; exact (rinv_noprime p a w h).mono fun e w' ⟨he, hw⟩ => ⟨he, 0, hw.symm⟩
  · by_cases hz : Fp.red p a = 0
    · simp only [Bool.true_eq_false, if_false, if_pos hz]; exact (rinv_zero p a w h a0 a1 hz).mono fun e w' ⟨he, hw⟩ => ⟨he, 0, hw.symm⟩
    · simp only [Bool.true_eq_false, if_false, if_neg hz]; exact (rinv_yes p a w h a0 a1 hz).mono fun e w' ⟨he, hw⟩ => ⟨he, 0, hw.symm⟩

end Go.Proofs.YtlbfllaaabginaaDoor

/-!   What power.productsAhead comes to: of a list's numbers the product of those ahead of each, and of all.
-/

namespace Go.Proofs.YtlbfllaaabginaaDoor
open Go.RowKit

namespace Fp
/-- The product by p of the first i of xs. -/
def pre (p : Int) (xs : List Int) : Nat → Int
  | 0 => red p 1
  | i + 1 => mul p (pre p xs i) (xs.getD i 0)
theorem pre_bd (p : Int) (xs : List Int) (i : Nat) : 0 ≤ pre p xs i ∧ pre p xs i < 18446744069414584321 ∧ (kn p = true → pre p xs i < p) := by
  cases i with
  | zero => exact red_bd p 1
  | succ i => exact mul_bd p _ _
theorem pre_red (p : Int) (xs : List Int) (i : Nat) : red p (pre p xs i) = pre p xs i := by
  cases i with
  | zero => exact red_red _ _
  | succ i => exact red_mul _ _ _
/-- A product is 0 just if one of its numbers is. -/
theorem pre_zero {p : Int} (h : kn p = true) (xs : List Int) : ∀ i, pre p xs i = 0 ↔ ∃ j, j < i ∧ red p (xs.getD j 0) = 0
  | 0 => by
    constructor
    · intro e; rw [pre, red_one h] at e; omega
    · rintro ⟨j, hj, _⟩; omega
  | i + 1 => by
    rw [pre, mul_zero h, pre_red, pre_zero h xs i]
    constructor
    · rintro (⟨j, hj, e⟩ | e)
      · exact ⟨j, by omega, e⟩
      · exact ⟨i, by omega, e⟩
    · rintro ⟨j, hj, e⟩
      by_cases hji : j = i
      · exact .inr (hji ▸ e)
      · exact .inl ⟨j, by omega, e⟩
end Fp

/-- What productsAhead returns: the products, in memory of its own, and the product of all. -/
def AheadRet (p : Int) (xs : List Int) (w : World) (e : Ending) (w' : World) : Prop :=
  ∃ g, e = .returned (.tuple #[.slice (some ⟨g, 0, none⟩) xs.length xs.length, .int .u64 (Fp.pre p xs xs.length)]) ∧
    Half .u64 22 w' w.heap.size g xs.length (Fp.pre p xs) (fun _ => 0) xs.length ∧ Below w.heap.size w w'

end Go.Proofs.YtlbfllaaabginaaDoor

/-!   What the document's own answers of layer 2 come to (brackenref02), and brackenref01.Same: the same numbers and lists as power's.
-/

namespace Go.Proofs.YtlbfllaaabginaaDoor
open Go.RowKit

/-- The first k of xs, undone. -/
def invs (p : Int) (xs : List Int) (k : Nat) : List Int := (List.range k).map fun j => Fp.inv p (xs.getD j 0)
theorem invs_len (p : Int) (xs : List Int) (k : Nat) : (invs p xs k).length = k := by simp [invs]
theorem invs_all (p : Int) (xs : List Int) : invs p xs xs.length = xs.map (Fp.inv p) := by
  unfold invs
  apply List.ext_getElem?
  intro j
  by_cases hj : j < xs.length
  · simp [hj]
  · simp [hj]
/-- What brackenref02.All returns for a known prime and no list that is too long. -/
def AllRet (p : Int) (xs : List Int) (w : World) (e : Ending) (w' : World) : Prop :=
  (Fp.pre p xs xs.length = 0 ∧ e = .returned (.tuple #[.slice none 0 0, .int .i64 9]) ∧ Below w.heap.size w w') ∨ (Fp.pre p xs xs.length ≠ 0 ∧ ListRet w (xs.map (Fp.inv p)) e w')

/-! brackenref01.Same of two slices: are they the same list? -/
set_option maxHeartbeats 1000000 in
theorem same_any (x y : Option Addr) (n m cap cap' : Nat) (xs ys : List Int) (w : World) (B : Nat) (hx : Reads .u64 w B x xs) (hy : Reads .u64 w B y ys) (hn : xs.length = n) (hm : ys.length = m) (hl : n ≤ 140737488355328) (hl' : m ≤ 140737488355328) :
    Calls Tryd.prog 22 #[.slice x n cap, .slice y m cap'] w (RetQ (.bool (decide (xs = ys))) w) := by
  subst hn
  subst hm
  have HX := Lib.hid hx; clear hx
  have HY := Lib.hid hy; clear hy
  by_cases hnm : xs.length = ys.length
  · have t : ((xs.length : Int) != (ys.length : Int)) = false := by rw [hnm]; simp
    have HN := Lib.hid hnm; clear hnm
    go_enter Tryd.func22, Tryd.ntmps22
    go_wp2
    go_loopw [13] (fun i wr => ∃ k q : Nat, k ≤ xs.length ∧ i = .int .i64 k ∧ wr = w.drewN q ∧ Hid (∀ j, j < k → xs.getD j 0 = ys.getD j 0)) (fun i _ => xs.length - (intOf i).toNat)
    case atStart => exact ⟨0, 0, Nat.zero_le _, rfl, rfl, Lib.hid (fun j hj => by omega)⟩
    case round =>
      obtain ⟨k, q, hk, rfl, rfl, HA⟩ := hrel
      by_cases hlt : k < xs.length
      · have hlt' : k < ys.length := by have := HN.out; omega
        obtain ⟨b, off, rfl, hb, hc⟩ := HX.out (by omega)
        obtain ⟨b', off', rfl, hb', hc'⟩ := HY.out (by omega)
        have c1 := hc k hlt
        have c2 := hc' k hlt'
        obtain ⟨u, hu⟩ : ∃ u, u = xs.getD k 0 := ⟨_, rfl⟩
        obtain ⟨v, hv⟩ : ∃ v, v = ys.getD k 0 := ⟨_, rfl⟩
        rw [← hu] at c1
        rw [← hv] at c2
        by_cases he : u = v
        · have t2 : (u != v) = false := by rw [he]; simp
          have HA' : Hid (∀ j, j < k + 1 → xs.getD j 0 = ys.getD j 0) := Lib.hid (fun j hj => by
            by_cases e : j = k
            · rw [e, ← hu, ← hv]; exact he
            · exact HA.out j (by omega))
          clear he hu hv hc hc' HX HY
          go_wp2
          go_quiet (fail)
          go_wp2
          go_roundw
          case rel => exact ⟨k + 1, _, by omega, by go_num, rfl, HA'⟩
          case measure => simp [intOf]; omega
        · have t2 : (u != v) = true := by rw [bne_iff_ne]; exact he
          have HE : Hid (decide (xs = ys) = false) := Lib.hid (decide_eq_false (fun e => he (by rw [hu, hv, e])))
          clear he hu hv hc hc' HX HY
          go_wp2
          go_quiet (fail)
          go_wp2
          go_ret
          exact ⟨ret_bool HE.out.symm, q + nq, by rw [World.drewN_drewN]⟩
      · have HE : Hid (decide (xs = ys) = true) := Lib.hid (decide_eq_true (by
          apply List.ext_getElem HN.out
          intro j h1 h2
          have := HA.out j (by omega)
          simpa [h1, h2] using this))
        clear HX HY
        go_wp2
        go_ret
        exact ⟨ret_bool HE.out.symm, _, rfl⟩
  · have t : ((xs.length : Int) != (ys.length : Int)) = true := by rw [bne_iff_ne]; omega
    have HE : Hid (decide (xs = ys) = false) := Lib.hid (decide_eq_false (fun e => hnm (by rw [e])))
    clear hnm
    go_enter Tryd.func22, Tryd.ntmps22
    go_wp2
    go_ret
    exact ⟨ret_bool HE.out.symm, 0, rfl⟩

end Go.Proofs.YtlbfllaaabginaaDoor

/-!   The comparison of a list with itself (brackenref01.Same), and rows of words whatever they are.
-/

namespace Go.Proofs.YtlbfllaaabginaaDoor
open Go.RowKit

theorem same_self (x y : Option Addr) (n cap cap' : Nat) (xs : List Int) (w : World) (B : Nat) (hx : Reads .u64 w B x xs) (hy : Reads .u64 w B y xs) (hn : xs.length = n) (hl : n ≤ 140737488355328) :
    Calls Tryd.prog 22 #[.slice x n cap, .slice y n cap'] w (RetQ (.bool true) w) := by
  have := same_any x y n n cap cap' xs xs w B hx hy hn hn hl hl
  rw [decide_eq_true rfl] at this
  exact this

/-- A row of words of the call's own, whatever they are. -/
def OwnsSome (w : World) (base : Nat) (v : Value) (n : Nat) : Prop := ∃ vs : List Value, w.ownsRow base 22 1 v n vs ∧ ∀ j, j < n → ∃ y, vs[j]? = some (.int .u64 y)
theorem OwnsSome.of {w : World} {base : Nat} {v : Value} {xs : List Int} (h : Owns .u64 22 w base v xs) : OwnsSome w base v xs.length := ⟨_, h, fun j hj => ⟨xs[j], by simp [hj]⟩⟩
theorem OwnsSome.cell {w : World} {base g n cap j : Nat} (h : OwnsSome w base (.slice (some ⟨g, 0, none⟩) n cap) n) (hj : j < n) : ∃ y, w.cell? ⟨g, j, none⟩ = some (.int .u64 y) := by
  obtain ⟨vs, h1, h2⟩ := h
  obtain ⟨y, hy⟩ := h2 j hj
  exact ⟨y, (h1.cellAt j (by omega)).trans hy⟩
theorem OwnsSome.frozen {w : World} {base g n cap : Nat} (h : OwnsSome w base (.slice (some ⟨g, 0, none⟩) n cap) n) (j : Nat) : w.frozen? ⟨g, j, none⟩ = false := h.choose_spec.1.frozenAt j
theorem OwnsSome.set {w : World} {base g n cap j : Nat} (h : OwnsSome w base (.slice (some ⟨g, 0, none⟩) n cap) n) (y : Int) : OwnsSome (w.setCell ⟨g, j, none⟩ (.int .u64 y)) base (.slice (some ⟨g, 0, none⟩) n cap) n := by
  obtain ⟨vs, h1, h2⟩ := h
  refine ⟨_, (h1.stored j (.int .u64 y)).1, fun i hi => ?_⟩
  rw [List.getElem?_set]
  by_cases e : j = i
  · subst e
    obtain ⟨z, hz⟩ := h2 j hi
    have hl : j < vs.length := (List.getElem?_eq_some_iff.1 hz).1
    exact ⟨y, by rw [if_pos rfl, if_pos hl]⟩
  · rw [if_neg e]; exact h2 i hi
theorem OwnsSome.keep {w w' : World} {base n : Nat} {v : Value} (h : OwnsSome w base v n) (hb : Below w.heap.size w w') : OwnsSome w' base v n := by
  obtain ⟨vs, h1, h2⟩ := h
  refine ⟨vs, ⟨h1.1, ?_⟩, h2⟩
  rcases h1.2 with h3 | ⟨g, cap, cur, e1, e2, e3, e4⟩
  · exact .inl h3
  · have hg : g < w.heap.size := by
      rcases Nat.lt_or_ge g w.heap.size with hlt | hge
      · exact hlt
      · rw [Array.getElem?_eq_none hge] at e3; cases e3
    exact .inr ⟨g, cap, cur, e1, e2, (hb.block g hg).trans e3, e4⟩

end Go.Proofs.YtlbfllaaabginaaDoor

/-!   A region that draws its order, whose operations read no more than local slots and what was there, and whose callees may draw and make memory, but write nothing that was there: one walk in the text's order serves every order.
  No function of the program is named here.
-/

namespace Go.Proofs.YtlbfllaaabginaaDoor
open Go.RowKit

theorem below_al {w w' : World} (h : Below w.heap.size w w') (o : Obj) : Below w.heap.size w (w'.alloc o) := h.alloc h.size o
/-- It returns v, and nothing that was there is written. -/
def RetB (v : Value) (w : World) (e : Ending) (w' : World) : Prop := e = .returned v ∧ Below w.heap.size w w'
theorem RetQ.below {v : Value} {w w' : World} {e : Ending} (h : RetQ v w e w') : RetB v w e w' := ⟨h.1, by obtain ⟨n, rfl⟩ := h.2; exact draws_below _ _ _⟩

/-- A world that came of w with nothing written that was there. -/
structure Since (w : World) where
  out : World
  below : Below w.heap.size w out
instance (w : World) : Nonempty (Since w) := ⟨⟨w, Below.refl _ _⟩⟩
theorem Since.next {w w' : World} (s : Since w) (h : Below s.out.heap.size s.out w') : Below w.heap.size w w' := s.below.trans (h.mono s.below.size)

theorem wp_region_since {P : Program} {id : Nat} {Q : Exit → Act → World → Prop} {a : Act} {w : World} {l : List Oper} (hm : P.follows .mixedOrders = true) (hB : Region.lexB .any l.toArray = true)
    (h : wpQuiet P l.toArray (fun w' => ∃ s : Since w, w' = s.out) (fun a' => ∀ w', (∃ s : Since w, w' = s.out) → Q .normal a' w') l a) : (Code.region id l.toArray true).wp P Q a w :=
  wp_region_quiet (C := fun w' => ∃ s : Since w, w' = s.out) hm hB ⟨⟨w.drewN 1, draws_below _ _ _⟩, rfl⟩ (by simpa using h)

theorem since_call {P : Program} {f : FuncId} {args : Array Value} {w : World} {v : Value} (s : Since w) (h : Calls P f args s.out (RetB v s.out)) : Calls P f args s.out fun e w'' => e = .returned v ∧ ∃ s' : Since w, w'' = s'.out :=
  h.mono fun _ w'' ⟨he, hb⟩ => ⟨he, ⟨w'', s.next hb⟩, rfl⟩
theorem since_quiet {P : Program} {f : FuncId} {args : Array Value} {w : World} {v : Value} (s : Since w) (h : Calls P f args s.out (RetQ v s.out)) : Calls P f args s.out fun e w'' => e = .returned v ∧ ∃ s' : Since w, w'' = s'.out :=
  since_call s (h.mono fun _ _ hr => hr.below)
theorem since_same {P : Program} {f : FuncId} {args : Array Value} {w : World} {v : Value} (s : Since w) (h : Calls P f args s.out fun e w' => e = .returned v ∧ s.out = w') : Calls P f args s.out fun e w'' => e = .returned v ∧ ∃ s' : Since w, w'' = s'.out :=
  h.mono fun _ _ ⟨he, hw⟩ => ⟨he, s, hw.symm⟩

end Go.Proofs.YtlbfllaaabginaaDoor

/-!   What lay in memory lies there still, in every world that came of it with nothing written that was there. No function of the program is named here.
-/

namespace Go.Proofs.YtlbfllaaabginaaDoor
open Go.RowKit

theorem Since.cell {w : World} (s : Since w) {p : Addr} {v : Value} (h : w.cell? p = some v) : s.out.cell? p = some v := (s.below.cell (World.block_lt_of_cell? _ _ h)).trans h
theorem Since.frozen {w : World} (s : Since w) {g j : Nat} {b : Bool} (hg : g < w.heap.size) (h : w.frozen? ⟨g, j, none⟩ = b) : s.out.frozen? ⟨g, j, none⟩ = b := by
  have := s.below.block g hg
  rw [← h]
  simp only [World.frozen?]
  rw [this]

end Go.Proofs.YtlbfllaaabginaaDoor

/-!   Boxes of variables and rows that a call made, across what a loop's book-keeping, a draw or a store elsewhere does to the world. No function of the program is named here.
-/

namespace Go.Proofs.YtlbfllaaabginaaDoor
open Go.RowKit

theorem boxed_stays {W W' : World} {row : Option Nat} {B : Nat} {t : TypeId} {v : Value} (h : Boxed W B t v) (hg : W.grownBy W' row) (hr : ∀ r, row = some r → ∃ o : Obj, W.heap[r]? = some o ∧ o.isCells = false) : Boxed W' B t v :=
  h.kept hg (fun e => by obtain ⟨o, ho, hc⟩ := hr B e.symm; rw [show W.heap[B]? = _ from h] at ho; cases ho; cases hc)
theorem owned_stays {W W' : World} {row : Option Nat} {base n size : Nat} {t : TypeId} {v : Value} {ys : List Value} (h : W.ownsRow base t size v n ys) (hg : W.grownBy W' row) (hr : ∀ r, row = some r → ∃ o : Obj, W.heap[r]? = some o ∧ o.isCells = false) : W'.ownsRow base t size v n ys := by
  refine h.kept hg ?_
  rcases h.2 with ⟨rfl, _⟩ | ⟨g, cap, cur, rfl, _, hgb, _⟩
  · exact .inl rfl
  · refine .inr fun e => ?_
    obtain ⟨o, ho, hc⟩ := hr g (by simpa [Value.ownBlock] using e.symm)
    rw [hgb] at ho; cases ho; cases hc
theorem keeps_draws (W : World) (n : Nat) : KeepsOthers W (W.drewN n) := ⟨Nat.le_refl _, fun _ _ h _ => h⟩
theorem boxed_set {W : World} {B : Nat} {t : TypeId} {v : Value} (h : Boxed W B t v) {a : Addr} (u : Value) (hne : B ≠ a.block) : Boxed (W.setCell a u) B t v := (Below.heap_setCell W a u B hne).trans h
theorem owned_set {W : World} {base n g cap : Nat} {t : TypeId} {ys : List Value} (h : W.ownsRow base t 1 (.slice (some ⟨g, 0, none⟩) n cap) n ys) {a : Addr} (u : Value) (hne : g ≠ a.block) : (W.setCell a u).ownsRow base t 1 (.slice (some ⟨g, 0, none⟩) n cap) n ys := by
  rcases h.2 with ⟨e, _⟩ | ⟨g', cap', cur, e, h1, h2, h3⟩
  · simp at e
  · simp only [Value.slice.injEq, Option.some.injEq, Addr.mk.injEq, and_true, true_and] at e
    obtain ⟨rfl, rfl⟩ := e
    exact ⟨h.1, .inr ⟨_, _, cur, rfl, h1, (Below.heap_setCell W a u g hne).trans h2, h3⟩⟩

end Go.Proofs.YtlbfllaaabginaaDoor

/-!   Slices of integers, once more: parts of them, joined ones, the comparison of two. What every layer beyond the third needs of them.
-/

namespace Go.Proofs.YtlbfllaaabginaaDoor
open Go.RowKit

theorem cast_mod (m : Nat) (r : Nat) : (m : Int) % (r : Int) = ((m % r : Nat) : Int) := (Int.natCast_emod m r).symm

theorem cast_div (m : Nat) (r : Nat) : (m : Int) / (r : Int) = ((m / r : Nat) : Int) := (Int.natCast_ediv m r).symm

theorem ret_b {a b : Bool} (h : a = b) : Ending.returned (.bool a) = .returned (.bool b) := by rw [h]

theorem info_int : (Tryd.prog.info? 3).map (fun i => (i.zero, i.size, i.bytes)) = some (some (.int .i64 0), 1, 8) := by kernel_rfl

/-- 'append(xs, ys...)', xs a row of the call's own, ys nil or a row. -/
theorem wpList_append_list {P : Program} {w : World} {ops : Array Oper} {rest : List Oper} {o : Oper} {a : Act} {Q : Exit → Act → World → Prop} (hgd : o.guard = none) (s x : Operand) (t : TypeId)
    (ho : o.op = .call { callee := .builtin .append, args := #[s, x], argTypes := #[t, t] }) (base : Nat) (e : TypeId) (i : TypeInfo) (k : IntKind) (bytes : Nat) (ht : P.underlying t = some (.slice e)) (hi : P.info? e = some i) (hz : i.zero = some (.int k 0)) (hsize : i.size = 1) (hby : i.bytes = bytes)
    (v : Value) (xs : List Int) (hs : a.eval s = v) (hown : Owns k e w base v xs) (xo : Option Addr) (n cap : Nat) (ys : List Int) (hx : a.eval x = .slice xo n cap) (hsrc : Src k w xo n cap ys) (h63 : xs.length + n ≤ maxLen) (hb : (xs.length + n) * bytes ≤ 140737488355328) (hbase : base ≤ w.heap.size)
    (h : ∀ v' w', Owns k e w' base v' (xs ++ ys) → w.grownBy w' v.ownBlock → wpList P ops Q rest (a.put o.dst v') w') : wpList P ops Q (o :: rest) a w := by
  obtain ⟨rfl, ⟨rfl, h0, rfl⟩ | ⟨ad, rfl, hc⟩⟩ := hsrc
  · obtain rfl : ys = [] := List.length_eq_zero_iff.1 h0
    exact wpList_append_own_none hgd s x t ho base e i 1 ht hi v _ _ hs hown hx (h _ _ (by rw [List.append_nil]; exact hown) ⟨rfl, rfl, rfl, Nat.le_refl _, fun _ _ _ => rfl⟩)
  · refine wpList_append_own w hgd s x t ho base e i (.int k 0) 1 bytes ht hi hz hsize hby rfl (by decide) v _ _ hs hown ad ys.length cap (ys.map (Value.int k)) hx (by simp) ?_ ?_ h63 hb hbase ?_
    · intro j u hu
      have hj : j < ys.length := by
        rcases Nat.lt_or_ge j ys.length with h | h
        · exact h
        · rw [List.getElem?_eq_none (by simpa using h)] at hu; cases hu
      rw [hc j hj]
      simpa [hj] using hu
    · intro u hu
      obtain ⟨z, _, rfl⟩ := List.mem_map.1 hu
      rfl
    · intro v' w' hown' hg _
      refine h v' w' ?_ hg
      unfold Owns
      rw [List.length_append, List.map_append]
      exact hown'

theorem Owns.src {k : IntKind} {e : TypeId} {w : World} {base : Nat} {v : Value} {xs : List Int} (h : Owns k e w base v xs) : ∃ x cap, v = .slice x xs.length cap ∧ Src k w x xs.length cap xs := by
  rcases h.2 with ⟨e1, e2⟩ | ⟨g, cap, cur, e1, _⟩
  · exact ⟨none, 0, by rw [e1, e2], rfl, .inl ⟨rfl, e2, rfl⟩⟩
  · refine ⟨some ⟨g, 0, none⟩, cap, e1, rfl, .inr ⟨_, rfl, fun j hj => ?_⟩⟩
    subst e1
    have hc := World.ownsRow.cellAt h j (by omega)
    have ea : (⟨g, 0, none⟩ : Addr).add j = ⟨g, j, none⟩ := by cases j <;> simp [Addr.add]
    rw [ea, hc]
    simp [List.getD_eq_getElem?_getD, hj]

theorem Src.keep {k : IntKind} {w w' : World} {x : Option Addr} {n cap : Nat} {xs : List Int} (h : Src k w x n cap xs) (hb : Below w.heap.size w w') : Src k w' x n cap xs := by
  refine ⟨h.1, h.2.imp id fun ⟨ad, e, hc⟩ => ⟨ad, e, fun j hj => ?_⟩⟩
  exact (hb.cell (World.block_lt_of_cell? _ _ (hc j hj))).trans (hc j hj)

/-- A slice of one number, made anew. -/
theorem owns_one (w : World) (k : IntKind) (e : TypeId) (u : Int) (base : Nat) (hb : base ≤ w.heap.size) : Owns k e (w.alloc (.cells #[.int k u] e)) base (.slice (some ⟨w.heap.size, 0, none⟩) 1 1) [u] :=
  ⟨rfl, .inr ⟨w.heap.size, 1, #[.int k u], rfl, hb, World.alloc_heap_new w _, Nat.le_refl _, by unfold maxLen; omega, rfl, rfl⟩⟩

theorem ret_i {a b : Int} (h : a = b) : Ending.returned (.int .i64 a) = .returned (.int .i64 b) := by rw [h]

theorem Reads.take {k : IntKind} {w : World} {B : Nat} {x : Option Addr} {xs : List Int} (h : Reads k w B x xs) (i : Nat) : Reads k w B x (xs.take i) := fun hn => by
  obtain ⟨b, off, e, hb, hc⟩ := h (by simp at hn; omega)
  refine ⟨b, off, e, hb, fun j hj => ?_⟩
  have hj' : j < i ∧ j < xs.length := by simp at hj; omega
  rw [hc j hj'.2]
  simp [List.getD_eq_getElem?_getD, hj'.1]

theorem Reads.drop {k : IntKind} {w : World} {B : Nat} {b off : Nat} {xs : List Int} (h : Reads k w B (some ⟨b, off, none⟩) xs) (i : Nat) : Reads k w B (some ⟨b, off + i, none⟩) (xs.drop i) := fun hn => by
  obtain ⟨b', off', e, hb, hc⟩ := h (by simp at hn; omega)
  cases e
  refine ⟨b, off + i, rfl, hb, fun j hj => ?_⟩
  have hj' : i + j < xs.length := by simp at hj; omega
  rw [Nat.add_assoc, hc (i + j) hj']
  simp [List.getD_eq_getElem?_getD]
theorem i64_of {n : Int} (h : (Lit.int .i64 n).wf = true) : -9223372036854775808 ≤ n ∧ n < 9223372036854775808 := by
  have := bounds_i64 h
  omega
theorem u8_of {n : Int} (h : (Lit.int .u8 n).wf = true) : 0 ≤ n ∧ n < 256 := by
  have := bounds_u8 h
  omega

/-- What stands behind the first i numbers of a slice. -/
theorem Reads.behind {k : IntKind} {w : World} {B : Nat} {b off : Nat} {xs : List Int} (h : Reads k w B (some ⟨b, off, none⟩) xs) {cap : Nat} (hc : xs.length ≤ cap) (i : Nat) : Reads k w B (if cap = i then some ⟨b, off, none⟩ else some ⟨b, off + i, none⟩) (xs.drop i) := by
  by_cases e : cap = i
  · rw [List.drop_eq_nil_of_le (by omega)]; exact Reads.nil
  · rw [if_neg e]; exact h.drop i

/-- A slice with an address, as a source of append. -/
theorem Reads.src {k : IntKind} {w : World} {B : Nat} {ad : Addr} {xs : List Int} (h : Reads k w B (some ad) xs) (cap : Nat) : Src k w (some ad) xs.length cap xs := by
  refine ⟨rfl, .inr ⟨ad, rfl, fun j hj => ?_⟩⟩
  obtain ⟨b, off, e, _, hc⟩ := h (by omega)
  cases e
  have ea : (⟨b, off, none⟩ : Addr).add j = ⟨b, off + j, none⟩ := by cases j <;> simp [Addr.add]
  rw [ea]
  exact hc j hj

/-- A slice of numbers that came in reads as a list of numbers. -/
theorem RowIn.readsI {w : World} {a : Option Addr} {len cap : Nat} {zs : List Int} (h : RowIn .i64 w a len cap zs) : ∃ xs, xs = zs.take len ∧ xs.length = len ∧ len ≤ cap ∧ cap ≤ maxLen ∧ Reads .i64 w w.heap.size a xs ∧ Src .i64 w a len cap xs := by
  rcases h with ⟨rfl, rfl, rfl, rfl⟩ | ⟨x, rfl, h1, h2, h3, h4, h5⟩
  · exact ⟨[], rfl, rfl, Nat.le_refl _, by unfold maxLen; omega, Reads.nil, rfl, .inl ⟨rfl, rfl, rfl⟩⟩
  · refine ⟨zs.take len, rfl, by simp; omega, h1, h2, fun hn => ?_, by simp; omega, .inr ⟨x, rfl, fun j hj => ?_⟩⟩
    · have hn' : 0 < zs.length := by simp at hn; omega
      obtain ⟨b, off, rfl, hc⟩ := ints_at h4 hn'
      refine ⟨b, off, rfl, ?_, fun j hj => ?_⟩
      · exact World.block_lt_of_cell? _ _ (hc 0 hn')
      · have hj' : j < len ∧ j < zs.length := by simp at hj; omega
        rw [hc j hj'.2]; simp [hj'.1]
    · rw [h4 j (by omega)]; simp [hj]

/-- The slice of one number that is built ahead of an append. -/
theorem src_one (w : World) (k : IntKind) (e : TypeId) (u : Int) : Src k (w.alloc (.cells #[.int k u] e)) (some ⟨w.heap.size, 0, none⟩) 1 1 [u] := by
  refine ⟨rfl, .inr ⟨_, rfl, fun j hj => ?_⟩⟩
  obtain rfl : j = 0 := by omega
  have hc := World.ownsRow.cellAt (owns_one w k e u w.heap.size (Nat.le_refl _)) 0 (by simp)
  have ea : (⟨w.heap.size, 0, none⟩ : Addr).add 0 = ⟨w.heap.size, 0, none⟩ := by simp [Addr.add]
  rw [ea, hc]
  rfl
theorem Owns.alloc {k : IntKind} {e : TypeId} {w : World} {base : Nat} {v : Value} {xs : List Int} (h : Owns k e w base v xs) (o : Obj) : Owns k e (w.alloc o) base v xs := World.ownsRow.alloc h o

end Go.Proofs.YtlbfllaaabginaaDoor

/-!   A region that draws its order, whose operations read, or call what only draws, till a last few store in one forced order: one walk in the text's order serves every order.
  Plain, and inside a round of a range over a function. No program is named here.
-/

namespace Go.Proofs.YtlbfllaaabginaaDoor
open Go

section
variable {P : Program} {md : Region.Mode} {ops : Array Oper} {C : World → Prop} {m : Nat}

/-- Whatever of the first m operations comes up is quiet, till all have come; then L. -/
def headQ (P : Program) (md : Region.Mode) (ops : Array Oper) (C : World → Prop) (m : Nat) (L : Array Bool → Act → Prop) : Nat → Array Bool → Act → Prop
  | 0, listed, a => L listed a
  | f + 1, listed, a => Region.ready md ops listed ≠ [] ∧ ∀ i ∈ Region.ready md ops listed, i < m ∧ qOp P ops C i (headQ P md ops C m L f (listed.setIfInBounds i true)) a

theorem any_of_headQ {L : Array Bool → Act → Prop} {Q : Exit → Act → World → Prop} {g : Nat} (hL : ∀ listed a w, C w → L listed a → wpAny P md ops Q g listed a w) :
    ∀ (f : Nat) (listed : Array Bool) (a : Act) (w : World), C w → headQ P md ops C m L f listed a → wpAny P md ops Q (f + g) listed a w
  | 0, listed, a, w, hw, h => by rw [Nat.zero_add]; exact hL _ _ _ hw h
  | f + 1, listed, a, w, hw, h => by
    rw [show f + 1 + g = (f + g) + 1 by omega]
    exact ⟨fun h0 => absurd h0 h.1, fun i hi => wpOp_of_qOp hw (fun a' w' hw' h' => any_of_headQ hL f _ a' w' hw' h') (h.2 i hi).2⟩

/-- As long as one of the operations from k0 up to m has not come up, none from m on is ready. -/
def Waits (md : Region.Mode) (ops : Array Oper) (m k0 : Nat) : Prop :=
  ∀ listed : Array Bool, HeadInv md ops m listed → ∀ i, k0 ≤ i → i < m → listed.getD i true = false → ∀ t, m ≤ t → t ∉ Region.ready md ops listed

theorem headQ_first {L : Array Bool → Act → Prop} {i k0 : Nat} {oi : Oper} {v : Value} (hi : ops[i]? = some oi) (hsel : ∀ (j : Nat) (o : Oper) cs b, ops[j]? = some o → o.op ≠ .select cs b)
    (hwt : Waits md ops m k0) (hik : k0 ≤ i) (him : i < m) (hdone : ∀ listed a, L listed a → ∀ j ∈ Region.ready md ops listed, m ≤ j) :
    ∀ (f : Nat) (listed : Array Bool) (a : Act), HeadInv md ops m listed →
      (∀ j oj, ops[j]? = some oj → j ≠ i → listed.getD j true = false → (∀ e ∈ oj.after, Region.binds md e = true → e.on ≠ i) → oi.apart ops oj = true) →
      i ∈ Region.ready md ops listed → YieldsIn P ops C oi v a → headQ P md ops C m L f (listed.setIfInBounds i true) (a.put oi.dst v) → headQ P md ops C m L (f + 1) listed a := by
  intro f
  induction f with
  | zero =>
    intro listed a inv _ hr hy H
    have hun := (mem_ready.1 hr).1
    refine ⟨fun h => (by rw [h] at hr; cases hr), fun j hj => ?_⟩
    have hjm : j < m := Nat.lt_of_not_le fun h => hwt listed inv i hik him hun j h hj
    by_cases hji : j = i
    · subst hji; exact ⟨hjm, hy.qOp hi H⟩
    · have := hdone _ _ H j (ready_mono hj hji); omega
  | succ f ih =>
    intro listed a inv hfree hr hy H
    have hun := (mem_ready.1 hr).1
    refine ⟨fun h => (by rw [h] at hr; cases hr), fun j hj => ?_⟩
    have hjm : j < m := Nat.lt_of_not_le fun h => hwt listed inv i hik him hun j h hj
    refine ⟨hjm, ?_⟩
    by_cases hji : j = i
    · subst hji; exact hy.qOp hi H
    · obtain ⟨hjun, oj, hoj, hall⟩ := mem_ready.1 hj
      have hnot : ∀ e ∈ oj.after, Region.binds md e = true → e.on ≠ i := fun e he hb heq => by
        have h1 := hall e he hb
        rw [heq, getD_both hun] at h1
        cases h1
      have h2 := qOp_put hoj (hfree j oj hoj hji hjun hnot) (fun cs b => hsel i oi cs b hi) (fun cs b => hsel j oj cs b hoj) hy (H.2 j (ready_mono hj hji)).2
      refine qOp_mono (fun a' h3 => ih (listed.setIfInBounds j true) a' (inv.set hj hjm) (fun k ok hk hki hunk hno => hfree k ok hk hki ?_ hno) (ready_mono hr (Ne.symm hji)) h3.1 ?_) h2
      · by_cases hjk : j = k
        · subst hjk; exact hjun
        · rw [getD_set_ne true hjk] at hunk; exact hunk
      · rw [Array.setIfInBounds_comm _ _ hji]; exact h3.2

theorem headQ_lex {g k0 : Nat} {Lq : Act → Prop} (hsel : Region.noSelect ops = true) (hwt : Waits md ops m k0) :
    ∀ (l : List Oper) (k : Nat) (listed : Array Bool) (a : Act), k0 ≤ k → (∀ j, j < l.length → l[j]? = ops[k + j]?) → k + l.length = m → HeadInv md ops m listed →
    Region.lexHead md ops g l.length k listed = true → wpQuiet P ops C Lq l a → headQ P md ops C m (fun listed' a' => Region.seqB md ops g m listed' = true ∧ Lq a') l.length listed a
  | [], k, listed, a, _, _, hk, _, hB, h => by
    obtain rfl : k = m := by simpa using hk
    exact ⟨by simpa [Region.lexHead] using hB, h⟩
  | o :: l, k, listed, a, h0k, hl, hk, inv, hB, h => by
    have h0 : ops[k]? = some o := by simpa using (hl 0 (by simp)).symm
    simp only [List.length_cons, Region.lexHead, Bool.and_eq_true] at hB
    obtain ⟨⟨hr, hf⟩, hB'⟩ := hB
    have hkm : k < m := by simp only [List.length_cons] at hk; omega
    have hr' : k ∈ Region.ready md ops listed := by simpa using hr
    obtain ⟨v, hy, hK⟩ := yieldsIn_of_qOp (K := wpQuiet P ops C Lq l) h0 (by unfold qOp; simp only [h0]; exact h)
    exact headQ_first h0 (Region.noSelect_spec hsel) hwt h0k hkm (fun _ _ hL => seqB_ready hL.1) l.length listed a inv (Region.free_spec h0 hf) hr' hy
      (headQ_lex hsel hwt l (k + 1) _ _ (by omega) (fun j hj => by have := hl (j + 1) (by simp; omega); simpa [Nat.add_assoc, Nat.add_comm 1 j] using this) (by simp only [List.length_cons] at hk; omega) (inv.set hr' hkm) hB' hK)
end

/-- Quiet till place m, then in the text's order: every order of the region comes to it. -/
theorem any_quiet_tail {P : Program} {C : World → Prop} {Q : Exit → Act → World → Prop} {a : Act} {w : World} {l : List Oper} (m : Nat) (hB : Region.lexTailB .any l.toArray m = true) (hC : C w)
    (h : wpQuiet P l.toArray C (fun a' => ∀ w', C w' → wpList P l.toArray Q (l.drop m) a' w') (l.take m) a) : wpAny P .any l.toArray Q l.toArray.size (Array.replicate l.toArray.size false) a w := by
  simp only [Region.lexTailB, Bool.and_eq_true, decide_eq_true_eq] at hB
  obtain ⟨⟨⟨⟨hsel, hm⟩, hs⟩, hc⟩, hlex⟩ := hB
  have hm' : m < l.length := by simpa using hm
  have htl : (l.take m).length = m := by simp; omega
  have hdl : (l.drop m).length = l.toArray.size - m := by simp
  have inv0 : HeadInv .any l.toArray m (Array.replicate l.toArray.size false) :=
    ⟨by simp, fun j oj _ hl => (by rw [getD_replicate_false] at hl; cases hl), fun t _ ht => getD_in (by simpa using ht) (getD_replicate_false _ _)⟩
  have H := headQ_lex (md := .any) (g := l.toArray.size - m) (k0 := 0) hsel (fun listed inv i _ hi hun t ht => tail_waits hs hc hm inv _ i rfl hi hun t ht) (l.take m) 0 _ a (Nat.zero_le _) (fun j hj => by
    have hj' : j < m := by rw [htl] at hj; exact hj
    simp [hj']) (by simpa using htl) inv0 (by rw [htl]; exact hlex) h
  have := any_of_headQ (Q := Q) (g := l.toArray.size - m) (fun listed a' w' hw' hL => by
    have := wpAny_of_seq (md := .any) (Q' := Q) (l.drop m) m listed a' w' (fun j => by simp [List.getElem?_drop]) (by rw [hdl]; exact hL.1) (hL.2 w' hw')
    rwa [hdl] at this) _ _ _ w hC H
  rw [htl, show m + (l.toArray.size - m) = l.toArray.size by omega] at this
  exact this

/-- The same as a region's own word, at the worlds that have only drawn. -/
theorem region_quiet_tail {P : Program} {id : Nat} {Q : Exit → Act → World → Prop} {a : Act} {w : World} {l : List Oper} (m : Nat) (hm : P.follows .mixedOrders = true) (hB : Region.lexTailB .any l.toArray m = true)
    (h : wpQuiet P l.toArray (fun w' => ∃ n, w' = w.drewN n) (fun a' => ∀ w', (∃ n, w' = w.drewN n) → wpList P l.toArray Q (l.drop m) a' w') (l.take m) a) : (Code.region id l.toArray true).wp P Q a w :=
  wp_region_any hm (any_quiet_tail (C := fun w' => ∃ n, w' = w.drewN n) m hB ⟨1, rfl⟩ h)

/-! Inside a round, at the wide fence: what is no defer statement is carried out as everywhere. -/
theorem rowsIn_wide {P : Program} {n r : Nat} {row : String} {args : Array Value} {w : World} {R : Value → World → Prop} (h : Rows P row args w R) : RowsIn (Fence.wide.inRound r) n P row args w R :=
  fun c cs _ => let ⟨v, w', hr, s⟩ := h c cs; ⟨v, w', hr, stepsIn_wide.2 s⟩
theorem anyIn_of_any {P : Program} {n r : Nat} {md : Region.Mode} {ops : Array Oper} {Q : Exit → Act → World → Prop} (hd : ∀ (i : Nat) (o : Oper), ops[i]? = some o → ∀ c, o.op ≠ .defer c) (hQ : ¬ LetsOut Q) :
    ∀ (f : Nat) (listed : Array Bool) (a : Act) (w : World), wpAny P md ops Q f listed a w → wpAnyIn (Fence.wide.inRound r) n P md ops Q f listed a w
  | 0, _, _, _, h => h
  | f + 1, listed, a, w, h => by
    refine ⟨h.1, fun i hi => ?_⟩
    have h2 := h.2 i hi
    unfold wpOp at h2
    unfold wpOpIn
    cases ho : ops[i]? with
    | none => simp only [ho] at h2 ⊢; exact anyIn_of_any hd hQ f _ _ _ h2
    | some o =>
      simp only [ho] at h2 ⊢
      split
      · rename_i hw
        rw [if_pos hw] at h2
        have h3 := h2.resolve_right (fun h => hQ h.2)
        refine ⟨fun _ _ => trivial, ?_⟩
        rw [Oper.semAt_eq _ _ _ (hd i o ho)]
        unfold Oper.wp at h3
        generalize (execOp a.eval o).run P w = res at h3
        cases res with
        | halt x w' => cases x <;> exact h3
        | ok x w' =>
          cases x with
          | value v => exact anyIn_of_any hd hQ f _ _ _ h3
          | skip => exact anyIn_of_any hd hQ f _ _ _ h3
          | defer d => exact anyIn_of_any hd hQ f _ _ _ h3
          | enter g args =>
            refine ⟨(fun h => by cases h), CallsIn.inRound r (callsIn_wide.2 (Calls.mono h3 fun e w'' he => ?_))⟩
            cases e with
            | returned v => exact anyIn_of_any hd hQ f _ _ _ he
            | panicked ch => exact he
            | outgrown => exact he
          | row nm args => exact ⟨(fun h => by cases h), rowsIn_wide (Rows.mono h3 fun v w'' he => anyIn_of_any hd hQ f _ _ _ he)⟩
          | _ => exact h3.elim
      · rename_i hw
        rw [if_neg hw] at h2
        exact ⟨fun _ _ => trivial, anyIn_of_any hd hQ f _ _ _ h2⟩

/-- None of them is a defer statement. -/
def noDefer (l : List Oper) : Bool := l.all fun o => match o.op with | .defer _ => false | _ => true
theorem noDefer_spec {l : List Oper} (h : noDefer l = true) (i : Nat) (o : Oper) (ho : l.toArray[i]? = some o) : ∀ c, o.op ≠ .defer c := by
  intro c e
  have hm : o ∈ l := by
    rw [List.getElem?_toArray] at ho
    exact List.mem_of_getElem? ho
  have := List.all_eq_true.1 h o hm
  rw [e] at this
  cases this

theorem regionIn_quiet_tail {P : Program} {id n r : Nat} {Q : Exit → Act → World → Prop} {a : Act} {w : World} {l : List Oper} (m : Nat) (hm : P.follows .mixedOrders = true) (hB : Region.lexTailB .any l.toArray m = true)
    (hd : noDefer l = true) (hQ : ¬ LetsOut Q)
    (h : wpQuiet P l.toArray (fun w' => ∃ n, w' = w.drewN n) (fun a' => ∀ w', (∃ n, w' = w.drewN n) → wpList P l.toArray Q (l.drop m) a' w') (l.take m) a) : (Code.region id l.toArray true).wpIn (Fence.wide.inRound r) n P Q a w :=
  wpIn_region_any hm (anyIn_of_any (noDefer_spec hd) hQ _ _ _ _ (any_quiet_tail (C := fun w' => ∃ n, w' = w.drewN n) m hB ⟨1, rfl⟩ h))

end Go.Proofs.YtlbfllaaabginaaDoor

/-!   A drawn region whose first operations read, and call what writes nothing that was there; then in the text's order. No function of the program is named here.
-/

namespace Go.Proofs.YtlbfllaaabginaaDoor
open Go.RowKit

/-- A region that draws its order: its first m operations read, and call what writes nothing that was there; then in the text's order. -/
theorem region_since_tail {P : Program} {id : Nat} {Q : Exit → Act → World → Prop} {a : Act} {w : World} {l : List Oper} (m : Nat) (hm : P.follows .mixedOrders = true) (hB : Region.lexTailB .any l.toArray m = true)
    (h : wpQuiet P l.toArray (fun w' => ∃ s : Since w, w' = s.out) (fun a' => ∀ w', (∃ s : Since w, w' = s.out) → wpList P l.toArray Q (l.drop m) a' w') (l.take m) a) : (Code.region id l.toArray true).wp P Q a w :=
  wp_region_any hm (any_quiet_tail (C := fun w' => ∃ s : Since w, w' = s.out) m hB ⟨⟨w.drewN 1, draws_below _ _ _⟩, rfl⟩ h)

end Go.Proofs.YtlbfllaaabginaaDoor

/-!   A region that draws its order, of the form 'x = append(x, T{..})': the read of x (the first operation of the text) may come up before or behind the making of the slice of what is appended; all else ahead of that is quiet: one walk serves every order.
  Plain, and inside a round of a range over a function. No program is named here.
-/

namespace Go.Proofs.YtlbfllaaabginaaDoor
open Go

section
variable {P : Program} {md : Region.Mode} {ops : Array Oper} {C C2 : World → Prop} {m : Nat}

/-- All of the first n operations but the first are waited for by one up to place n. -/
def sink1B (md : Region.Mode) (ops : Array Oper) (n : Nat) : Bool :=
  (List.range n).all fun i => decide (i = 0) || (List.range (n + 1)).any fun j => decide (i < j) && Region.waitsFor md ops j i

theorem waits_late (hs : sink1B md ops m = true) (hc : Region.chainB md ops m = true) : Waits md ops m 1 := by
  intro listed inv
  -- the one at place m waits, directly or by others that have not come up either
  have at_m : ∀ d i, m - i = d → 1 ≤ i → i < m → listed.getD i true = false → m ∉ Region.ready md ops listed := by
    intro d
    induction d using Nat.strongRecOn with
    | _ d ih =>
      intro i hd h1 him hun hr
      obtain ⟨j, hj, hw⟩ : ∃ j, (i < j ∧ j ≤ m) ∧ Region.waitsFor md ops j i = true := by
        have := List.all_eq_true.1 hs i (List.mem_range.2 him)
        rw [decide_eq_false (by omega : ¬ i = 0), Bool.false_or, List.any_eq_true] at this
        obtain ⟨j, hj, h2⟩ := this
        rw [Bool.and_eq_true, decide_eq_true_eq] at h2
        exact ⟨j, ⟨h2.1, Nat.le_of_lt_succ (List.mem_range.1 hj)⟩, h2.2⟩
      obtain ⟨oj, hoj, e, he, hb, hon⟩ := Region.waitsFor_spec hw
      rcases Nat.lt_or_ge j m with hjm | hjm
      · have hlj : listed.getD j false = false := by
          cases hl : listed.getD j false
          · rfl
          · have := inv.closed j oj hoj hl e he hb
            rw [hon, getD_both hun] at this
            cases this
        exact ih (m - j) (by omega) j rfl (by omega) hjm (getD_in (by rw [inv.size]; exact (Array.getElem?_eq_some_iff.1 hoj).1) hlj) hr
      · obtain rfl : j = m := by omega
        obtain ⟨_, o', ho', hall⟩ := mem_ready.1 hr
        rw [hoj] at ho'
        cases ho'
        have := hall e he hb
        rw [hon, getD_both hun] at this
        cases this
  intro i hi him hun t ht hr
  rcases Nat.eq_or_lt_of_le ht with rfl | hlt
  · exact at_m _ i rfl hi him hun hr
  · obtain ⟨_, ot, hot, hall⟩ := mem_ready.1 hr
    have hts : t < ops.size := (Array.getElem?_eq_some_iff.1 hot).1
    have h1 := List.all_eq_true.1 hc t (List.mem_range.2 hts)
    rw [decide_eq_false (by omega : ¬ t ≤ m), Bool.false_or] at h1
    obtain ⟨o', ho', e, he, hb, hon⟩ := Region.waitsFor_spec h1
    rw [hot] at ho'
    cases ho'
    have := hall e he hb
    rw [hon, getD_both (inv.tail (t - 1) (by omega) (by omega))] at this
    cases this

/-- The first operation is late: it may come up ahead of the one at place m, or behind it. -/
theorem any_late {Q : Exit → Act → World → Prop} {o0 om : Oper} {v : Value} {g : Nat} {rest : List Oper} (h0 : ops[0]? = some o0) (hom : ops[m]? = some om) (h0m : 0 < m)
    (hsel : ∀ (j : Nat) (o : Oper) cs b, ops[j]? = some o → o.op ≠ .select cs b) (hwt : g = 0 ∨ Region.waitsFor md ops (m + 1) 0 = true)
    (hrest : ∀ j, rest[j]? = ops[m + 1 + j]?) (hrl : rest.length = g)
    (Lq : Act → Prop) (hLq : ∀ a', Lq a' → Region.wanted om (yielded ops a'.tmps) = true ∧ ∃ vm, (∀ w', C w' → ∃ w2, (execOp a'.eval om).run P w' = .ok (.value vm) w2 ∧ C2 w2) ∧ ∀ w2, C2 w2 → wpList P ops Q rest (a'.put om.dst vm) w2) :
    ∀ (f : Nat) (listed : Array Bool) (a : Act) (w : World),
      (∀ j oj, ops[j]? = some oj → j ≠ 0 → listed.getD j true = false → (∀ e ∈ oj.after, Region.binds md e = true → e.on ≠ 0) → o0.apart ops oj = true) →
      0 ∈ Region.ready md ops listed → YieldsIn P ops C o0 v a → YieldsIn P ops C2 o0 v a → C w →
      headQ P md ops C m (fun listed' a' => Region.seqB md ops (g + 1) m listed' = true ∧ Lq a') f (listed.setIfInBounds 0 true) (a.put o0.dst v) →
      wpAny P md ops Q (f + (g + 1) + 1) listed a w := by
  have fin : ∀ listed a w, C w → (Region.seqB md ops (g + 1) m listed = true ∧ Lq a) → wpAny P md ops Q (g + 1) listed a w := by
    intro listed a w hC ⟨hs, hL⟩
    obtain ⟨hw, vm, h1, h2⟩ := hLq a hL
    obtain ⟨w2, hrun, hC2⟩ := h1 w hC
    have := wpAny_of_seq (md := md) (P := P) (Q' := Q) (ops := ops) (om :: rest) m listed a w (fun j => by
      cases j with
      | zero => simpa using hom.symm
      | succ j => have := hrest j; simpa [Nat.add_assoc, Nat.add_comm 1 j] using this) (by simpa [hrl] using hs) (by
      simp only [wpList, hw, if_true]
      refine .inl ?_
      unfold Oper.wp
      rw [hrun]
      exact h2 w2 hC2)
    simpa [hrl] using this
  intro f
  induction f with
  | zero =>
    intro listed a w hfree hr hy1 hy2 hC H
    have hun := (mem_ready.1 hr).1
    refine ⟨fun h => (by rw [h] at hr; cases hr), fun j hj => ?_⟩
    rw [show 0 + (g + 1) = g + 1 from Nat.zero_add _]
    by_cases hj0 : j = 0
    · subst hj0
      exact wpOp_of_qOp hC (fun a' w' hC' hK => fin _ a' w' hC' hK) (hy1.qOp h0 H)
    · have hj' := ready_mono hj hj0
      have hs := H.1
      simp only [Region.seqB, Bool.and_eq_true, decide_eq_true_eq] at hs
      rw [hs.1] at hj'
      obtain rfl : j = m := by simpa using hj'
      obtain ⟨hjun, oj, hoj, hall⟩ := mem_ready.1 hj
      obtain rfl : oj = om := Option.some.inj (hoj.symm.trans hom)
      have hnot : ∀ e ∈ oj.after, Region.binds md e = true → e.on ≠ 0 := fun e he hb heq => by
        have h1 := hall e he hb
        rw [heq, getD_both hun] at h1
        cases h1
      obtain ⟨ap1, ap2, ap3⟩ := Oper.apart_spec (hfree j oj hoj hj0 hjun hnot)
      obtain ⟨hw, vm, hx1, hx2⟩ := hLq _ H.2
      obtain ⟨w2, hrun, hC2⟩ := hx1 w hC
      rw [wanted_put oj a o0.dst v ap1] at hw
      rw [execOp_put oj (fun cs b => hsel j oj cs b hoj) a o0.dst v ap1] at hrun
      have hyk : YieldsIn P ops C2 o0 v (a.put oj.dst vm) := hy2.of_same (execOp_put o0 (fun cs b => hsel 0 o0 cs b h0) a oj.dst vm ap3) (wanted_put o0 a oj.dst vm ap3)
      unfold wpOp
      simp only [hoj, hw, if_true]
      refine .inl ?_
      unfold Oper.wp
      rw [hrun]
      have hr2 : 0 ∈ Region.ready md ops (listed.setIfInBounds j true) := ready_mono hr (Ne.symm hj0)
      show wpAny P md ops Q (g + 1) (listed.setIfInBounds j true) (a.put oj.dst vm) w2
      refine ⟨fun h => (by rw [h] at hr2; cases hr2), fun k hk => ?_⟩
      have hk0 : k = 0 := by
        rcases Nat.eq_zero_or_pos k with h | hkp
        · exact h
        · exfalso
          have hk' := ready_mono hk (Nat.ne_of_gt hkp)
          rw [Array.setIfInBounds_comm _ _ hj0] at hk'
          have hs2 := hs.2
          cases g with
          | zero => simp only [Region.seqB, List.isEmpty_iff] at hs2; rw [hs2] at hk'; cases hk'
          | succ g =>
            simp only [Region.seqB, Bool.and_eq_true, decide_eq_true_eq] at hs2
            rw [hs2.1] at hk'
            obtain rfl : k = j + 1 := by simpa using hk'
            rcases hwt with h | h
            · omega
            · obtain ⟨ok, hok, e, he, hb, hon⟩ := Region.waitsFor_spec h
              obtain ⟨_, ok', hok', hall'⟩ := mem_ready.1 hk
              have : ok = ok' := Option.some.inj (hok.symm.trans hok')
              subst this
              have h1 := hall' e he hb
              rw [hon, getD_both (mem_ready.1 hr2).1] at h1
              cases h1
      subst hk0
      refine wpOp_of_qOp (C := C2) hC2 (fun a' w' hC' hK => hK w' hC') (hyk.qOp h0 (K := fun a' => ∀ w', C2 w' → wpAny P md ops Q g ((listed.setIfInBounds j true).setIfInBounds 0 true) a' w') ?_)
      intro w3 hC3
      rw [Array.setIfInBounds_comm _ _ hj0]
      rw [← Act.put_comm a v vm ap2]
      have := wpAny_of_seq (md := md) (P := P) (Q' := Q) (ops := ops) rest (j + 1) ((listed.setIfInBounds 0 true).setIfInBounds j true) ((a.put o0.dst v).put oj.dst vm) w3 hrest (by rw [hrl]; exact hs.2) (hx2 w3 hC3)
      rwa [hrl] at this
  | succ f ih =>
    intro listed a w hfree hr hy1 hy2 hC H
    have hun := (mem_ready.1 hr).1
    refine ⟨fun h => (by rw [h] at hr; cases hr), fun j hj => ?_⟩
    by_cases hj0 : j = 0
    · subst hj0
      refine wpOp_of_qOp hC (fun a' w' hC' hK => ?_) (hy1.qOp h0 H)
      exact any_of_headQ (fun listed a w hC h => fin listed a w hC h) (f + 1) _ a' w' hC' hK
    · obtain ⟨hjm, hq⟩ := H.2 j (ready_mono hj hj0)
      obtain ⟨hjun, oj, hoj, hall⟩ := mem_ready.1 hj
      have hnot : ∀ e ∈ oj.after, Region.binds md e = true → e.on ≠ 0 := fun e he hb heq => by
        have h1 := hall e he hb
        rw [heq, getD_both hun] at h1
        cases h1
      obtain ⟨ap1, ap2, ap3⟩ := Oper.apart_spec (hfree j oj hoj hj0 hjun hnot)
      obtain ⟨u, hyj, hK⟩ := yieldsIn_of_qOp hoj hq
      have hyj' : YieldsIn P ops C oj u a := hyj.of_same (execOp_put oj (fun cs b => hsel j oj cs b hoj) a o0.dst v ap1).symm (wanted_put oj a o0.dst v ap1).symm
      have k1 : YieldsIn P ops C o0 v (a.put oj.dst u) := hy1.of_same (execOp_put o0 (fun cs b => hsel 0 o0 cs b h0) a oj.dst u ap3) (wanted_put o0 a oj.dst u ap3)
      have k2 : YieldsIn P ops C2 o0 v (a.put oj.dst u) := hy2.of_same (execOp_put o0 (fun cs b => hsel 0 o0 cs b h0) a oj.dst u ap3) (wanted_put o0 a oj.dst u ap3)
      refine wpOp_of_qOp hC (fun a' w' hC' (e : a' = a.put oj.dst u) => ?_) (hyj'.qOp hoj (K := fun a' => a' = a.put oj.dst u) rfl)
      subst e
      rw [show f + 1 + (g + 1) = f + (g + 1) + 1 by omega]
      refine ih (listed.setIfInBounds j true) _ w' (fun k ok hk hki hunk hno => hfree k ok hk hki ?_ hno) (ready_mono hr (Ne.symm hj0)) k1 k2 hC' ?_
      · by_cases hjk : j = k
        · subst hjk; exact hjun
        · rw [getD_set_ne true hjk] at hunk; exact hunk
      · rw [Array.setIfInBounds_comm _ _ hj0, ← Act.put_comm a v u ap2]; exact hK
end

/-- The region's form: the first operation late, those up to place m quiet, then one forced order. -/
def lateB (ops : Array Oper) (m : Nat) : Bool :=
  Region.noSelect ops && decide (0 < m) && decide (m < ops.size) && sink1B .any ops m && Region.chainB .any ops m && (decide (ops.size = m + 1) || Region.waitsFor .any ops (m + 1) 0) && Region.lexHead .any ops (ops.size - m) m 0 (Array.replicate ops.size false)

theorem any_late_region {P : Program} {Q : Exit → Act → World → Prop} {a : Act} {w : World} {o0 om : Oper} {l1 l2 : List Oper} (v vm : Value) (ob : Obj) (hB : lateB (o0 :: l1 ++ om :: l2).toArray (l1.length + 1) = true)
    (hw0 : Region.wanted o0 (yielded (o0 :: l1 ++ om :: l2).toArray a.tmps) = true) (h1 : ∀ k, o0.quietAt P a (fun w' => ∃ n, w' = w.drewN n) (w.drewN k) v) (h2 : ∀ k, o0.quietAt P a (fun w' => ∃ n, w' = (w.drewN n).alloc ob) ((w.drewN k).alloc ob) v)
    (h : wpQuiet P (o0 :: l1 ++ om :: l2).toArray (fun w' => ∃ n, w' = w.drewN n) (fun a' => Region.wanted om (yielded (o0 :: l1 ++ om :: l2).toArray a'.tmps) = true ∧ (∀ k, (execOp a'.eval om).run P (w.drewN k) = .ok (.value vm) ((w.drewN k).alloc ob)) ∧ ∀ k, wpList P (o0 :: l1 ++ om :: l2).toArray Q l2 (a'.put om.dst vm) ((w.drewN k).alloc ob)) l1 (a.put o0.dst v)) :
    wpAny P .any (o0 :: l1 ++ om :: l2).toArray Q (o0 :: l1 ++ om :: l2).toArray.size (Array.replicate (o0 :: l1 ++ om :: l2).toArray.size false) a (w.drewN 1) := by
  obtain ⟨ops, hops⟩ : ∃ ops, ops = (o0 :: l1 ++ om :: l2).toArray := ⟨_, rfl⟩
  rw [← hops] at hB hw0 h ⊢
  simp only [lateB, Bool.and_eq_true, decide_eq_true_eq, Bool.or_eq_true] at hB
  obtain ⟨⟨⟨⟨⟨⟨hsel, h0m⟩, hm⟩, hs⟩, hc⟩, hwt⟩, hlex⟩ := hB
  have hsz : ops.size = l1.length + 1 + (l2.length + 1) := by rw [hops]; simp; omega
  have e0 : ops[0]? = some o0 := by rw [hops]; rfl
  have em : ops[l1.length + 1]? = some om := by rw [hops]; simp
  have el1 : ∀ j, j < l1.length → l1[j]? = ops[1 + j]? := by
    intro j hj
    rw [hops, Nat.add_comm 1 j, List.getElem?_toArray, List.cons_append, List.getElem?_cons_succ, List.getElem?_append_left hj]
  have el2 : ∀ j, l2[j]? = ops[l1.length + 1 + 1 + j]? := by
    intro j
    rw [hops, show l1.length + 1 + 1 + j = (l1.length + (j + 1)) + 1 by omega, List.getElem?_toArray, List.cons_append, List.getElem?_cons_succ, List.getElem?_append_right (by omega), Nat.add_sub_cancel_left, List.getElem?_cons_succ]
  have inv0 : HeadInv .any ops (l1.length + 1) (Array.replicate ops.size false) :=
    ⟨by simp, fun j oj _ hl => (by rw [getD_replicate_false] at hl; cases hl), fun t _ ht => getD_in (by simpa using ht) (getD_replicate_false _ _)⟩
  simp only [Region.lexHead, Bool.and_eq_true] at hlex
  obtain ⟨⟨hr, hf⟩, hlex'⟩ := hlex
  have hr' : 0 ∈ Region.ready .any ops (Array.replicate ops.size false) := by simpa using hr
  have H := headQ_lex (P := P) (C := fun w' => ∃ n, w' = w.drewN n) (md := .any) (g := ops.size - (l1.length + 1)) (k0 := 1) hsel (waits_late hs hc) l1 1 _ _ (Nat.le_refl _) el1 (by omega) (inv0.set hr' h0m) hlex' h
  rw [show ops.size - (l1.length + 1) = l2.length + 1 by omega] at H
  have := any_late (P := P) (md := .any) (C := fun w' => ∃ n, w' = w.drewN n) (C2 := fun w' => ∃ n, w' = (w.drewN n).alloc ob) (Q := Q) (v := v) (g := l2.length) (rest := l2) e0 em h0m (Region.noSelect_spec hsel) (hwt.imp (fun h => by omega) id) el2 rfl _
    (fun a' ⟨hw, hx, hy⟩ => ⟨hw, vm, fun w' ⟨k, e⟩ => ⟨_, by rw [e]; exact hx k, k, rfl⟩, fun w2 ⟨k, e⟩ => by rw [e]; exact hy k⟩)
    l1.length _ a (w.drewN 1) (Region.free_spec e0 hf) hr' (.inl ⟨hw0, fun w' ⟨k, e⟩ => by rw [e]; exact h1 k⟩) (.inl ⟨hw0, fun w' ⟨k, e⟩ => by rw [e]; exact h2 k⟩) ⟨1, rfl⟩ H
  have hsz' : ops.size = l1.length + (l2.length + 1) + 1 := by omega
  rw [hsz']
  rw [hsz'] at this
  exact this

theorem region_late {P : Program} {id : Nat} {Q : Exit → Act → World → Prop} {a : Act} {w : World} {o0 om : Oper} {l1 l2 : List Oper} (v vm : Value) (ob : Obj) (hm : P.follows .mixedOrders = true) (hB : lateB (o0 :: l1 ++ om :: l2).toArray (l1.length + 1) = true)
    (hw0 : Region.wanted o0 (yielded (o0 :: l1 ++ om :: l2).toArray a.tmps) = true) (h1 : ∀ k, o0.quietAt P a (fun w' => ∃ n, w' = w.drewN n) (w.drewN k) v) (h2 : ∀ k, o0.quietAt P a (fun w' => ∃ n, w' = (w.drewN n).alloc ob) ((w.drewN k).alloc ob) v)
    (h : wpQuiet P (o0 :: l1 ++ om :: l2).toArray (fun w' => ∃ n, w' = w.drewN n) (fun a' => Region.wanted om (yielded (o0 :: l1 ++ om :: l2).toArray a'.tmps) = true ∧ (∀ k, (execOp a'.eval om).run P (w.drewN k) = .ok (.value vm) ((w.drewN k).alloc ob)) ∧ ∀ k, wpList P (o0 :: l1 ++ om :: l2).toArray Q l2 (a'.put om.dst vm) ((w.drewN k).alloc ob)) l1 (a.put o0.dst v)) :
    (Code.region id (o0 :: l1 ++ om :: l2).toArray true).wp P Q a w := wp_region_any hm (any_late_region v vm ob hB hw0 h1 h2 h)

theorem regionIn_late {P : Program} {id n r : Nat} {Q : Exit → Act → World → Prop} {a : Act} {w : World} {o0 om : Oper} {l1 l2 : List Oper} (v vm : Value) (ob : Obj) (hm : P.follows .mixedOrders = true) (hB : lateB (o0 :: l1 ++ om :: l2).toArray (l1.length + 1) = true)
    (hd : noDefer (o0 :: l1 ++ om :: l2) = true) (hQ : ¬ LetsOut Q)
    (hw0 : Region.wanted o0 (yielded (o0 :: l1 ++ om :: l2).toArray a.tmps) = true) (h1 : ∀ k, o0.quietAt P a (fun w' => ∃ n, w' = w.drewN n) (w.drewN k) v) (h2 : ∀ k, o0.quietAt P a (fun w' => ∃ n, w' = (w.drewN n).alloc ob) ((w.drewN k).alloc ob) v)
    (h : wpQuiet P (o0 :: l1 ++ om :: l2).toArray (fun w' => ∃ n, w' = w.drewN n) (fun a' => Region.wanted om (yielded (o0 :: l1 ++ om :: l2).toArray a'.tmps) = true ∧ (∀ k, (execOp a'.eval om).run P (w.drewN k) = .ok (.value vm) ((w.drewN k).alloc ob)) ∧ ∀ k, wpList P (o0 :: l1 ++ om :: l2).toArray Q l2 (a'.put om.dst vm) ((w.drewN k).alloc ob)) l1 (a.put o0.dst v)) :
    (Code.region id (o0 :: l1 ++ om :: l2).toArray true).wpIn (Fence.wide.inRound r) n P Q a w := wpIn_region_any hm (anyIn_of_any (noDefer_spec hd) hQ _ _ _ _ (any_late_region v vm ob hB hw0 h1 h2 h))

end Go.Proofs.YtlbfllaaabginaaDoor
