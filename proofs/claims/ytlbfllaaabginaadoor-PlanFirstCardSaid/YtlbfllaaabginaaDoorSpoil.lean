/-
  What the law's own spoil comes to (brackenlaw17): a request of which something is made wrong, in memory of its own.
-/
import Derived.Test.YtlbfllaaabginaaDoorMathSpoil
import Derived.Test.YtlbfllaaabginaaDoorPlanHas
import Derived.Laws.Rows
import Derived.Laws.ResultCell
import Derived.WideShapes
namespace Go.Proofs.YtlbfllaaabginaaDoor
open Go.RowKit

/-- A block that is a request. -/
structure RqB (w : World) (g : Nat) (q : Rq) : Prop where
  is : w.heap[g]? = some (.cells #[.int .u64 q.p, .slice q.x q.n q.cap, .bool q.inv, .int .i64 q.b, .slice q.y q.m q.cy, .slice q.z q.k q.cz, .int .i64 q.rt, .int .i64 q.ag] 39)
section
variable {w w' : World} {g B : Nat} {q : Rq}
theorem RqB.at (h : RqB w g q) : RqAt w g q := by
  refine ⟨?_, ?_, ?_, ?_, ?_, ?_, ?_, ?_⟩ <;> (rw [cell_of_row w g _ _ _ _ h.is]; rfl)
theorem RqB.fr (h : RqB w g q) (j : Nat) : w.frozen? ⟨g, j, none⟩ = false := frozen_of_row w g j _ _ h.is
theorem RqB.lt (h : RqB w g q) : g < w.heap.size := h.at.lt
theorem RqB.below (h : RqB w g q) (hb : Below B w w') (hg : g < B) : RqB w' g q := ⟨(hb.block g hg).trans h.is⟩
theorem RqB.then (h : RqB w g q) (hb : Below w.heap.size w w') : RqB w' g q := h.below hb h.lt
theorem RqB.new (w : World) (q : Rq) : RqB (w.alloc (rqO q 39)) w.heap.size q := ⟨heap_alloc_new _ _⟩
/-- A store in another block. -/
theorem RqB.far (h : RqB w g q) {a : Addr} (ha : g ≠ a.block) (u : Value) : RqB (w.setCell a u) g q := ⟨(Below.heap_setCell _ _ _ _ ha).trans h.is⟩
theorem RqB.setP (h : RqB w g q) (p : Int) : RqB (w.setCell ⟨g, 0, none⟩ (.int .u64 p)) g { q with p := p } := ⟨heap_setCell_same _ g 0 _ _ _ h.is⟩
theorem RqB.setX (h : RqB w g q) (x : Option Addr) (n cap : Nat) (xa : List Ax) : RqB (w.setCell ⟨g, 1, none⟩ (.slice x n cap)) g { q with x := x, n := n, cap := cap, xa := xa } := ⟨heap_setCell_same _ g 1 _ _ _ h.is⟩
theorem RqB.setN (h : RqB w g q) (b : Int) : RqB (w.setCell ⟨g, 3, none⟩ (.int .i64 b)) g { q with b := b } := ⟨heap_setCell_same _ g 3 _ _ _ h.is⟩
theorem RqB.setY (h : RqB w g q) (y : Option Addr) (m cy : Nat) (xs : List Int) : RqB (w.setCell ⟨g, 4, none⟩ (.slice y m cy)) g { q with y := y, m := m, cy := cy, xs := xs } := ⟨heap_setCell_same _ g 4 _ _ _ h.is⟩
theorem RqB.setZ (h : RqB w g q) (z : Option Addr) (k cz : Nat) (zs : List Int) : RqB (w.setCell ⟨g, 5, none⟩ (.slice z k cz)) g { q with z := z, k := k, cz := cz, zs := zs } := ⟨heap_setCell_same _ g 5 _ _ _ h.is⟩
/-- All of it is written. -/
def set8 (w : World) (g : Nat) (q : Rq) : World := (((((((w.setCell ⟨g, 0, none⟩ (.int .u64 q.p)).setCell ⟨g, 1, none⟩ (.slice q.x q.n q.cap)).setCell ⟨g, 2, none⟩ (.bool q.inv)).setCell ⟨g, 3, none⟩ (.int .i64 q.b)).setCell ⟨g, 4, none⟩ (.slice q.y q.m q.cy)).setCell ⟨g, 5, none⟩ (.slice q.z q.k q.cz)).setCell ⟨g, 6, none⟩ (.int .i64 q.rt)).setCell ⟨g, 7, none⟩ (.int .i64 q.ag)
theorem RqB.all (h : RqB w g q) (q' : Rq) : RqB (set8 w g q') g q' := by
  have h0 := heap_setCell_same _ g 0 _ _ (.int .u64 q'.p) h.is
  simp only [List.setIfInBounds_toArray, List.set_cons_zero] at h0
  have h1 := heap_setCell_same _ g 1 _ _ (.slice q'.x q'.n q'.cap) h0
  simp only [List.setIfInBounds_toArray, List.set_cons_succ, List.set_cons_zero] at h1
  have h2 := heap_setCell_same _ g 2 _ _ (.bool q'.inv) h1
  simp only [List.setIfInBounds_toArray, List.set_cons_succ, List.set_cons_zero] at h2
  have h3 := heap_setCell_same _ g 3 _ _ (.int .i64 q'.b) h2
  simp only [List.setIfInBounds_toArray, List.set_cons_succ, List.set_cons_zero] at h3
  have h4 := heap_setCell_same _ g 4 _ _ (.slice q'.y q'.m q'.cy) h3
  simp only [List.setIfInBounds_toArray, List.set_cons_succ, List.set_cons_zero] at h4
  have h5 := heap_setCell_same _ g 5 _ _ (.slice q'.z q'.k q'.cz) h4
  simp only [List.setIfInBounds_toArray, List.set_cons_succ, List.set_cons_zero] at h5
  have h6 := heap_setCell_same _ g 6 _ _ (.int .i64 q'.rt) h5
  simp only [List.setIfInBounds_toArray, List.set_cons_succ, List.set_cons_zero] at h6
  have h7 := heap_setCell_same _ g 7 _ _ (.int .i64 q'.ag) h6
  simp only [List.setIfInBounds_toArray, List.set_cons_succ, List.set_cons_zero] at h7
  exact ⟨h7⟩
theorem set8_block (w : World) (g : Nat) (q : Rq) {k : Nat} (hk : k ≠ g) : (set8 w g q).heap[k]? = w.heap[k]? := by
  unfold set8
  rw [Below.heap_setCell _ _ _ _ hk, Below.heap_setCell _ _ _ _ hk, Below.heap_setCell _ _ _ _ hk, Below.heap_setCell _ _ _ _ hk, Below.heap_setCell _ _ _ _ hk, Below.heap_setCell _ _ _ _ hk, Below.heap_setCell _ _ _ _ hk, Below.heap_setCell _ _ _ _ hk]
theorem set8_size (w : World) (g : Nat) (q : Rq) : (set8 w g q).heap.size = w.heap.size := by simp [set8, World.setCell]
theorem below_set8 {w0 : World} (h : Below B w0 w) (hg : B ≤ g) (q : Rq) : Below B w0 (set8 w g q) := by
  unfold set8
  exact (((((((h.setCell (p := ⟨g, 0, none⟩) hg _).setCell (p := ⟨g, 1, none⟩) hg _).setCell (p := ⟨g, 2, none⟩) hg _).setCell (p := ⟨g, 3, none⟩) hg _).setCell (p := ⟨g, 4, none⟩) hg _).setCell (p := ⟨g, 5, none⟩) hg _).setCell (p := ⟨g, 6, none⟩) hg _).setCell (p := ⟨g, 7, none⟩) hg _
end

theorem cells_req : (Tryd.prog.info? 39).map (·.size) = some 8 := by kernel_rfl

/-- The result of a function that tells a request and an error. -/
theorem results_rq {fn : Func} {p u : Tmp} (h : fn.results = #[.cell p 39, .tmp u]) (tmps : Array Value) (w : World) (g : Nat) (q : Rq)
    (hp : tmps.getD p undef = .pointer (some ⟨g, 0, none⟩)) (hg : RqB w g q) : (results fn tmps).run Tryd.prog w = .ok (.tuple #[rqV q, tmps.getD u undef]) w := by
  rw [results_cell_tmp h, hp]
  simp [asAddr, run_loadVar_row w g _ _ _ _ _ hg.is Tryd.underlying39 rfl cells_req, rqV]

/-- A request without anything. -/
def rq0 : Rq := ⟨0, none, 0, 0, [], false, 0, none, 0, 0, [], none, 0, 0, [], 0, 0⟩

/-- A request that is being made wrong: in block g, its lists in rows of the call's own, what is told in the block behind it. -/
structure Mid (w W : World) (g : Nat) (q : Rq) : Prop where
  box : RqB W g q
  res : ∃ r, RqB W (g + 1) r
  ax : OwnsAx W (g + 2) (.slice q.x q.n q.cap) q.xa
  ws : Owns .u64 22 W (g + 2) (.slice q.y q.m q.cy) q.xs
  an : q.xa.length = q.n
  yn : q.xs.length = q.m
  ap : ∀ b, (Value.slice q.x q.n q.cap).ownBlock = some b → (Value.slice q.y q.m q.cy).ownBlock ≠ some b
  n4 : q.n ≤ 4
  ai : ∀ k, -9223372036854775808 ≤ (q.xa.getD k noAx).n ∧ (q.xa.getD k noAx).n < 9223372036854775808
  yw : Words q.xs
  zr : Reads .u64 W w.heap.size q.z q.zs
  zn : q.zs.length = q.k
  zw : Words q.zs
  zc : q.k ≤ q.cz ∧ q.cz ≤ maxLen
  pb : 0 ≤ q.p ∧ q.p < 18446744073709551616
  bb : -9223372036854775808 ≤ q.b ∧ q.b < 9223372036854775808
  rb : -9223372036854775808 ≤ q.rt ∧ q.rt < 9223372036854775808
  gb : -9223372036854775808 ≤ q.ag ∧ q.ag < 9223372036854775808
  znil : q.z = none → q.k = 0 ∧ q.cz = 0
  below : Below w.heap.size w W
  lo : w.heap.size ≤ g
theorem own_of {x : Option Addr} {n c g : Nat} (h : (Value.slice x n c).ownBlock = some g) : ∃ o s, x = some ⟨g, o, s⟩ := by
  cases x with
  | none => cases h
  | some ad =>
    obtain ⟨b, o, s⟩ := ad
    have : b = g := by simpa [Value.ownBlock] using h
    exact ⟨o, s, by rw [this]⟩
section
variable {w W : World} {g : Nat} {q : Rq}
theorem Mid.axIn (h : Mid w W g q) {b : Nat} (hb : (Value.slice q.x q.n q.cap).ownBlock = some b) : g + 2 ≤ b ∧ b < W.heap.size := h.ax.inside hb
theorem Mid.wsIn (h : Mid w W g q) {b : Nat} (hb : (Value.slice q.y q.m q.cy).ownBlock = some b) : g + 2 ≤ b ∧ b < W.heap.size := h.ws.inside hb
theorem Mid.axNe (h : Mid w W g q) {b : Nat} (hb : b ≤ g + 1) : (Value.slice q.x q.n q.cap).ownBlock ≠ some b := fun e => by have := (h.axIn e).1; omega
theorem Mid.wsNe (h : Mid w W g q) {b : Nat} (hb : b ≤ g + 1) : (Value.slice q.y q.m q.cy).ownBlock ≠ some b := fun e => by have := (h.wsIn e).1; omega
theorem Owns.away {base : Nat} {v : Value} {xs : List Int} (h : Owns .u64 22 W base v xs) {a : Addr} (ha : v.ownBlock ≠ some a.block) (u : Value) : Owns .u64 22 (W.setCell a u) base v xs :=
  h.still fun k e => Below.heap_setCell _ _ _ _ (fun c => ha (by rw [e, c]))
theorem Mid.setB (h : Mid w W g q) {b : Int} (hb : -9223372036854775808 ≤ b ∧ b < 9223372036854775808) : Mid w (W.setCell ⟨g, 3, none⟩ (.int .i64 b)) g { q with b := b } :=
  { h with box := h.box.setN b, res := by (obtain ⟨r, hr⟩ := h.res; exact ⟨r, hr.far (by simp) _⟩), ax := h.ax.far (h.axNe (Nat.le_succ g)) _, ws := h.ws.away (h.wsNe (Nat.le_succ g)) _, zr := h.zr.below (Below.setCell (Below.refl _ W) (p := ⟨g, 3, none⟩) h.lo _), bb := hb, below := h.below.setCell (p := ⟨g, 3, none⟩) h.lo _ }
theorem Mid.setP (h : Mid w W g q) {p : Int} (hp : 0 ≤ p ∧ p < 18446744073709551616) : Mid w (W.setCell ⟨g, 0, none⟩ (.int .u64 p)) g { q with p := p } :=
  { h with box := h.box.setP p, res := by (obtain ⟨r, hr⟩ := h.res; exact ⟨r, hr.far (by simp) _⟩), ax := h.ax.far (h.axNe (Nat.le_succ g)) _, ws := h.ws.away (h.wsNe (Nat.le_succ g)) _, zr := h.zr.below (Below.setCell (Below.refl _ W) (p := ⟨g, 0, none⟩) h.lo _), pb := hp, below := h.below.setCell (p := ⟨g, 0, none⟩) h.lo _ }
theorem Mid.noX (h : Mid w W g q) : Mid w (W.setCell ⟨g, 1, none⟩ (.slice none 0 0)) g { q with x := none, n := 0, cap := 0, xa := [] } :=
  { h with box := h.box.setX none 0 0 [], res := by (obtain ⟨r, hr⟩ := h.res; exact ⟨r, hr.far (by simp) _⟩), ax := OwnsAx.nil, ws := h.ws.away (h.wsNe (Nat.le_succ g)) _, an := rfl, ap := fun b e => (by cases e), n4 := (by simp), ai := fun k => (by simp [noAx]), zr := h.zr.below (Below.setCell (Below.refl _ W) (p := ⟨g, 1, none⟩) h.lo _), below := h.below.setCell (p := ⟨g, 1, none⟩) h.lo _ }
theorem Mid.noZ (h : Mid w W g q) : Mid w (W.setCell ⟨g, 5, none⟩ (.slice none 0 0)) g { q with z := none, k := 0, cz := 0, zs := [] } :=
  { h with box := h.box.setZ none 0 0 [], res := by (obtain ⟨r, hr⟩ := h.res; exact ⟨r, hr.far (by simp) _⟩), ax := h.ax.far (h.axNe (Nat.le_succ g)) _, ws := h.ws.away (h.wsNe (Nat.le_succ g)) _, zr := Reads.nil, zn := rfl, zw := fun j => (by simp), zc := ⟨Nat.le_refl _, Nat.zero_le _⟩, znil := fun _ => ⟨rfl, rfl⟩, below := h.below.setCell (p := ⟨g, 5, none⟩) h.lo _ }
theorem Mid.head (h : Mid w W g q) {b : Nat} (hx : q.x = some ⟨b, 0, none⟩) (hn : 1 ≤ q.n) {z : Int} (hz : -9223372036854775808 ≤ z ∧ z < 9223372036854775808) : Mid w (W.setCell ⟨b, 0, none⟩ (.int .i64 z)) g { q with xa := hdA z q.xa } := by
  have hb : (Value.slice q.x q.n q.cap).ownBlock = some b := by rw [hx]; rfl
  have hi := h.axIn hb
  have hne : 0 < q.xa.length := by rw [h.an]; omega
  have hax := h.ax
  rw [hx] at hax
  exact { h with box := ⟨(h.box.far (a := ⟨b, 0, none⟩) (by show g ≠ b; omega) (.int .i64 z)).is⟩, res := by (obtain ⟨r, hr⟩ := h.res; exact ⟨r, hr.far (a := ⟨b, 0, none⟩) (by show g + 1 ≠ b; omega) _⟩), ax := by (dsimp only; rw [hx]; exact hax.head h.an hne z), ws := h.ws.away (h.ap b hb) _, an := by rw [hdA_len]; exact h.an, ai := fun k => by (rw [hdA_get z hne]; split; exact hz; exact h.ai k), zr := h.zr.below (Below.setCell (Below.refl _ W) (p := ⟨b, 0, none⟩) (by have := h.lo; show w.heap.size ≤ b; omega) _), below := h.below.setCell (p := ⟨b, 0, none⟩) (by have := h.lo; show w.heap.size ≤ b; omega) _ }
theorem Mid.word (h : Mid w W g q) {b : Nat} (hy : q.y = some ⟨b, 0, none⟩) {u : Int} (hu : 0 ≤ u ∧ u < 18446744073709551616) : Mid w (W.setCell ⟨b, 0, none⟩ (.int .u64 u)) g { q with xs := q.xs.set 0 u } := by
  have hb : (Value.slice q.y q.m q.cy).ownBlock = some b := by rw [hy]; rfl
  have hi := h.wsIn hb
  have hws := h.ws
  rw [hy] at hws
  exact { h with box := ⟨(h.box.far (a := ⟨b, 0, none⟩) (by show g ≠ b; omega) (.int .u64 u)).is⟩, res := by (obtain ⟨r, hr⟩ := h.res; exact ⟨r, hr.far (a := ⟨b, 0, none⟩) (by show g + 1 ≠ b; omega) _⟩), ax := h.ax.far (fun e => h.ap b e hb) _, ws := by (dsimp only; rw [hy]; exact hws.put h.yn 0 u), yn := by rw [List.length_set]; exact h.yn, yw := h.yw.put 0 hu.1 hu.2, zr := h.zr.below (Below.setCell (Below.refl _ W) (p := ⟨b, 0, none⟩) (by have := h.lo; show w.heap.size ≤ b; omega) _), below := h.below.setCell (p := ⟨b, 0, none⟩) (by have := h.lo; show w.heap.size ≤ b; omega) _ }
/-- One word is put behind. -/
theorem Mid.push (h : Mid w W g q) {W' : World} {o : Obj} {y : Option Addr} {cy : Nat} {u : Int} (hu : 0 ≤ u ∧ u < 18446744073709551616) (hown : Owns .u64 22 W' (g + 2) (.slice y (q.m + 1) cy) (q.xs ++ [u])) (hgr : (W.alloc o).grownBy W' (Value.slice q.y q.m q.cy).ownBlock)
    (hat : ∀ k, (Value.slice y (q.m + 1) cy).ownBlock = some k → (Value.slice q.y q.m q.cy).ownBlock = some k ∨ (W.alloc o).heap.size ≤ k) : Mid w (W'.setCell ⟨g, 4, none⟩ (.slice y (q.m + 1) cy)) g { q with y := y, m := q.m + 1, cy := cy, xs := q.xs ++ [u] } := by
  have hsz : (W.alloc o).heap.size = W.heap.size + 1 := World.size_alloc _ _
  have hal := below_al (Below.refl W.heap.size W) o
  have hblk : ∀ k, k < W.heap.size → (Value.slice q.y q.m q.cy).ownBlock ≠ some k → W'.heap[k]? = W.heap[k]? := fun k hk hne => (hgr.block k (by omega) (fun c => hne c.symm)).trans (hal.block k hk)
  have hbx := h.box.lt
  obtain ⟨r, hr⟩ := h.res
  have hrl := hr.lt
  have hbel : Below w.heap.size w W' := (h.below.trans (hal.mono h.below.size)).grown hgr (by have := h.below.size; omega) (fun k e => by have := (h.wsIn e).1; have := h.lo; omega)
  have hlow : Below w.heap.size W W' := ⟨hgr.os.trans hal.os, hgr.tape.trans hal.tape, hgr.output.trans hal.output, Nat.le_trans hal.size hgr.size, fun k hk => hblk k (by have := h.below.size; omega) (h.wsNe (by have := h.lo; omega))⟩
  exact { h with
    box := RqB.setY (⟨(hblk g hbx (h.wsNe (Nat.le_succ g))).trans h.box.is⟩ : RqB W' g q) y (q.m + 1) cy _
    res := ⟨r, RqB.far (⟨(hblk (g + 1) hrl (h.wsNe (Nat.le_refl _))).trans hr.is⟩ : RqB W' (g + 1) r) (by simp) _⟩
    ax := (h.ax.still fun k e => hblk k (h.axIn e).2 (h.ap k e)).far (h.axNe (Nat.le_succ g)) _
    ws := hown.away (fun e => by have := (hown.inside e).1; simp at this; omega) _
    yn := by rw [List.length_append, h.yn]; rfl
    ap := fun b e e2 => by
      rcases hat b e2 with c | c
      · exact h.ap b e c
      · have := (h.axIn e).2
        omega
    yw := fun j => by
      by_cases hj : j < q.xs.length
      · rw [List.getD_eq_getElem?_getD, List.getElem?_append_left hj, ← List.getD_eq_getElem?_getD]; exact h.yw j
      · rw [List.getD_eq_getElem?_getD, List.getElem?_append_right (by omega)]
        cases hz : j - q.xs.length with
        | zero => simpa using hu
        | succ n => simp
    zr := h.zr.below (hlow.setCell (p := ⟨g, 4, none⟩) h.lo _)
    below := hbel.setCell (p := ⟨g, 4, none⟩) h.lo _ }
/-- What lies in it still lies there, while its own blocks are as they were. -/
theorem Mid.stays (h : Mid w W g q) (W' : World) (hk : ∀ k, g + 2 ≤ k → k < W.heap.size → W'.heap[k]? = W.heap[k]?) (hz : Reads .u64 W' W'.heap.size q.z q.zs) : RqIn W' W'.heap.size q := by
  have hax : OwnsAx W' (g + 2) (.slice q.x q.n q.cap) q.xa := h.ax.still fun k e => hk k (h.axIn e).1 (h.axIn e).2
  have hws : Owns .u64 22 W' (g + 2) (.slice q.y q.m q.cy) q.xs := h.ws.still fun k e => hk k (h.wsIn e).1 (h.wsIn e).2
  obtain ⟨x1, c1, e1, a1, a2, a3, a4, -⟩ := hax.form
  obtain ⟨y1, d1, e2, b1, b2, b3, b4⟩ := hws.form
  rw [h.an] at e1
  rw [h.yn] at e2
  simp at e1 e2
  obtain ⟨rfl, rfl⟩ := e1
  obtain ⟨rfl, rfl⟩ := e2
  refine { ax := a3, an := h.an, al := by have := h.n4; omega, ac := ⟨by rw [← h.an]; exact a1, a2⟩, ai := h.ai, yr := b3, yn := h.yn, yw := h.yw, yc := ⟨by rw [← h.yn]; exact b1, b2⟩, zr := hz, zn := h.zn, zw := h.zw, zc := h.zc, pb := h.pb, bb := h.bb, rb := h.rb, gb := h.gb, xnil := fun e => by rw [← h.an]; exact a4 e, ynil := fun e => ?_, znil := h.znil }
  rcases hws.2 with ⟨c3, c4⟩ | ⟨g', cap', cur, c3, _⟩
  · rw [h.yn] at c4
    simp at c3
    exact ⟨c4, c3.2.2⟩
  · rw [e] at c3
    cases c3
/-- It is told. -/
theorem Mid.done (h : Mid w W g q) : RqIn (set8 W (g + 1) q) (set8 W (g + 1) q).heap.size q ∧ Below w.heap.size w (set8 W (g + 1) q) ∧ RqB (set8 W (g + 1) q) (g + 1) q ∧
    ∀ W', (∀ k, w.heap.size ≤ k → k < (set8 W (g + 1) q).heap.size → W'.heap[k]? = (set8 W (g + 1) q).heap[k]?) → Reads .u64 W' W'.heap.size q.z q.zs → RqIn W' W'.heap.size q := by
  obtain ⟨r, hr⟩ := h.res
  have hb := below_set8 h.below (show w.heap.size ≤ g + 1 by have := h.lo; omega) q
  refine ⟨h.stays _ (fun k h1 _ => set8_block _ _ _ (by omega)) ((h.zr.below (below_set8 (Below.refl _ W) (show w.heap.size ≤ g + 1 by have := h.lo; omega) q)).more hb.size), hb, hr.all q, fun W' hk hz => ?_⟩
  exact h.stays W' (fun k h1 h2 => (hk k (by have := h.lo; omega) (by rw [set8_size]; exact h2)).trans (set8_block _ _ _ (by omega))) hz
end

set_option maxRecDepth 100000 in
set_option maxHeartbeats 8000000 in
theorem spoil17_any (k : Nat) (q : Rq) (w : World) (hk : k < 8) (hq : RqIn w w.heap.size q) (hn4 : q.n ≤ 4) (hm : 1 ≤ q.m) (hm3 : q.m ≤ 300) (h34 : k = 3 ∨ k = 4 → 1 ≤ q.n) :
    Calls Tryd.prog 30 #[rqV q, .int .u8 (k : Int)] w fun e w' => ∃ q', e = .returned (.tuple #[rqV q', .int .i64 ((k : Int) + 1)]) ∧ Spl k q q' ∧ RqIn w' w'.heap.size q' ∧ Below w.heap.size w w' ∧
      (∀ W', (∀ j, w.heap.size ≤ j → j < w'.heap.size → W'.heap[j]? = w'.heap[j]?) → Reads .u64 W' W'.heap.size q'.z q'.zs → RqIn W' W'.heap.size q') ∧ ((q'.z = q.z ∧ q'.zs = q.zs) ∨ (q'.z = none ∧ q'.zs = [])) := by
  have hB0 := below_al (Below.refl w.heap.size w) (rqO q 39)
  have hB1 := below_al hB0 (rqO rq0 39)
  have hR0 := (RqB.new w q).then (below_al (Below.refl _ _) (rqO rq0 39))
  have hR1 := RqB.new (w.alloc (rqO q 39)) rq0
  rw [World.size_alloc] at hR1
  have hqI := hq.then hB1
  have hs1 : ((w.alloc (rqO q 39)).alloc (rqO rq0 39)).heap.size = w.heap.size + 2 := by simp
  obtain ⟨i0, hi0, hz0, hz1, hz2⟩ := info_parts info_u64
  unfold rqO rq0 at hB1 hR0 hR1 hqI hs1
  dsimp only at hB1 hR0 hR1 hqI hs1
  have HQ := Lib.hid hq
  clear hB0 hq
  unfold rqV
  go_enter Tryd.func30, Tryd.ntmps30
  go_upto_region 1 with fail
  obtain ⟨W1, hW1⟩ : ∃ W1, W1 = (w.alloc (.cells #[.int .u64 q.p, .slice q.x q.n q.cap, .bool q.inv, .int .i64 q.b, .slice q.y q.m q.cy, .slice q.z q.k q.cz, .int .i64 q.rt, .int .i64 q.ag] 39)).alloc (.cells #[.int .u64 0, .slice none 0 0, .bool false, .int .i64 0, .slice none 0 0, .slice none 0 0, .int .i64 0, .int .i64 0] 39) := ⟨_, rfl⟩
  rw [← hW1] at hB1 hR0 hR1 hqI hs1 ⊢
  clear hW1
  obtain ⟨g0, hg0⟩ : ∃ g, g = w.heap.size := ⟨_, rfl⟩
  rw [← hg0] at hR0 hR1 hs1 ⊢
  have HG0 := Lib.hid hg0
  clear hg0
  have HR0 := Lib.hid hR0
  have HR1 := Lib.hid hR1
  have hn := hqI.an
  have hSA : SrcA W1 q.x q.n q.cap q.xa := by
    refine ⟨hn.symm, ?_⟩
    cases hx : q.x with
    | none => exact .inl ⟨rfl, hqI.xnil hx⟩
    | some ad =>
      refine .inr ⟨ad, rfl, fun j u hu => ?_⟩
      have hj : j < q.xa.length * 2 := by
        rw [← flatA_len]
        rcases Nat.lt_or_ge j (q.xa.flatMap axc).length with h | h
        · exact h
        · rw [List.getElem?_eq_none h] at hu; cases hu
      obtain ⟨b, off, e, _, hc⟩ := hqI.ax (by omega)
      rw [hx] at e
      cases e
      rw [Go.WideShapes.add_plain]
      obtain ⟨c0, c1⟩ := hc (j / 2) (by omega)
      have hg := flatA_get q.xa (j / 2) (by omega) (j % 2) (Nat.mod_lt _ (by omega))
      rw [show j / 2 * 2 + j % 2 = j by omega, hu] at hg
      have h2 : j % 2 = 0 ∨ j % 2 = 1 := by omega
      rcases h2 with h2 | h2
      · rw [h2] at hg
        rw [show off + j = off + j / 2 * 2 by omega, c0]
        exact hg.symm
      · rw [h2] at hg
        rw [show off + j = off + j / 2 * 2 + 1 by omega, c1]
        exact hg.symm
  have HSA := Lib.hid hSA
  have HSX := Lib.hid hqI.src
  have HB1 := Lib.hid hB1
  have HI := Lib.hid hqI
  have HS1 := Lib.hid hs1
  clear hqI hR0 hR1 hSA hB1 hs1
  have A0 := HR0.out.at
  obtain ⟨k0, k1, k2, k3, k4, k5, k6, k7⟩ := A0
  have f0 := HR0.out.fr 0
  have f1 := HR0.out.fr 1
  have f4 := HR0.out.fr 4
  go_upto_region 2 with (at_builtin; refine wpList_copy_ax rfl _ _ rfl rfl q.x q.n q.cap q.xa rfl HSA.out (by omega) ?_; intro v2 w2 hO2 b2; obtain ⟨x2, c2, hv2, hc2, hm2, hr2, hnil2, had2⟩ := hO2.form; rw [hn] at hv2; subst hv2; have O2 := Lib.hid hO2; have B2 := Lib.hid b2; have hl1 := (b2.cell (p := ⟨g0, 1, none⟩) (by rw [HS1.out]; show g0 < _; omega)).trans k1; have hf1 := ((HR0.out.then b2).fr 1); clear hO2 b2)
  have hlo : w.heap.size ≤ g0 := by have := HG0.out; omega
  obtain ⟨W3, hW3⟩ : ∃ W3, W3 = w2.setCell ⟨g0, 1, none⟩ (.slice x2 q.n c2) := ⟨_, rfl⟩
  have b3 : Below w.heap.size w W3 := by rw [hW3]; exact (HB1.out.trans (B2.out.mono HB1.out.size)).setCell (p := ⟨g0, 1, none⟩) hlo _
  have hR3 : RqB W3 g0 { q with x := x2, n := q.n, cap := c2, xa := q.xa } := by rw [hW3]; exact (HR0.out.then B2.out).setX _ _ _ _
  have hZ3 : RqB W3 (g0 + 1) rq0 := by rw [hW3]; exact (HR1.out.then B2.out).far (by simp) _
  have hx3 : OwnsAx W3 (g0 + 2) (.slice x2 q.n c2) q.xa := by rw [hW3]; exact (O2.out.far (a := ⟨g0, 1, none⟩) (fun e => by have h1 : W1.heap.size ≤ g0 := (O2.out.inside e).1; have := HS1.out; omega) _).mono (by rw [HS1.out]; exact Nat.le_refl _)
  have hz3 : g0 + 2 ≤ W3.heap.size := by rw [hW3]; have := B2.out.size; have := HS1.out; simp [World.setCell]; omega
  rw [← hW3]
  have hq3 := HQ.out.then b3
  clear hW3 k0 k1 k2 k3 k4 k5 k6 k7 f0 f1 f4 hl1 hf1 HR0 HR1 HSA HSX HB1 HI HS1 B2 O2 hr2 had2
  obtain ⟨k0, k1, k2, k3, k4, k5, k6, k7⟩ := hR3.at
  dsimp only at k0 k1 k2 k3 k4 k5 k6 k7
  have f4 := hR3.fr 4
  have HSX := Lib.hid hq3.src
  have HZ3 := Lib.hid hz3
  have hyn := hq3.yn
  go_upto_region 3 with (at_builtin; refine wpList_copy_new rfl _ _ 37 rfl 22 i0 .u64 8 Tryd.underlying37 hi0 hz0 hz1 hz2 q.y q.m q.cy q.xs rfl rfl HSX.out (by unfold maxLen; omega) (by omega) ?_; intro v4 w4 hO4 b4; obtain ⟨y4, d4, hv4, -, -, -, -⟩ := hO4.form; rw [hyn] at hv4; subst hv4; have O4 := Lib.hid hO4; have B4 := Lib.hid b4; have hl4 := (b4.cell (p := ⟨g0, 4, none⟩) (by show g0 < _; have := HZ3.out; omega)).trans k4; have hf4 := ((hR3.then b4).fr 4); clear hO4 b4)
  have HM : Mid w (w4.setCell ⟨g0, 4, none⟩ (.slice y4 q.m d4)) g0 { q with x := x2, n := q.n, cap := c2, xa := q.xa, y := y4, m := q.m, cy := d4, xs := q.xs } := by
    have hx4 := hx3.below B4.out
    have hzb := b3.trans (B4.out.mono b3.size)
    exact {
      box := (hR3.then B4.out).setY _ _ _ _
      res := ⟨rq0, (hZ3.then B4.out).far (by simp) _⟩
      ax := hx4.far (a := ⟨g0, 4, none⟩) (fun e => by have h1 : g0 + 2 ≤ g0 := (hx4.inside e).1; omega) _
      ws := (O4.out.mono hz3).away (a := ⟨g0, 4, none⟩) (fun e => by have h1 : W3.heap.size ≤ g0 := (O4.out.inside e).1; omega) _
      an := hn
      yn := hyn
      ap := fun b e e2 => by have h1 := (hx3.inside e).2; have h2 := (O4.out.inside e2).1; omega
      n4 := hn4
      ai := hq3.ai
      yw := hq3.yw
      zr := HQ.out.zr.below (hzb.setCell (p := ⟨g0, 4, none⟩) hlo _)
      zn := hq3.zn
      zw := hq3.zw
      zc := hq3.zc
      pb := hq3.pb
      bb := hq3.bb
      rb := hq3.rb
      gb := hq3.gb
      znil := hq3.znil
      below := hzb.setCell (p := ⟨g0, 4, none⟩) hlo _
      lo := hlo }
  have hx2 : 1 ≤ q.n → ∃ b, x2 = some ⟨b, 0, none⟩ := fun h => by
    obtain ⟨x', c', e', -, -, hr, hnil, had⟩ := hx3.form
    rw [hn] at e'
    simp at e'
    obtain ⟨rfl, rfl⟩ := e'
    cases hx : x2 with
    | none => have := (hnil hx).1; omega
    | some ad => obtain ⟨b, rfl, _⟩ := had ad hx; exact ⟨b, rfl⟩
  have hy2 : ∃ b, y4 = some ⟨b, 0, none⟩ := by
    obtain ⟨y', d', e', -, -, -, hg⟩ := O4.out.form
    rw [hyn] at e'
    simp at e'
    obtain ⟨rfl, rfl⟩ := e'
    obtain ⟨b, rfl, _⟩ := hg (by rw [hyn]; omega)
    exact ⟨b, rfl⟩
  obtain ⟨W5, hW5⟩ : ∃ W5, W5 = w4.setCell ⟨g0, 4, none⟩ (.slice y4 q.m d4) := ⟨_, rfl⟩
  rw [← hW5] at HM ⊢
  clear hW5 k0 k1 k2 k3 k4 k5 k6 k7 f4 hl4 hf4 hx3 O4 B4 hR3 hZ3 b3 hz3 HZ3 HSX hq3
  rcases eight hk with rfl | rfl | rfl | rfl | rfl | rfl | rfl | rfl
  · have M := HM.setB (b := 0) (by omega)
    obtain ⟨k0, k1, k2, k3, k4, k5, k6, k7⟩ := HM.box.at
    dsimp only at k0 k1 k2 k3 k4 k5 k6 k7 M
    have f3 := HM.box.fr 3
    clear HM
    go_upto_region 6 with fail
    obtain ⟨W6, hW6⟩ : ∃ W6, W6 = W5.setCell ⟨g0, 3, none⟩ (.int .i64 0) := ⟨_, rfl⟩
    rw [← hW6] at M ⊢
    have HM6 := Lib.hid M
    clear f3 hW6 M k0 k1 k2 k3 k4 k5 k6 k7
    obtain ⟨k0, k1, k2, k3, k4, k5, k6, k7⟩ := HM6.out.box.at
    dsimp only at k0 k1 k2 k3 k4 k5 k6 k7
    obtain ⟨r, hr⟩ := HM6.out.res
    obtain ⟨r0, r1, r2, r3, r4, r5, r6, r7⟩ := hr.at
    obtain ⟨e0, e1, e2, e3, e4, e5, e6, e7⟩ := And.intro (hr.fr 0) (And.intro (hr.fr 1) (And.intro (hr.fr 2) (And.intro (hr.fr 3) (And.intro (hr.fr 4) (And.intro (hr.fr 5) (And.intro (hr.fr 6) (hr.fr 7)))))))
    clear hr
    go_wp2
    refine bodyPost_ret (results_rq rfl _ _ (g0 + 1) _ rfl HM6.out.done.2.2.1) rfl ?_
    exact ⟨_, rfl, ⟨by simp, by simp, by simp, by simp, by simp, rfl, rfl, HM6.out.yn.symm⟩, HM6.out.done.1, HM6.out.done.2.1, HM6.out.done.2.2.2, (by first | exact .inl ⟨rfl, rfl⟩ | exact .inr ⟨rfl, rfl⟩)⟩
  · have M := HM.setP (p := 4) (by omega)
    obtain ⟨k0, k1, k2, k3, k4, k5, k6, k7⟩ := HM.box.at
    dsimp only at k0 k1 k2 k3 k4 k5 k6 k7 M
    have f0 := HM.box.fr 0
    clear HM
    go_upto_region 9 with fail
    obtain ⟨W6, hW6⟩ : ∃ W6, W6 = W5.setCell ⟨g0, 0, none⟩ (.int .u64 4) := ⟨_, rfl⟩
    rw [← hW6] at M ⊢
    have HM6 := Lib.hid M
    clear f0 hW6 M k0 k1 k2 k3 k4 k5 k6 k7
    obtain ⟨k0, k1, k2, k3, k4, k5, k6, k7⟩ := HM6.out.box.at
    dsimp only at k0 k1 k2 k3 k4 k5 k6 k7
    obtain ⟨r, hr⟩ := HM6.out.res
    obtain ⟨r0, r1, r2, r3, r4, r5, r6, r7⟩ := hr.at
    obtain ⟨e0, e1, e2, e3, e4, e5, e6, e7⟩ := And.intro (hr.fr 0) (And.intro (hr.fr 1) (And.intro (hr.fr 2) (And.intro (hr.fr 3) (And.intro (hr.fr 4) (And.intro (hr.fr 5) (And.intro (hr.fr 6) (hr.fr 7)))))))
    clear hr
    go_wp2
    refine bodyPost_ret (results_rq rfl _ _ (g0 + 1) _ rfl HM6.out.done.2.2.1) rfl ?_
    exact ⟨_, rfl, ⟨by simp, by simp, by simp, by simp, by simp, rfl, rfl, HM6.out.yn.symm⟩, HM6.out.done.1, HM6.out.done.2.1, HM6.out.done.2.2.2, (by first | exact .inl ⟨rfl, rfl⟩ | exact .inr ⟨rfl, rfl⟩)⟩
  · have M := HM.noX
    obtain ⟨k0, k1, k2, k3, k4, k5, k6, k7⟩ := HM.box.at
    dsimp only at k0 k1 k2 k3 k4 k5 k6 k7 M
    have f1 := HM.box.fr 1
    clear HM
    go_upto_region 12 with fail
    obtain ⟨W6, hW6⟩ : ∃ W6, W6 = W5.setCell ⟨g0, 1, none⟩ (.slice none 0 0) := ⟨_, rfl⟩
    rw [← hW6] at M ⊢
    have HM6 := Lib.hid M
    clear f1 hW6 M k0 k1 k2 k3 k4 k5 k6 k7
    obtain ⟨k0, k1, k2, k3, k4, k5, k6, k7⟩ := HM6.out.box.at
    dsimp only at k0 k1 k2 k3 k4 k5 k6 k7
    obtain ⟨r, hr⟩ := HM6.out.res
    obtain ⟨r0, r1, r2, r3, r4, r5, r6, r7⟩ := hr.at
    obtain ⟨e0, e1, e2, e3, e4, e5, e6, e7⟩ := And.intro (hr.fr 0) (And.intro (hr.fr 1) (And.intro (hr.fr 2) (And.intro (hr.fr 3) (And.intro (hr.fr 4) (And.intro (hr.fr 5) (And.intro (hr.fr 6) (hr.fr 7)))))))
    clear hr
    go_wp2
    refine bodyPost_ret (results_rq rfl _ _ (g0 + 1) _ rfl HM6.out.done.2.2.1) rfl ?_
    exact ⟨_, rfl, ⟨by simp, by simp, by simp, by simp, by simp, rfl, rfl, HM6.out.yn.symm⟩, HM6.out.done.1, HM6.out.done.2.1, HM6.out.done.2.2.2, (by first | exact .inl ⟨rfl, rfl⟩ | exact .inr ⟨rfl, rfl⟩)⟩
  · have hn1 := h34 (.inl rfl)
    obtain ⟨bx, rfl⟩ := hx2 hn1
    have M := HM.head (b := bx) rfl hn1 (z := 7) (by omega)
    obtain ⟨k0, k1, k2, k3, k4, k5, k6, k7⟩ := HM.box.at
    dsimp only at k0 k1 k2 k3 k4 k5 k6 k7 M
    have hax := HM.ax
    dsimp only at hax
    have fx := hax.melt hn 0
    have cx : ∃ v, W5.cell? ⟨bx, 0, none⟩ = some (.int .i64 v) := by
      obtain ⟨x', c', e', -, -, hr, -, -⟩ := hax.form
      rw [hn] at e'
      simp at e'
      obtain ⟨rfl, rfl⟩ := e'
      obtain ⟨b', o', e2, -, hc⟩ := hr (by omega)
      cases e2
      have := (hc 0 (by omega)).1
      rw [Nat.zero_mul, Nat.add_zero] at this
      exact ⟨_, this⟩
    obtain ⟨vx, cx⟩ := cx
    have hd1 : decide (0 < q.n) = true := by simp; omega
    have hd2 : decide ((0 : Int) < (q.n : Int)) = true := by simp; omega
    clear HM hax
    go_upto_region 16 with fail
    obtain ⟨W6, hW6⟩ : ∃ W6, W6 = W5.setCell ⟨bx, 0, none⟩ (.int .i64 7) := ⟨_, rfl⟩
    rw [← hW6] at M ⊢
    have HM6 := Lib.hid M
    clear fx cx hW6 M k0 k1 k2 k3 k4 k5 k6 k7
    obtain ⟨k0, k1, k2, k3, k4, k5, k6, k7⟩ := HM6.out.box.at
    dsimp only at k0 k1 k2 k3 k4 k5 k6 k7
    obtain ⟨r, hr⟩ := HM6.out.res
    obtain ⟨r0, r1, r2, r3, r4, r5, r6, r7⟩ := hr.at
    obtain ⟨e0, e1, e2, e3, e4, e5, e6, e7⟩ := And.intro (hr.fr 0) (And.intro (hr.fr 1) (And.intro (hr.fr 2) (And.intro (hr.fr 3) (And.intro (hr.fr 4) (And.intro (hr.fr 5) (And.intro (hr.fr 6) (hr.fr 7)))))))
    clear hr
    go_wp2
    refine bodyPost_ret (results_rq rfl _ _ (g0 + 1) _ rfl HM6.out.done.2.2.1) rfl ?_
    exact ⟨_, rfl, ⟨by simp, by simp, by simp, by simp, by simp, rfl, rfl, HM6.out.yn.symm⟩, HM6.out.done.1, HM6.out.done.2.1, HM6.out.done.2.2.2, (by first | exact .inl ⟨rfl, rfl⟩ | exact .inr ⟨rfl, rfl⟩)⟩
  · have hn1 := h34 (.inr rfl)
    obtain ⟨bx, rfl⟩ := hx2 hn1
    have M := HM.setP (p := 998244353) (by omega)
    obtain ⟨k0, k1, k2, k3, k4, k5, k6, k7⟩ := HM.box.at
    dsimp only at k0 k1 k2 k3 k4 k5 k6 k7 M
    have f0 := HM.box.fr 0
    clear HM
    go_upto_region 19 with fail
    obtain ⟨W7, hW7⟩ : ∃ W7, W7 = W5.setCell ⟨g0, 0, none⟩ (.int .u64 998244353) := ⟨_, rfl⟩
    rw [← hW7] at M ⊢
    clear f0 hW7 k0 k1 k2 k3 k4 k5 k6 k7
    have HM := M
    clear M
    have M := HM.head (b := bx) rfl hn1 (z := 3) (by omega)
    obtain ⟨k0, k1, k2, k3, k4, k5, k6, k7⟩ := HM.box.at
    dsimp only at k0 k1 k2 k3 k4 k5 k6 k7 M
    have hax := HM.ax
    dsimp only at hax
    have fx := hax.melt hn 0
    have cx : ∃ v, W7.cell? ⟨bx, 0, none⟩ = some (.int .i64 v) := by
      obtain ⟨x', c', e', -, -, hr, -, -⟩ := hax.form
      rw [hn] at e'
      simp at e'
      obtain ⟨rfl, rfl⟩ := e'
      obtain ⟨b', o', e2, -, hc⟩ := hr (by omega)
      cases e2
      have := (hc 0 (by omega)).1
      rw [Nat.zero_mul, Nat.add_zero] at this
      exact ⟨_, this⟩
    obtain ⟨vx, cx⟩ := cx
    have hd1 : decide (0 < q.n) = true := by simp; omega
    have hd2 : decide ((0 : Int) < (q.n : Int)) = true := by simp; omega
    clear HM hax
    go_upto_region 21 with fail
    obtain ⟨W6, hW6⟩ : ∃ W6, W6 = W7.setCell ⟨bx, 0, none⟩ (.int .i64 3) := ⟨_, rfl⟩
    rw [← hW6] at M ⊢
    have HM6 := Lib.hid M
    clear fx cx hW6 M k0 k1 k2 k3 k4 k5 k6 k7
    obtain ⟨k0, k1, k2, k3, k4, k5, k6, k7⟩ := HM6.out.box.at
    dsimp only at k0 k1 k2 k3 k4 k5 k6 k7
    obtain ⟨r, hr⟩ := HM6.out.res
    obtain ⟨r0, r1, r2, r3, r4, r5, r6, r7⟩ := hr.at
    obtain ⟨e0, e1, e2, e3, e4, e5, e6, e7⟩ := And.intro (hr.fr 0) (And.intro (hr.fr 1) (And.intro (hr.fr 2) (And.intro (hr.fr 3) (And.intro (hr.fr 4) (And.intro (hr.fr 5) (And.intro (hr.fr 6) (hr.fr 7)))))))
    clear hr
    go_wp2
    refine bodyPost_ret (results_rq rfl _ _ (g0 + 1) _ rfl HM6.out.done.2.2.1) rfl ?_
    exact ⟨_, rfl, ⟨by simp, by simp, by simp, by simp, by simp, rfl, rfl, HM6.out.yn.symm⟩, HM6.out.done.1, HM6.out.done.2.1, HM6.out.done.2.2.2, (by first | exact .inl ⟨rfl, rfl⟩ | exact .inr ⟨rfl, rfl⟩)⟩
  · have hws := HM.ws
    dsimp only at hws
    have HM' := Lib.hid HM
    have HWs := Lib.hid hws
    have hgb := HM.box.lt
    obtain ⟨k0, k1, k2, k3, k4, k5, k6, k7⟩ := HM.box.at
    dsimp only at k0 k1 k2 k3 k4 k5 k6 k7
    have f4 := HM.box.fr 4
    clear HM hws
    have hal := below_al (Below.refl W5.heap.size W5) (.cells #[.int .u64 0] 22)
    have HSr : Hid (Src .u64 (W5.alloc (.cells #[.int .u64 0] 22)) (some ⟨W5.heap.size, 0, none⟩) 1 1 [0]) := Lib.hid ⟨rfl, .inr ⟨_, rfl, fun j hj => by
      obtain rfl : j = 0 := by omega
      simp [Addr.add]⟩⟩
    have HOa := Lib.hid (HWs.out.below hal)
    have HZa := Lib.hid (show g0 + 2 ≤ (W5.alloc (.cells #[.int .u64 0] 22)).heap.size by obtain ⟨r, hr⟩ := HM'.out.res; have := hr.lt; rw [World.size_alloc]; omega)
    have HYl := Lib.hid hyn
    go_upto_region 24 with (at_builtin; refine wpList_append_num rfl _ _ 37 rfl (g0 + 2) 22 i0 .u64 8 Tryd.underlying37 hi0 hz0 hz1 hz2 _ _ rfl HOa.out ⟨W5.heap.size, 0, none⟩ 1 1 [0] rfl HSr.out (by omega) (by rw [HYl.out]; unfold maxLen; omega) (by rw [HYl.out]; omega) HZa.out ?_; intro v6 w6 hO6 hg6 hat6; obtain ⟨y6, d6, hv6, -, -, -, -⟩ := hO6.form; rw [List.length_append, HYl.out] at hv6; subst hv6; have M := HM'.out.push (by omega) hO6 hg6 hat6; have c4 := (hg6.cell_far ⟨g0, 4, none⟩ (by (rw [World.size_alloc]; show g0 < _; omega)) (fun e => HM'.out.wsNe (Nat.le_succ g0) e.symm)).trans ((hal.cell (p := ⟨g0, 4, none⟩) hgb).trans k4); have f6 := (hg6.frozen_far ⟨g0, 4, none⟩ (by (rw [World.size_alloc]; show g0 < _; omega)) (fun e => HM'.out.wsNe (Nat.le_succ g0) e.symm)).trans (show (W5.alloc (.cells #[.int .u64 0] 22)).frozen? ⟨g0, 4, none⟩ = false from (HM'.out.box.then hal).fr 4); clear hO6 hg6 hat6)
    obtain ⟨W6, hW6⟩ : ∃ W6, W6 = w6.setCell ⟨g0, 4, none⟩ (.slice y6 (q.m + 1) d6) := ⟨_, rfl⟩
    dsimp only at M
    rw [← hW6] at M ⊢
    have HM6 := Lib.hid M
    clear hW6 M k0 k1 k2 k3 k4 k5 k6 k7 f4 c4 f6 hal
    obtain ⟨k0, k1, k2, k3, k4, k5, k6, k7⟩ := HM6.out.box.at
    dsimp only at k0 k1 k2 k3 k4 k5 k6 k7
    obtain ⟨r, hr⟩ := HM6.out.res
    obtain ⟨r0, r1, r2, r3, r4, r5, r6, r7⟩ := hr.at
    obtain ⟨e0, e1, e2, e3, e4, e5, e6, e7⟩ := And.intro (hr.fr 0) (And.intro (hr.fr 1) (And.intro (hr.fr 2) (And.intro (hr.fr 3) (And.intro (hr.fr 4) (And.intro (hr.fr 5) (And.intro (hr.fr 6) (hr.fr 7)))))))
    clear hr
    go_wp2
    refine bodyPost_ret (results_rq rfl _ _ (g0 + 1) _ rfl HM6.out.done.2.2.1) rfl ?_
    exact ⟨_, rfl, ⟨by simp, by simp, by simp, by simp, by simp, rfl, rfl, HM6.out.yn.symm⟩, HM6.out.done.1, HM6.out.done.2.1, HM6.out.done.2.2.2, (by first | exact .inl ⟨rfl, rfl⟩ | exact .inr ⟨rfl, rfl⟩)⟩
  · obtain ⟨by', rfl⟩ := hy2
    have M := HM.word (b := by') rfl (u := 18446744073709551615) (by omega)
    obtain ⟨k0, k1, k2, k3, k4, k5, k6, k7⟩ := HM.box.at
    dsimp only at k0 k1 k2 k3 k4 k5 k6 k7 M
    have hws := HM.ws
    dsimp only at hws
    have fx := hws.melt hyn 0
    have cx := hws.num hyn (j := 0) (by omega)
    have hd1 : decide (0 < q.m) = true := by simp; omega
    have hd2 : decide ((0 : Int) < (q.m : Int)) = true := by simp; omega
    clear HM hws
    go_upto_region 28 with fail
    obtain ⟨W6, hW6⟩ : ∃ W6, W6 = W5.setCell ⟨by', 0, none⟩ (.int .u64 18446744073709551615) := ⟨_, rfl⟩
    rw [← hW6] at M ⊢
    have HM6 := Lib.hid M
    clear fx cx hW6 M k0 k1 k2 k3 k4 k5 k6 k7
    obtain ⟨k0, k1, k2, k3, k4, k5, k6, k7⟩ := HM6.out.box.at
    dsimp only at k0 k1 k2 k3 k4 k5 k6 k7
    obtain ⟨r, hr⟩ := HM6.out.res
    obtain ⟨r0, r1, r2, r3, r4, r5, r6, r7⟩ := hr.at
    obtain ⟨e0, e1, e2, e3, e4, e5, e6, e7⟩ := And.intro (hr.fr 0) (And.intro (hr.fr 1) (And.intro (hr.fr 2) (And.intro (hr.fr 3) (And.intro (hr.fr 4) (And.intro (hr.fr 5) (And.intro (hr.fr 6) (hr.fr 7)))))))
    clear hr
    go_wp2
    refine bodyPost_ret (results_rq rfl _ _ (g0 + 1) _ rfl HM6.out.done.2.2.1) rfl ?_
    exact ⟨_, rfl, ⟨by simp, by simp, by simp, by simp, by simp, rfl, rfl, HM6.out.yn.symm⟩, HM6.out.done.1, HM6.out.done.2.1, HM6.out.done.2.2.2, (by first | exact .inl ⟨rfl, rfl⟩ | exact .inr ⟨rfl, rfl⟩)⟩
  · have M := HM.noZ
    obtain ⟨k0, k1, k2, k3, k4, k5, k6, k7⟩ := HM.box.at
    dsimp only at k0 k1 k2 k3 k4 k5 k6 k7 M
    have f5 := HM.box.fr 5
    clear HM
    go_upto_region 30 with fail
    obtain ⟨W6, hW6⟩ : ∃ W6, W6 = W5.setCell ⟨g0, 5, none⟩ (.slice none 0 0) := ⟨_, rfl⟩
    rw [← hW6] at M ⊢
    have HM6 := Lib.hid M
    clear f5 hW6 M k0 k1 k2 k3 k4 k5 k6 k7
    obtain ⟨k0, k1, k2, k3, k4, k5, k6, k7⟩ := HM6.out.box.at
    dsimp only at k0 k1 k2 k3 k4 k5 k6 k7
    obtain ⟨r, hr⟩ := HM6.out.res
    obtain ⟨r0, r1, r2, r3, r4, r5, r6, r7⟩ := hr.at
    obtain ⟨e0, e1, e2, e3, e4, e5, e6, e7⟩ := And.intro (hr.fr 0) (And.intro (hr.fr 1) (And.intro (hr.fr 2) (And.intro (hr.fr 3) (And.intro (hr.fr 4) (And.intro (hr.fr 5) (And.intro (hr.fr 6) (hr.fr 7)))))))
    clear hr
    go_wp2
    refine bodyPost_ret (results_rq rfl _ _ (g0 + 1) _ rfl HM6.out.done.2.2.1) rfl ?_
    exact ⟨_, rfl, ⟨by simp, by simp, by simp, by simp, by simp, rfl, rfl, HM6.out.yn.symm⟩, HM6.out.done.1, HM6.out.done.2.1, HM6.out.done.2.2.2, (by first | exact .inl ⟨rfl, rfl⟩ | exact .inr ⟨rfl, rfl⟩)⟩

end Go.Proofs.YtlbfllaaabginaaDoor
