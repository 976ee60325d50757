/-
  Several texts in one: StepGroup, StepTell, StepTellTwo, GpRow, StepGroups, StepDo, StepDoTwo, StepOk.
-/
import Derived.Test.YtlbfllaaabginaaDoorStepA
import Derived.Test.YtlbfllaaabginaaDoorRegions
import Derived.Test.YtlbfllaaabginaaDoorStepMath
import Derived.Test.YtlbfllaaabginaaDoorShapes
import Derived.Test.YtlbfllaaabginaaDoorRows2
import Derived.Test.YtlbfllaaabginaaDoorFlys
import Derived.Test.YtlbfllaaabginaaDoorLines6
import Derived.Test.YtlbfllaaabginaaDoorPairs
import Derived.Deep.CutRange
import Derived.BigQuiet
import Derived.Shelf.Abstract
import Derived.Deep.AppendLies
import Derived.Laws.Rows
import Derived.Laws.EntriesVeiled

/-!   What step.stageGroup comes to: one group of a stage, three lists of its own.
-/

namespace Go.Proofs.YtlbfllaaabginaaDoor
open Go.RowKit Go.Shelf

/-- A row of n zeros. -/
def zsI (n : Nat) : Obj := .cells (madeCells (Value.int .i64 0).cells n) 3
theorem Owns.zeros (W : World) (n base : Nat) (hb : base ≤ W.heap.size) (hn : n ≤ 16384) : Owns .i64 3 (W.alloc (zsI n)) base (.slice (some ⟨W.heap.size, 0, none⟩) n n) (List.replicate n 0) := by
  have := World.ownsRow_lit (base := base) (size := 1) (e := 3) W (madeCells (Value.int .i64 0).cells (n * 1)) n hb (by unfold maxLen; omega) (size_madeCells _ _)
  rw [show (Value.int .i64 0).cells = #[.int .i64 0] from rfl, toList_madeCells_one, Nat.mul_one] at this
  unfold Owns zsI
  rw [show (Value.int .i64 0).cells = #[.int .i64 0] from rfl, List.length_replicate, List.map_replicate]
  exact this

/-- A block of three cells. -/
structure Trip (w : World) (g : Nat) (t : TypeId) (a b c : Value) : Prop where
  is : w.heap[g]? = some (.cells #[a, b, c] t)
section
variable {w w' : World} {g : Nat} {t : TypeId} {a b c : Value}
theorem Trip.c0 (h : Trip w g t a b c) : w.cell? ⟨g, 0, none⟩ = some a := by rw [cell_of_row w g 0 _ t _ h.is]; rfl
theorem Trip.c1 (h : Trip w g t a b c) : w.cell? ⟨g, 1, none⟩ = some b := by rw [cell_of_row w g 1 _ t _ h.is]; rfl
theorem Trip.c2 (h : Trip w g t a b c) : w.cell? ⟨g, 2, none⟩ = some c := by rw [cell_of_row w g 2 _ t _ h.is]; rfl
theorem Trip.fr (h : Trip w g t a b c) (j : Nat) : w.frozen? ⟨g, j, none⟩ = false := frozen_of_row w g j _ t h.is
theorem Trip.lt (h : Trip w g t a b c) : g < w.heap.size := by
  rcases Nat.lt_or_ge g w.heap.size with hlt | hge
  · exact hlt
  · have := h.is; rw [Array.getElem?_eq_none hge] at this; cases this
theorem Trip.keep (h : Trip w g t a b c) (hk : w'.heap[g]? = w.heap[g]?) : Trip w' g t a b c := ⟨hk.trans h.is⟩
theorem Trip.below {B : Nat} (h : Trip w g t a b c) (hb : Below B w w') (hg : g < B) : Trip w' g t a b c := h.keep (hb.block g hg)
theorem Trip.draws (h : Trip w g t a b c) (n : Nat) : Trip (w.drewN n) g t a b c := ⟨h.is⟩
theorem Trip.alloc (h : Trip w g t a b c) (o : Obj) : Trip (w.alloc o) g t a b c := h.below (B := w.heap.size) ((Below.refl _ _).alloc (Nat.le_refl _) _) h.lt
theorem Trip.new (w : World) (t : TypeId) (a b c : Value) : Trip (w.alloc (.cells #[a, b, c] t)) w.heap.size t a b c := ⟨heap_alloc_new _ _⟩
theorem Trip.set (h : Trip w g t a b c) (a' b' c' : Value) : Trip (((w.setCell ⟨g, 0, none⟩ a').setCell ⟨g, 1, none⟩ b').setCell ⟨g, 2, none⟩ c') g t a' b' c' :=
  ⟨heap_setCell_same _ g 2 _ t c' (heap_setCell_same _ g 1 _ t b' (heap_setCell_same _ g 0 _ t a' h.is))⟩
theorem Trip.else (h : Trip w g t a b c) {ad : Addr} (hne : g ≠ ad.block) (v : Value) : Trip (w.setCell ad v) g t a b c := h.keep (Below.heap_setCell _ _ _ _ hne)
end
theorem below_set3 {B : Nat} {w w' : World} {g : Nat} (h : Below B w w') (hg : B ≤ g) (a b c : Value) : Below B w (((w'.setCell ⟨g, 0, none⟩ a).setCell ⟨g, 1, none⟩ b).setCell ⟨g, 2, none⟩ c) :=
  ((h.setCell (p := ⟨g, 0, none⟩) hg a).setCell (p := ⟨g, 1, none⟩) hg b).setCell (p := ⟨g, 2, none⟩) hg c

theorem cells_group : (Tryd.prog.info? 78).map (·.size) = some 3 := by kernel_rfl

def nilI : Value := .slice none 0 0
/-- Three rows of n places, whatever stands in them, and the group that holds them. -/
structure Grp3 (w : World) (B n g1 g2 g3 gb : Nat) (l1 l2 l3 : List Int) : Prop where
  is : Trip w gb 78 (.slice (some ⟨g1, 0, none⟩) n n) (.slice (some ⟨g2, 0, none⟩) n n) (.slice (some ⟨g3, 0, none⟩) n n)
  o1 : Owns .i64 3 w B (.slice (some ⟨g1, 0, none⟩) n n) l1
  o2 : Owns .i64 3 w B (.slice (some ⟨g2, 0, none⟩) n n) l2
  o3 : Owns .i64 3 w B (.slice (some ⟨g3, 0, none⟩) n n) l3
  ne : g1 ≠ g2 ∧ g1 ≠ g3 ∧ g2 ≠ g3 ∧ g1 ≠ gb ∧ g2 ≠ gb ∧ g3 ≠ gb
  lo : B ≤ gb

section
variable {w : World} {B n g1 g2 g3 gb : Nat} {l1 l2 l3 : List Int}
theorem Grp3.put1 (h : Grp3 w B n g1 g2 g3 gb l1 l2 l3) (e1 : l1.length = n) (e2 : l2.length = n) (e3 : l3.length = n) (t : Nat) (u : Int) : Grp3 (w.setCell ⟨g1, t, none⟩ (.int .i64 u)) B n g1 g2 g3 gb (l1.set t u) l2 l3 :=
  ⟨h.is.else (ad := ⟨g1, t, none⟩) (Ne.symm h.ne.2.2.2.1) _, h.o1.put e1 t u, h.o2.else e2 (ad := ⟨g1, t, none⟩) (Ne.symm h.ne.1) _, h.o3.else e3 (ad := ⟨g1, t, none⟩) (Ne.symm h.ne.2.1) _, h.ne, h.lo⟩
theorem Grp3.put2 (h : Grp3 w B n g1 g2 g3 gb l1 l2 l3) (e1 : l1.length = n) (e2 : l2.length = n) (e3 : l3.length = n) (t : Nat) (u : Int) : Grp3 (w.setCell ⟨g2, t, none⟩ (.int .i64 u)) B n g1 g2 g3 gb l1 (l2.set t u) l3 :=
  ⟨h.is.else (ad := ⟨g2, t, none⟩) (Ne.symm h.ne.2.2.2.2.1) _, h.o1.else e1 (ad := ⟨g2, t, none⟩) h.ne.1 _, h.o2.put e2 t u, h.o3.else e3 (ad := ⟨g2, t, none⟩) (Ne.symm h.ne.2.2.1) _, h.ne, h.lo⟩
theorem Grp3.put3 (h : Grp3 w B n g1 g2 g3 gb l1 l2 l3) (e1 : l1.length = n) (e2 : l2.length = n) (e3 : l3.length = n) (t : Nat) (u : Int) : Grp3 (w.setCell ⟨g3, t, none⟩ (.int .i64 u)) B n g1 g2 g3 gb l1 l2 (l3.set t u) :=
  ⟨h.is.else (ad := ⟨g3, t, none⟩) (Ne.symm h.ne.2.2.2.2.2) _, h.o1.else e1 (ad := ⟨g3, t, none⟩) h.ne.2.1 _, h.o2.else e2 (ad := ⟨g3, t, none⟩) h.ne.2.2.1 _, h.o3.put e3 t u, h.ne, h.lo⟩
theorem Grp3.draws (h : Grp3 w B n g1 g2 g3 gb l1 l2 l3) (m : Nat) : Grp3 (w.drewN m) B n g1 g2 g3 gb l1 l2 l3 := ⟨h.is.draws m, h.o1.draws m, h.o2.draws m, h.o3.draws m, h.ne, h.lo⟩
end

/-- What has been made of them so far, in whatever order. -/
structure Mk (W0 W : World) (n : Nat) (m1 m2 m3 mb : Option Nat) : Prop where
  below : Below W0.heap.size W0 W
  r1 : ∀ g, m1 = some g → W0.heap.size ≤ g ∧ g < W.heap.size ∧ Owns .i64 3 W W0.heap.size (.slice (some ⟨g, 0, none⟩) n n) (List.replicate n 0)
  r2 : ∀ g, m2 = some g → W0.heap.size ≤ g ∧ g < W.heap.size ∧ Owns .i64 3 W W0.heap.size (.slice (some ⟨g, 0, none⟩) n n) (List.replicate n 0)
  r3 : ∀ g, m3 = some g → W0.heap.size ≤ g ∧ g < W.heap.size ∧ Owns .i64 3 W W0.heap.size (.slice (some ⟨g, 0, none⟩) n n) (List.replicate n 0)
  rb : ∀ g, mb = some g → W0.heap.size ≤ g ∧ g < W.heap.size ∧ Trip W g 78 (.slice none 0 0) (.slice none 0 0) (.slice none 0 0)
  n12 : ∀ g, m1 = some g → m2 ≠ some g
  n13 : ∀ g, m1 = some g → m3 ≠ some g
  n23 : ∀ g, m2 = some g → m3 ≠ some g
  n1b : ∀ g, m1 = some g → mb ≠ some g
  n2b : ∀ g, m2 = some g → mb ≠ some g
  n3b : ∀ g, m3 = some g → mb ≠ some g
section
variable {W0 W : World} {n : Nat} {m1 m2 m3 mb : Option Nat}
theorem Mk.start (W0 : World) (n : Nat) {W : World} (h : Below W0.heap.size W0 W) : Mk W0 W n none none none none :=
  ⟨h, (fun _ e => by cases e), (fun _ e => by cases e), (fun _ e => by cases e), (fun _ e => by cases e), (fun _ e => by cases e), (fun _ e => by cases e), (fun _ e => by cases e), (fun _ e => by cases e), (fun _ e => by cases e), (fun _ e => by cases e)⟩
theorem Mk.name (h : Mk W0 W n m1 m2 m3 mb) : ∃ V, V = W ∧ Mk W0 V n m1 m2 m3 mb := ⟨W, rfl, h⟩
theorem Mk.old (o : Obj) {m : Option Nat} (h : ∀ g, m = some g → W0.heap.size ≤ g ∧ g < W.heap.size ∧ Owns .i64 3 W W0.heap.size (.slice (some ⟨g, 0, none⟩) n n) (List.replicate n 0)) :
    ∀ g, m = some g → W0.heap.size ≤ g ∧ g < (W.alloc o).heap.size ∧ Owns .i64 3 (W.alloc o) W0.heap.size (.slice (some ⟨g, 0, none⟩) n n) (List.replicate n 0) := fun g e => by
  obtain ⟨h1, h2, h3⟩ := h g e
  exact ⟨h1, by rw [World.size_alloc]; omega, h3.alloc _⟩
theorem Mk.oldb (o : Obj) {m : Option Nat} (h : ∀ g, m = some g → W0.heap.size ≤ g ∧ g < W.heap.size ∧ Trip W g 78 (.slice none 0 0) (.slice none 0 0) (.slice none 0 0)) :
    ∀ g, m = some g → W0.heap.size ≤ g ∧ g < (W.alloc o).heap.size ∧ Trip (W.alloc o) g 78 (.slice none 0 0) (.slice none 0 0) (.slice none 0 0) := fun g e => by
  obtain ⟨h1, h2, h3⟩ := h g e
  exact ⟨h1, by rw [World.size_alloc]; omega, h3.alloc _⟩
theorem Mk.new (hn : n ≤ 16384) (hb : Below W0.heap.size W0 W) : ∀ g, some W.heap.size = some g → W0.heap.size ≤ g ∧ g < (W.alloc (zsI n)).heap.size ∧ Owns .i64 3 (W.alloc (zsI n)) W0.heap.size (.slice (some ⟨g, 0, none⟩) n n) (List.replicate n 0) := fun g e => by
  cases e
  exact ⟨hb.size, by rw [World.size_alloc]; omega, Owns.zeros W n _ hb.size hn⟩
theorem Mk.apart {m : Option Nat} {T : Nat → Prop} (h : ∀ g, m = some g → W0.heap.size ≤ g ∧ g < W.heap.size ∧ T g) : ∀ g, some W.heap.size = some g → m ≠ some g := fun g e c => by
  cases e
  have := (h _ c).2.1
  omega
theorem Mk.apart' {m : Option Nat} {T : Nat → Prop} (h : ∀ g, m = some g → W0.heap.size ≤ g ∧ g < W.heap.size ∧ T g) : ∀ g, m = some g → some W.heap.size ≠ some g := fun g e c => by
  cases c
  have := (h _ e).2.1
  omega
theorem Mk.make1 (h : Mk W0 W n none m2 m3 mb) (hn : n ≤ 16384) : Mk W0 (W.alloc (zsI n)) n (some W.heap.size) m2 m3 mb :=
  ⟨below_al h.below _, Mk.new hn h.below, Mk.old _ h.r2, Mk.old _ h.r3, Mk.oldb _ h.rb, Mk.apart h.r2, Mk.apart h.r3, h.n23, Mk.apart h.rb, h.n2b, h.n3b⟩
theorem Mk.make2 (h : Mk W0 W n m1 none m3 mb) (hn : n ≤ 16384) : Mk W0 (W.alloc (zsI n)) n m1 (some W.heap.size) m3 mb :=
  ⟨below_al h.below _, Mk.old _ h.r1, Mk.new hn h.below, Mk.old _ h.r3, Mk.oldb _ h.rb, Mk.apart' h.r1, h.n13, Mk.apart h.r3, h.n1b, Mk.apart h.rb, h.n3b⟩
theorem Mk.make3 (h : Mk W0 W n m1 m2 none mb) (hn : n ≤ 16384) : Mk W0 (W.alloc (zsI n)) n m1 m2 (some W.heap.size) mb :=
  ⟨below_al h.below _, Mk.old _ h.r1, Mk.old _ h.r2, Mk.new hn h.below, Mk.oldb _ h.rb, h.n12, Mk.apart' h.r1, Mk.apart' h.r2, h.n1b, h.n2b, Mk.apart h.rb⟩
theorem Mk.cellb (h : Mk W0 W n m1 m2 m3 none) : Mk W0 (W.alloc (.cells #[.slice none 0 0, .slice none 0 0, .slice none 0 0] 78)) n m1 m2 m3 (some W.heap.size) :=
  ⟨below_al h.below _, Mk.old _ h.r1, Mk.old _ h.r2, Mk.old _ h.r3, (fun g e => by cases e; exact ⟨h.below.size, by rw [World.size_alloc]; omega, Trip.new _ _ _ _ _⟩), h.n12, h.n13, h.n23, Mk.apart' h.r1, Mk.apart' h.r2, Mk.apart' h.r3⟩
theorem Mk.done {g1 g2 g3 gb : Nat} (h : Mk W0 W n (some g1) (some g2) (some g3) (some gb)) :
    Grp3 (((W.setCell ⟨gb, 0, none⟩ (.slice (some ⟨g1, 0, none⟩) n n)).setCell ⟨gb, 1, none⟩ (.slice (some ⟨g2, 0, none⟩) n n)).setCell ⟨gb, 2, none⟩ (.slice (some ⟨g3, 0, none⟩) n n)) W0.heap.size n g1 g2 g3 gb (List.replicate n 0) (List.replicate n 0) (List.replicate n 0) ∧
    Below W0.heap.size W0 (((W.setCell ⟨gb, 0, none⟩ (.slice (some ⟨g1, 0, none⟩) n n)).setCell ⟨gb, 1, none⟩ (.slice (some ⟨g2, 0, none⟩) n n)).setCell ⟨gb, 2, none⟩ (.slice (some ⟨g3, 0, none⟩) n n)) := by
  obtain ⟨a1, a2, a3⟩ := h.r1 _ rfl
  obtain ⟨b1, b2, b3⟩ := h.r2 _ rfl
  obtain ⟨c1, c2, c3⟩ := h.r3 _ rfl
  obtain ⟨d1, d2, d3⟩ := h.rb _ rfl
  have e12 : g1 ≠ g2 := fun e => h.n12 _ rfl (by rw [e])
  have e13 : g1 ≠ g3 := fun e => h.n13 _ rfl (by rw [e])
  have e23 : g2 ≠ g3 := fun e => h.n23 _ rfl (by rw [e])
  have e1b : g1 ≠ gb := fun e => h.n1b _ rfl (by rw [e])
  have e2b : g2 ≠ gb := fun e => h.n2b _ rfl (by rw [e])
  have e3b : g3 ≠ gb := fun e => h.n3b _ rfl (by rw [e])
  have far : ∀ {g : Nat} {l : List Int}, g ≠ gb → l.length = n → Owns .i64 3 W W0.heap.size (.slice (some ⟨g, 0, none⟩) n n) l → Owns .i64 3 (((W.setCell ⟨gb, 0, none⟩ (.slice (some ⟨g1, 0, none⟩) n n)).setCell ⟨gb, 1, none⟩ (.slice (some ⟨g2, 0, none⟩) n n)).setCell ⟨gb, 2, none⟩ (.slice (some ⟨g3, 0, none⟩) n n)) W0.heap.size (.slice (some ⟨g, 0, none⟩) n n) l :=
    fun hg hl ho => ((ho.else hl (ad := ⟨gb, 0, none⟩) hg _).else hl (ad := ⟨gb, 1, none⟩) hg _).else hl (ad := ⟨gb, 2, none⟩) hg _
  exact ⟨⟨d3.set _ _ _, far e1b (by simp) a3, far e2b (by simp) b3, far e3b (by simp) c3, ⟨e12, e13, e23, e1b, e2b, e3b⟩, d1⟩, below_set3 h.below d1 _ _ _⟩
theorem Mk.b {g1 g2 g3 gb : Nat} (h : Mk W0 W n (some g1) (some g2) (some g3) (some gb)) : Trip W gb 78 (.slice none 0 0) (.slice none 0 0) (.slice none 0 0) := (h.rb _ rfl).2.2
end

/-- Three lists that lie at or behind block n. -/
def Own3 (n : Nat) (x1 x2 x3 : Option Addr) : Prop := ∀ ad : Addr, (x1 = some ad ∨ x2 = some ad ∨ x3 = some ad) → n ≤ ad.block
/-- What stageGroup returns: three lists of its own. -/
def GpRet (w : World) (g : Gp) (e : Ending) (w' : World) : Prop :=
  ∃ x1 c1 x2 c2 x3 c3, e = .returned (.agg #[.slice x1 g.inn.length c1, .slice x2 g.fac.length c2, .slice x3 g.out.length c3]) ∧ Reads .i64 w' w'.heap.size x1 (Sh.ints g.inn) ∧ Reads .i64 w' w'.heap.size x2 (Sh.ints g.fac) ∧ Reads .i64 w' w'.heap.size x3 (Sh.ints g.out) ∧ Own3 w.heap.size x1 x2 x3 ∧ Below w.heap.size w w'

set_option maxRecDepth 100000 in
set_option maxHeartbeats 8000000 in
theorem stageGroup_any (I N k : Nat) (ax : Int) (tw : Bool) (R L M a b : Nat) (x : Option Addr) (cap : Nat) (w : World) (h3 : Stp.Three N R L M) (hN : N ≤ 4096) (ha : a < M) (hb : b < L)
    (hx : Reads .i64 w w.heap.size x ((List.range N).map fun j => ((Stp.plc I N k j : Nat) : Int))) :
    Calls Tryd.prog 98 #[.slice x N cap, .agg #[.int .i64 ax, .bool tw, .int .i64 (R : Int), .int .i64 (L : Int), .int .i64 (M : Int)], .int .i64 (a : Int), .int .i64 (b : Int)] w (GpRet w (Stp.stG I N R L M k a b)) := by
  have hR5 := h3.r5
  have hR2 := h3.r2
  have hRb : R ≤ 16384 := by omega
  have HRb := Lib.hid hRb
  obtain ⟨i0, hti, hy0, hy1, hy2⟩ := info_parts info_int
  have hmk : ∀ W : World, (Instr.makeSlice 65 (.int .i64 (R : Int)) (.int .i64 (R : Int))).run Tryd.prog W = .ok (.slice (some ⟨W.heap.size, 0, none⟩) R R) (W.alloc (zsI R)) := fun W => by
    have := run_make (P := Tryd.prog) W 65 3 i0 (.int .i64 0) Tryd.underlying65 hti hy0 .i64 .i64 R R (by omega) (Int.le_refl _) (by rw [hy2]; omega) (by omega)
    simpa [hy1, zsI] using this
  have hmx : Tryd.prog.follows .mixedOrders = true := by kernel_rfl
  have HX := Lib.hid hx
  have H3 := Lib.hid h3
  clear hx h3
  go_enter Tryd.func98, Tryd.ntmps98
  go_upto_region 1 with fail
  obtain ⟨W1, hW1⟩ : ∃ W, W = (w.alloc (.cells #[.int .i64 ax, .bool tw, .int .i64 (R : Int), .int .i64 (L : Int), .int .i64 (M : Int)] 49)).alloc (.cells #[.slice none 0 0, .slice none 0 0, .slice none 0 0] 78) := ⟨_, rfl⟩
  have hS1 : SpAt W1 w.heap.size ⟨ax, tw, ⟨R, L, M⟩⟩ := by rw [hW1]; exact (SpAt.new w 49 ⟨ax, tw, ⟨R, L, M⟩⟩).then (below_al (Below.refl _ _) _)
  have hT1 : Trip W1 (w.heap.size + 1) 78 (.slice none 0 0) (.slice none 0 0) (.slice none 0 0) := by
    rw [hW1]
    have := Trip.new (w.alloc (.cells #[.int .i64 ax, .bool tw, .int .i64 (R : Int), .int .i64 (L : Int), .int .i64 (M : Int)] 49)) 78 (.slice none 0 0) (.slice none 0 0) (.slice none 0 0)
    rwa [World.size_alloc] at this
  have hB1 : Below w.heap.size w W1 := by rw [hW1]; exact below_al (below_al (Below.refl _ _) _) _
  have S1 := Lib.hid hS1
  have T1 := Lib.hid hT1
  have B1 := Lib.hid hB1
  rw [← hW1]
  obtain ⟨k0, k1, k2, k3, k4⟩ := hS1
  dsimp only at k0 k1 k2 k3 k4
  clear hW1 hT1 hB1
  go_cut [9] from 11 to 23 (fun v wx => ∃ g1 g2 g3 gb : Nat, v = .pointer (some ⟨gb, 0, none⟩) ∧ Hid (Grp3 wx W1.heap.size R g1 g2 g3 gb (List.replicate R 0) (List.replicate R 0) (List.replicate R 0) ∧ Below W1.heap.size W1 wx))
  case first =>
    have t2 := fun s : Since W1 => s.cell k2
    have hS0 : Below W1.heap.size W1 W1.drew := draws_below _ W1 1
    refine region_readsL (C := fun w' => ∃ s : Since W1, w' = s.out) [0, 1, 2, 4, 5, 6, 8, 9, 10] hmx (by kernel_rfl) rfl (by kernel_rfl) ⟨⟨_, hS0⟩, rfl⟩ ?_
    simp only [List.map_cons, List.map_nil, List.getD_cons_zero, List.getD_cons_succ]
    repeat (go_big_quiet_step (skip))
    refine wpQuiet_nil ?_
    clear t2 k0 k1 k2 k3 k4
    show anyC _ _ _ _ _ 14 6 _ _ _
    have hM := Mk.start W1 R hS0
    obtain ⟨V0, hV0, hN⟩ := hM.name
    rw [← hV0]; clear hV0 hM hS0 hti hy0 hy1 hy2; have hM := hN; clear hN
    refine anyC_four (i := 3) (j := 7) (k := 11) (l := 13) (by kernel_rfl) (wpOp_of_list rfl ?_) (wpOp_of_list rfl ?_) (wpOp_of_list rfl ?_) (wpOp_of_list rfl ?_)
    · skip
      go_wp2
      refine ⟨rfl, fun _ => ⟨⟨_, (hM.make1 HRb.out).below⟩, rfl⟩, ?_⟩
      obtain ⟨V1, hV1, hN⟩ := (hM.make1 HRb.out).name
      rw [← hV1]; obtain ⟨g1, hg⟩ : ∃ g, g = V0.heap.size := ⟨_, rfl⟩; rw [← hg] at hN ⊢; clear hV1 hM hg; have hM := hN; clear hN
      refine anyC_three (i := 7) (j := 11) (k := 13) (by kernel_rfl) (wpOp_of_list rfl ?_) (wpOp_of_list rfl ?_) (wpOp_of_list rfl ?_)
      · skip
        go_wp2
        refine ⟨rfl, fun _ => ⟨⟨_, (hM.make2 HRb.out).below⟩, rfl⟩, ?_⟩
        obtain ⟨V2, hV2, hN⟩ := (hM.make2 HRb.out).name
        rw [← hV2]; obtain ⟨g2, hg⟩ : ∃ g, g = V1.heap.size := ⟨_, rfl⟩; rw [← hg] at hN ⊢; clear hV2 hM hg; have hM := hN; clear hN
        refine anyC_two (i := 11) (j := 13) (by kernel_rfl) (wpOp_of_list rfl ?_) (wpOp_of_list rfl ?_)
        · skip
          go_wp2
          refine ⟨rfl, fun _ => ⟨⟨_, (hM.make3 HRb.out).below⟩, rfl⟩, ?_⟩
          obtain ⟨V3, hV3, hN⟩ := (hM.make3 HRb.out).name
          rw [← hV3]; obtain ⟨g3, hg⟩ : ∃ g, g = V2.heap.size := ⟨_, rfl⟩; rw [← hg] at hN ⊢; clear hV3 hM hg; have hM := hN; clear hN
          refine anyC_two (i := 12) (j := 13) (by kernel_rfl) (wpOp_of_list rfl ?_) (wpOp_of_list rfl ?_)
          · skip
            go_wp2
            refine ⟨rfl, fun _ => ⟨⟨_, hM.below⟩, rfl⟩, ?_⟩
            refine anyC_one (i := 13) (by kernel_rfl) (wpOp_of_list rfl ?_)
            go_wp2
            refine ⟨rfl, fun _ => ⟨⟨_, hM.cellb.below⟩, rfl⟩, ?_⟩
            obtain ⟨V4, hV4, hN⟩ := hM.cellb.name
            rw [← hV4]; obtain ⟨gb, hg⟩ : ∃ g, g = V3.heap.size := ⟨_, rfl⟩; rw [← hg] at hN ⊢; clear hV4 hM hg; have hM := hN; clear hN
            refine anyC_one (i := 14) (by kernel_rfl) (wpOp_of_list rfl ?_)
            have c0 := hM.b.c0; have c1 := hM.b.c1; have c2 := hM.b.c2; have f0 := hM.b.fr 0; have f1 := hM.b.fr 1; have f2 := hM.b.fr 2; have ll := hM.b.lt; have HM := Lib.hid hM.done; clear hM
            go_wp2
            refine ⟨rfl, fun h => absurd rfl h, ?_⟩
            refine anyC_end (by kernel_rfl) ?_
            refine ⟨rfl, ?_⟩
            go_wp2
            go_meet
            exact ⟨g1, g2, g3, gb, rfl, Lib.hid HM.out⟩
          · skip
            go_wp2
            refine ⟨rfl, fun _ => ⟨⟨_, hM.cellb.below⟩, rfl⟩, ?_⟩
            obtain ⟨V4, hV4, hN⟩ := hM.cellb.name
            rw [← hV4]; obtain ⟨gb, hg⟩ : ∃ g, g = V3.heap.size := ⟨_, rfl⟩; rw [← hg] at hN ⊢; clear hV4 hM hg; have hM := hN; clear hN
            refine anyC_one (i := 12) (by kernel_rfl) (wpOp_of_list rfl ?_)
            go_wp2
            refine ⟨rfl, fun _ => ⟨⟨_, hM.below⟩, rfl⟩, ?_⟩
            refine anyC_one (i := 14) (by kernel_rfl) (wpOp_of_list rfl ?_)
            have c0 := hM.b.c0; have c1 := hM.b.c1; have c2 := hM.b.c2; have f0 := hM.b.fr 0; have f1 := hM.b.fr 1; have f2 := hM.b.fr 2; have ll := hM.b.lt; have HM := Lib.hid hM.done; clear hM
            go_wp2
            refine ⟨rfl, fun h => absurd rfl h, ?_⟩
            refine anyC_end (by kernel_rfl) ?_
            refine ⟨rfl, ?_⟩
            go_wp2
            go_meet
            exact ⟨g1, g2, g3, gb, rfl, Lib.hid HM.out⟩
        · skip
          go_wp2
          refine ⟨rfl, fun _ => ⟨⟨_, hM.cellb.below⟩, rfl⟩, ?_⟩
          obtain ⟨V3, hV3, hN⟩ := hM.cellb.name
          rw [← hV3]; obtain ⟨gb, hg⟩ : ∃ g, g = V2.heap.size := ⟨_, rfl⟩; rw [← hg] at hN ⊢; clear hV3 hM hg; have hM := hN; clear hN
          refine anyC_one (i := 11) (by kernel_rfl) (wpOp_of_list rfl ?_)
          go_wp2
          refine ⟨rfl, fun _ => ⟨⟨_, (hM.make3 HRb.out).below⟩, rfl⟩, ?_⟩
          obtain ⟨V4, hV4, hN⟩ := (hM.make3 HRb.out).name
          rw [← hV4]; obtain ⟨g3, hg⟩ : ∃ g, g = V3.heap.size := ⟨_, rfl⟩; rw [← hg] at hN ⊢; clear hV4 hM hg; have hM := hN; clear hN
          refine anyC_one (i := 12) (by kernel_rfl) (wpOp_of_list rfl ?_)
          go_wp2
          refine ⟨rfl, fun _ => ⟨⟨_, hM.below⟩, rfl⟩, ?_⟩
          refine anyC_one (i := 14) (by kernel_rfl) (wpOp_of_list rfl ?_)
          have c0 := hM.b.c0; have c1 := hM.b.c1; have c2 := hM.b.c2; have f0 := hM.b.fr 0; have f1 := hM.b.fr 1; have f2 := hM.b.fr 2; have ll := hM.b.lt; have HM := Lib.hid hM.done; clear hM
          go_wp2
          refine ⟨rfl, fun h => absurd rfl h, ?_⟩
          refine anyC_end (by kernel_rfl) ?_
          refine ⟨rfl, ?_⟩
          go_wp2
          go_meet
          exact ⟨g1, g2, g3, gb, rfl, Lib.hid HM.out⟩
      · skip
        go_wp2
        refine ⟨rfl, fun _ => ⟨⟨_, (hM.make3 HRb.out).below⟩, rfl⟩, ?_⟩
        obtain ⟨V2, hV2, hN⟩ := (hM.make3 HRb.out).name
        rw [← hV2]; obtain ⟨g3, hg⟩ : ∃ g, g = V1.heap.size := ⟨_, rfl⟩; rw [← hg] at hN ⊢; clear hV2 hM hg; have hM := hN; clear hN
        refine anyC_two (i := 7) (j := 13) (by kernel_rfl) (wpOp_of_list rfl ?_) (wpOp_of_list rfl ?_)
        · skip
          go_wp2
          refine ⟨rfl, fun _ => ⟨⟨_, (hM.make2 HRb.out).below⟩, rfl⟩, ?_⟩
          obtain ⟨V3, hV3, hN⟩ := (hM.make2 HRb.out).name
          rw [← hV3]; obtain ⟨g2, hg⟩ : ∃ g, g = V2.heap.size := ⟨_, rfl⟩; rw [← hg] at hN ⊢; clear hV3 hM hg; have hM := hN; clear hN
          refine anyC_two (i := 12) (j := 13) (by kernel_rfl) (wpOp_of_list rfl ?_) (wpOp_of_list rfl ?_)
          · skip
            go_wp2
            refine ⟨rfl, fun _ => ⟨⟨_, hM.below⟩, rfl⟩, ?_⟩
            refine anyC_one (i := 13) (by kernel_rfl) (wpOp_of_list rfl ?_)
            go_wp2
            refine ⟨rfl, fun _ => ⟨⟨_, hM.cellb.below⟩, rfl⟩, ?_⟩
            obtain ⟨V4, hV4, hN⟩ := hM.cellb.name
            rw [← hV4]; obtain ⟨gb, hg⟩ : ∃ g, g = V3.heap.size := ⟨_, rfl⟩; rw [← hg] at hN ⊢; clear hV4 hM hg; have hM := hN; clear hN
            refine anyC_one (i := 14) (by kernel_rfl) (wpOp_of_list rfl ?_)
            have c0 := hM.b.c0; have c1 := hM.b.c1; have c2 := hM.b.c2; have f0 := hM.b.fr 0; have f1 := hM.b.fr 1; have f2 := hM.b.fr 2; have ll := hM.b.lt; have HM := Lib.hid hM.done; clear hM
            go_wp2
            refine ⟨rfl, fun h => absurd rfl h, ?_⟩
            refine anyC_end (by kernel_rfl) ?_
            refine ⟨rfl, ?_⟩
            go_wp2
            go_meet
            exact ⟨g1, g2, g3, gb, rfl, Lib.hid HM.out⟩
          · skip
            go_wp2
            refine ⟨rfl, fun _ => ⟨⟨_, hM.cellb.below⟩, rfl⟩, ?_⟩
            obtain ⟨V4, hV4, hN⟩ := hM.cellb.name
            rw [← hV4]; obtain ⟨gb, hg⟩ : ∃ g, g = V3.heap.size := ⟨_, rfl⟩; rw [← hg] at hN ⊢; clear hV4 hM hg; have hM := hN; clear hN
            refine anyC_one (i := 12) (by kernel_rfl) (wpOp_of_list rfl ?_)
            go_wp2
            refine ⟨rfl, fun _ => ⟨⟨_, hM.below⟩, rfl⟩, ?_⟩
            refine anyC_one (i := 14) (by kernel_rfl) (wpOp_of_list rfl ?_)
            have c0 := hM.b.c0; have c1 := hM.b.c1; have c2 := hM.b.c2; have f0 := hM.b.fr 0; have f1 := hM.b.fr 1; have f2 := hM.b.fr 2; have ll := hM.b.lt; have HM := Lib.hid hM.done; clear hM
            go_wp2
            refine ⟨rfl, fun h => absurd rfl h, ?_⟩
            refine anyC_end (by kernel_rfl) ?_
            refine ⟨rfl, ?_⟩
            go_wp2
            go_meet
            exact ⟨g1, g2, g3, gb, rfl, Lib.hid HM.out⟩
        · skip
          go_wp2
          refine ⟨rfl, fun _ => ⟨⟨_, hM.cellb.below⟩, rfl⟩, ?_⟩
          obtain ⟨V3, hV3, hN⟩ := hM.cellb.name
          rw [← hV3]; obtain ⟨gb, hg⟩ : ∃ g, g = V2.heap.size := ⟨_, rfl⟩; rw [← hg] at hN ⊢; clear hV3 hM hg; have hM := hN; clear hN
          refine anyC_one (i := 7) (by kernel_rfl) (wpOp_of_list rfl ?_)
          go_wp2
          refine ⟨rfl, fun _ => ⟨⟨_, (hM.make2 HRb.out).below⟩, rfl⟩, ?_⟩
          obtain ⟨V4, hV4, hN⟩ := (hM.make2 HRb.out).name
          rw [← hV4]; obtain ⟨g2, hg⟩ : ∃ g, g = V3.heap.size := ⟨_, rfl⟩; rw [← hg] at hN ⊢; clear hV4 hM hg; have hM := hN; clear hN
          refine anyC_one (i := 12) (by kernel_rfl) (wpOp_of_list rfl ?_)
          go_wp2
          refine ⟨rfl, fun _ => ⟨⟨_, hM.below⟩, rfl⟩, ?_⟩
          refine anyC_one (i := 14) (by kernel_rfl) (wpOp_of_list rfl ?_)
          have c0 := hM.b.c0; have c1 := hM.b.c1; have c2 := hM.b.c2; have f0 := hM.b.fr 0; have f1 := hM.b.fr 1; have f2 := hM.b.fr 2; have ll := hM.b.lt; have HM := Lib.hid hM.done; clear hM
          go_wp2
          refine ⟨rfl, fun h => absurd rfl h, ?_⟩
          refine anyC_end (by kernel_rfl) ?_
          refine ⟨rfl, ?_⟩
          go_wp2
          go_meet
          exact ⟨g1, g2, g3, gb, rfl, Lib.hid HM.out⟩
      · skip
        go_wp2
        refine ⟨rfl, fun _ => ⟨⟨_, hM.cellb.below⟩, rfl⟩, ?_⟩
        obtain ⟨V2, hV2, hN⟩ := hM.cellb.name
        rw [← hV2]; obtain ⟨gb, hg⟩ : ∃ g, g = V1.heap.size := ⟨_, rfl⟩; rw [← hg] at hN ⊢; clear hV2 hM hg; have hM := hN; clear hN
        refine anyC_two (i := 7) (j := 11) (by kernel_rfl) (wpOp_of_list rfl ?_) (wpOp_of_list rfl ?_)
        · skip
          go_wp2
          refine ⟨rfl, fun _ => ⟨⟨_, (hM.make2 HRb.out).below⟩, rfl⟩, ?_⟩
          obtain ⟨V3, hV3, hN⟩ := (hM.make2 HRb.out).name
          rw [← hV3]; obtain ⟨g2, hg⟩ : ∃ g, g = V2.heap.size := ⟨_, rfl⟩; rw [← hg] at hN ⊢; clear hV3 hM hg; have hM := hN; clear hN
          refine anyC_one (i := 11) (by kernel_rfl) (wpOp_of_list rfl ?_)
          go_wp2
          refine ⟨rfl, fun _ => ⟨⟨_, (hM.make3 HRb.out).below⟩, rfl⟩, ?_⟩
          obtain ⟨V4, hV4, hN⟩ := (hM.make3 HRb.out).name
          rw [← hV4]; obtain ⟨g3, hg⟩ : ∃ g, g = V3.heap.size := ⟨_, rfl⟩; rw [← hg] at hN ⊢; clear hV4 hM hg; have hM := hN; clear hN
          refine anyC_one (i := 12) (by kernel_rfl) (wpOp_of_list rfl ?_)
          go_wp2
          refine ⟨rfl, fun _ => ⟨⟨_, hM.below⟩, rfl⟩, ?_⟩
          refine anyC_one (i := 14) (by kernel_rfl) (wpOp_of_list rfl ?_)
          have c0 := hM.b.c0; have c1 := hM.b.c1; have c2 := hM.b.c2; have f0 := hM.b.fr 0; have f1 := hM.b.fr 1; have f2 := hM.b.fr 2; have ll := hM.b.lt; have HM := Lib.hid hM.done; clear hM
          go_wp2
          refine ⟨rfl, fun h => absurd rfl h, ?_⟩
          refine anyC_end (by kernel_rfl) ?_
          refine ⟨rfl, ?_⟩
          go_wp2
          go_meet
          exact ⟨g1, g2, g3, gb, rfl, Lib.hid HM.out⟩
        · skip
          go_wp2
          refine ⟨rfl, fun _ => ⟨⟨_, (hM.make3 HRb.out).below⟩, rfl⟩, ?_⟩
          obtain ⟨V3, hV3, hN⟩ := (hM.make3 HRb.out).name
          rw [← hV3]; obtain ⟨g3, hg⟩ : ∃ g, g = V2.heap.size := ⟨_, rfl⟩; rw [← hg] at hN ⊢; clear hV3 hM hg; have hM := hN; clear hN
          refine anyC_one (i := 7) (by kernel_rfl) (wpOp_of_list rfl ?_)
          go_wp2
          refine ⟨rfl, fun _ => ⟨⟨_, (hM.make2 HRb.out).below⟩, rfl⟩, ?_⟩
          obtain ⟨V4, hV4, hN⟩ := (hM.make2 HRb.out).name
          rw [← hV4]; obtain ⟨g2, hg⟩ : ∃ g, g = V3.heap.size := ⟨_, rfl⟩; rw [← hg] at hN ⊢; clear hV4 hM hg; have hM := hN; clear hN
          refine anyC_one (i := 12) (by kernel_rfl) (wpOp_of_list rfl ?_)
          go_wp2
          refine ⟨rfl, fun _ => ⟨⟨_, hM.below⟩, rfl⟩, ?_⟩
          refine anyC_one (i := 14) (by kernel_rfl) (wpOp_of_list rfl ?_)
          have c0 := hM.b.c0; have c1 := hM.b.c1; have c2 := hM.b.c2; have f0 := hM.b.fr 0; have f1 := hM.b.fr 1; have f2 := hM.b.fr 2; have ll := hM.b.lt; have HM := Lib.hid hM.done; clear hM
          go_wp2
          refine ⟨rfl, fun h => absurd rfl h, ?_⟩
          refine anyC_end (by kernel_rfl) ?_
          refine ⟨rfl, ?_⟩
          go_wp2
          go_meet
          exact ⟨g1, g2, g3, gb, rfl, Lib.hid HM.out⟩
    · skip
      go_wp2
      refine ⟨rfl, fun _ => ⟨⟨_, (hM.make2 HRb.out).below⟩, rfl⟩, ?_⟩
      obtain ⟨V1, hV1, hN⟩ := (hM.make2 HRb.out).name
      rw [← hV1]; obtain ⟨g2, hg⟩ : ∃ g, g = V0.heap.size := ⟨_, rfl⟩; rw [← hg] at hN ⊢; clear hV1 hM hg; have hM := hN; clear hN
      refine anyC_three (i := 3) (j := 11) (k := 13) (by kernel_rfl) (wpOp_of_list rfl ?_) (wpOp_of_list rfl ?_) (wpOp_of_list rfl ?_)
      · skip
        go_wp2
        refine ⟨rfl, fun _ => ⟨⟨_, (hM.make1 HRb.out).below⟩, rfl⟩, ?_⟩
        obtain ⟨V2, hV2, hN⟩ := (hM.make1 HRb.out).name
        rw [← hV2]; obtain ⟨g1, hg⟩ : ∃ g, g = V1.heap.size := ⟨_, rfl⟩; rw [← hg] at hN ⊢; clear hV2 hM hg; have hM := hN; clear hN
        refine anyC_two (i := 11) (j := 13) (by kernel_rfl) (wpOp_of_list rfl ?_) (wpOp_of_list rfl ?_)
        · skip
          go_wp2
          refine ⟨rfl, fun _ => ⟨⟨_, (hM.make3 HRb.out).below⟩, rfl⟩, ?_⟩
          obtain ⟨V3, hV3, hN⟩ := (hM.make3 HRb.out).name
          rw [← hV3]; obtain ⟨g3, hg⟩ : ∃ g, g = V2.heap.size := ⟨_, rfl⟩; rw [← hg] at hN ⊢; clear hV3 hM hg; have hM := hN; clear hN
          refine anyC_two (i := 12) (j := 13) (by kernel_rfl) (wpOp_of_list rfl ?_) (wpOp_of_list rfl ?_)
          · skip
            go_wp2
            refine ⟨rfl, fun _ => ⟨⟨_, hM.below⟩, rfl⟩, ?_⟩
            refine anyC_one (i := 13) (by kernel_rfl) (wpOp_of_list rfl ?_)
            go_wp2
            refine ⟨rfl, fun _ => ⟨⟨_, hM.cellb.below⟩, rfl⟩, ?_⟩
            obtain ⟨V4, hV4, hN⟩ := hM.cellb.name
            rw [← hV4]; obtain ⟨gb, hg⟩ : ∃ g, g = V3.heap.size := ⟨_, rfl⟩; rw [← hg] at hN ⊢; clear hV4 hM hg; have hM := hN; clear hN
            refine anyC_one (i := 14) (by kernel_rfl) (wpOp_of_list rfl ?_)
            have c0 := hM.b.c0; have c1 := hM.b.c1; have c2 := hM.b.c2; have f0 := hM.b.fr 0; have f1 := hM.b.fr 1; have f2 := hM.b.fr 2; have ll := hM.b.lt; have HM := Lib.hid hM.done; clear hM
            go_wp2
            refine ⟨rfl, fun h => absurd rfl h, ?_⟩
            refine anyC_end (by kernel_rfl) ?_
            refine ⟨rfl, ?_⟩
            go_wp2
            go_meet
            exact ⟨g1, g2, g3, gb, rfl, Lib.hid HM.out⟩
          · skip
            go_wp2
            refine ⟨rfl, fun _ => ⟨⟨_, hM.cellb.below⟩, rfl⟩, ?_⟩
            obtain ⟨V4, hV4, hN⟩ := hM.cellb.name
            rw [← hV4]; obtain ⟨gb, hg⟩ : ∃ g, g = V3.heap.size := ⟨_, rfl⟩; rw [← hg] at hN ⊢; clear hV4 hM hg; have hM := hN; clear hN
            refine anyC_one (i := 12) (by kernel_rfl) (wpOp_of_list rfl ?_)
            go_wp2
            refine ⟨rfl, fun _ => ⟨⟨_, hM.below⟩, rfl⟩, ?_⟩
            refine anyC_one (i := 14) (by kernel_rfl) (wpOp_of_list rfl ?_)
            have c0 := hM.b.c0; have c1 := hM.b.c1; have c2 := hM.b.c2; have f0 := hM.b.fr 0; have f1 := hM.b.fr 1; have f2 := hM.b.fr 2; have ll := hM.b.lt; have HM := Lib.hid hM.done; clear hM
            go_wp2
            refine ⟨rfl, fun h => absurd rfl h, ?_⟩
            refine anyC_end (by kernel_rfl) ?_
            refine ⟨rfl, ?_⟩
            go_wp2
            go_meet
            exact ⟨g1, g2, g3, gb, rfl, Lib.hid HM.out⟩
        · skip
          go_wp2
          refine ⟨rfl, fun _ => ⟨⟨_, hM.cellb.below⟩, rfl⟩, ?_⟩
          obtain ⟨V3, hV3, hN⟩ := hM.cellb.name
          rw [← hV3]; obtain ⟨gb, hg⟩ : ∃ g, g = V2.heap.size := ⟨_, rfl⟩; rw [← hg] at hN ⊢; clear hV3 hM hg; have hM := hN; clear hN
          refine anyC_one (i := 11) (by kernel_rfl) (wpOp_of_list rfl ?_)
          go_wp2
          refine ⟨rfl, fun _ => ⟨⟨_, (hM.make3 HRb.out).below⟩, rfl⟩, ?_⟩
          obtain ⟨V4, hV4, hN⟩ := (hM.make3 HRb.out).name
          rw [← hV4]; obtain ⟨g3, hg⟩ : ∃ g, g = V3.heap.size := ⟨_, rfl⟩; rw [← hg] at hN ⊢; clear hV4 hM hg; have hM := hN; clear hN
          refine anyC_one (i := 12) (by kernel_rfl) (wpOp_of_list rfl ?_)
          go_wp2
          refine ⟨rfl, fun _ => ⟨⟨_, hM.below⟩, rfl⟩, ?_⟩
          refine anyC_one (i := 14) (by kernel_rfl) (wpOp_of_list rfl ?_)
          have c0 := hM.b.c0; have c1 := hM.b.c1; have c2 := hM.b.c2; have f0 := hM.b.fr 0; have f1 := hM.b.fr 1; have f2 := hM.b.fr 2; have ll := hM.b.lt; have HM := Lib.hid hM.done; clear hM
          go_wp2
          refine ⟨rfl, fun h => absurd rfl h, ?_⟩
          refine anyC_end (by kernel_rfl) ?_
          refine ⟨rfl, ?_⟩
          go_wp2
          go_meet
          exact ⟨g1, g2, g3, gb, rfl, Lib.hid HM.out⟩
      · skip
        go_wp2
        refine ⟨rfl, fun _ => ⟨⟨_, (hM.make3 HRb.out).below⟩, rfl⟩, ?_⟩
        obtain ⟨V2, hV2, hN⟩ := (hM.make3 HRb.out).name
        rw [← hV2]; obtain ⟨g3, hg⟩ : ∃ g, g = V1.heap.size := ⟨_, rfl⟩; rw [← hg] at hN ⊢; clear hV2 hM hg; have hM := hN; clear hN
        refine anyC_two (i := 3) (j := 13) (by kernel_rfl) (wpOp_of_list rfl ?_) (wpOp_of_list rfl ?_)
        · skip
          go_wp2
          refine ⟨rfl, fun _ => ⟨⟨_, (hM.make1 HRb.out).below⟩, rfl⟩, ?_⟩
          obtain ⟨V3, hV3, hN⟩ := (hM.make1 HRb.out).name
          rw [← hV3]; obtain ⟨g1, hg⟩ : ∃ g, g = V2.heap.size := ⟨_, rfl⟩; rw [← hg] at hN ⊢; clear hV3 hM hg; have hM := hN; clear hN
          refine anyC_two (i := 12) (j := 13) (by kernel_rfl) (wpOp_of_list rfl ?_) (wpOp_of_list rfl ?_)
          · skip
            go_wp2
            refine ⟨rfl, fun _ => ⟨⟨_, hM.below⟩, rfl⟩, ?_⟩
            refine anyC_one (i := 13) (by kernel_rfl) (wpOp_of_list rfl ?_)
            go_wp2
            refine ⟨rfl, fun _ => ⟨⟨_, hM.cellb.below⟩, rfl⟩, ?_⟩
            obtain ⟨V4, hV4, hN⟩ := hM.cellb.name
            rw [← hV4]; obtain ⟨gb, hg⟩ : ∃ g, g = V3.heap.size := ⟨_, rfl⟩; rw [← hg] at hN ⊢; clear hV4 hM hg; have hM := hN; clear hN
            refine anyC_one (i := 14) (by kernel_rfl) (wpOp_of_list rfl ?_)
            have c0 := hM.b.c0; have c1 := hM.b.c1; have c2 := hM.b.c2; have f0 := hM.b.fr 0; have f1 := hM.b.fr 1; have f2 := hM.b.fr 2; have ll := hM.b.lt; have HM := Lib.hid hM.done; clear hM
            go_wp2
            refine ⟨rfl, fun h => absurd rfl h, ?_⟩
            refine anyC_end (by kernel_rfl) ?_
            refine ⟨rfl, ?_⟩
            go_wp2
            go_meet
            exact ⟨g1, g2, g3, gb, rfl, Lib.hid HM.out⟩
          · skip
            go_wp2
            refine ⟨rfl, fun _ => ⟨⟨_, hM.cellb.below⟩, rfl⟩, ?_⟩
            obtain ⟨V4, hV4, hN⟩ := hM.cellb.name
            rw [← hV4]; obtain ⟨gb, hg⟩ : ∃ g, g = V3.heap.size := ⟨_, rfl⟩; rw [← hg] at hN ⊢; clear hV4 hM hg; have hM := hN; clear hN
            refine anyC_one (i := 12) (by kernel_rfl) (wpOp_of_list rfl ?_)
            go_wp2
            refine ⟨rfl, fun _ => ⟨⟨_, hM.below⟩, rfl⟩, ?_⟩
            refine anyC_one (i := 14) (by kernel_rfl) (wpOp_of_list rfl ?_)
            have c0 := hM.b.c0; have c1 := hM.b.c1; have c2 := hM.b.c2; have f0 := hM.b.fr 0; have f1 := hM.b.fr 1; have f2 := hM.b.fr 2; have ll := hM.b.lt; have HM := Lib.hid hM.done; clear hM
            go_wp2
            refine ⟨rfl, fun h => absurd rfl h, ?_⟩
            refine anyC_end (by kernel_rfl) ?_
            refine ⟨rfl, ?_⟩
            go_wp2
            go_meet
            exact ⟨g1, g2, g3, gb, rfl, Lib.hid HM.out⟩
        · skip
          go_wp2
          refine ⟨rfl, fun _ => ⟨⟨_, hM.cellb.below⟩, rfl⟩, ?_⟩
          obtain ⟨V3, hV3, hN⟩ := hM.cellb.name
          rw [← hV3]; obtain ⟨gb, hg⟩ : ∃ g, g = V2.heap.size := ⟨_, rfl⟩; rw [← hg] at hN ⊢; clear hV3 hM hg; have hM := hN; clear hN
          refine anyC_one (i := 3) (by kernel_rfl) (wpOp_of_list rfl ?_)
          go_wp2
          refine ⟨rfl, fun _ => ⟨⟨_, (hM.make1 HRb.out).below⟩, rfl⟩, ?_⟩
          obtain ⟨V4, hV4, hN⟩ := (hM.make1 HRb.out).name
          rw [← hV4]; obtain ⟨g1, hg⟩ : ∃ g, g = V3.heap.size := ⟨_, rfl⟩; rw [← hg] at hN ⊢; clear hV4 hM hg; have hM := hN; clear hN
          refine anyC_one (i := 12) (by kernel_rfl) (wpOp_of_list rfl ?_)
          go_wp2
          refine ⟨rfl, fun _ => ⟨⟨_, hM.below⟩, rfl⟩, ?_⟩
          refine anyC_one (i := 14) (by kernel_rfl) (wpOp_of_list rfl ?_)
          have c0 := hM.b.c0; have c1 := hM.b.c1; have c2 := hM.b.c2; have f0 := hM.b.fr 0; have f1 := hM.b.fr 1; have f2 := hM.b.fr 2; have ll := hM.b.lt; have HM := Lib.hid hM.done; clear hM
          go_wp2
          refine ⟨rfl, fun h => absurd rfl h, ?_⟩
          refine anyC_end (by kernel_rfl) ?_
          refine ⟨rfl, ?_⟩
          go_wp2
          go_meet
          exact ⟨g1, g2, g3, gb, rfl, Lib.hid HM.out⟩
      · skip
        go_wp2
        refine ⟨rfl, fun _ => ⟨⟨_, hM.cellb.below⟩, rfl⟩, ?_⟩
        obtain ⟨V2, hV2, hN⟩ := hM.cellb.name
        rw [← hV2]; obtain ⟨gb, hg⟩ : ∃ g, g = V1.heap.size := ⟨_, rfl⟩; rw [← hg] at hN ⊢; clear hV2 hM hg; have hM := hN; clear hN
        refine anyC_two (i := 3) (j := 11) (by kernel_rfl) (wpOp_of_list rfl ?_) (wpOp_of_list rfl ?_)
        · skip
          go_wp2
          refine ⟨rfl, fun _ => ⟨⟨_, (hM.make1 HRb.out).below⟩, rfl⟩, ?_⟩
          obtain ⟨V3, hV3, hN⟩ := (hM.make1 HRb.out).name
          rw [← hV3]; obtain ⟨g1, hg⟩ : ∃ g, g = V2.heap.size := ⟨_, rfl⟩; rw [← hg] at hN ⊢; clear hV3 hM hg; have hM := hN; clear hN
          refine anyC_one (i := 11) (by kernel_rfl) (wpOp_of_list rfl ?_)
          go_wp2
          refine ⟨rfl, fun _ => ⟨⟨_, (hM.make3 HRb.out).below⟩, rfl⟩, ?_⟩
          obtain ⟨V4, hV4, hN⟩ := (hM.make3 HRb.out).name
          rw [← hV4]; obtain ⟨g3, hg⟩ : ∃ g, g = V3.heap.size := ⟨_, rfl⟩; rw [← hg] at hN ⊢; clear hV4 hM hg; have hM := hN; clear hN
          refine anyC_one (i := 12) (by kernel_rfl) (wpOp_of_list rfl ?_)
          go_wp2
          refine ⟨rfl, fun _ => ⟨⟨_, hM.below⟩, rfl⟩, ?_⟩
          refine anyC_one (i := 14) (by kernel_rfl) (wpOp_of_list rfl ?_)
          have c0 := hM.b.c0; have c1 := hM.b.c1; have c2 := hM.b.c2; have f0 := hM.b.fr 0; have f1 := hM.b.fr 1; have f2 := hM.b.fr 2; have ll := hM.b.lt; have HM := Lib.hid hM.done; clear hM
          go_wp2
          refine ⟨rfl, fun h => absurd rfl h, ?_⟩
          refine anyC_end (by kernel_rfl) ?_
          refine ⟨rfl, ?_⟩
          go_wp2
          go_meet
          exact ⟨g1, g2, g3, gb, rfl, Lib.hid HM.out⟩
        · skip
          go_wp2
          refine ⟨rfl, fun _ => ⟨⟨_, (hM.make3 HRb.out).below⟩, rfl⟩, ?_⟩
          obtain ⟨V3, hV3, hN⟩ := (hM.make3 HRb.out).name
          rw [← hV3]; obtain ⟨g3, hg⟩ : ∃ g, g = V2.heap.size := ⟨_, rfl⟩; rw [← hg] at hN ⊢; clear hV3 hM hg; have hM := hN; clear hN
          refine anyC_one (i := 3) (by kernel_rfl) (wpOp_of_list rfl ?_)
          go_wp2
          refine ⟨rfl, fun _ => ⟨⟨_, (hM.make1 HRb.out).below⟩, rfl⟩, ?_⟩
          obtain ⟨V4, hV4, hN⟩ := (hM.make1 HRb.out).name
          rw [← hV4]; obtain ⟨g1, hg⟩ : ∃ g, g = V3.heap.size := ⟨_, rfl⟩; rw [← hg] at hN ⊢; clear hV4 hM hg; have hM := hN; clear hN
          refine anyC_one (i := 12) (by kernel_rfl) (wpOp_of_list rfl ?_)
          go_wp2
          refine ⟨rfl, fun _ => ⟨⟨_, hM.below⟩, rfl⟩, ?_⟩
          refine anyC_one (i := 14) (by kernel_rfl) (wpOp_of_list rfl ?_)
          have c0 := hM.b.c0; have c1 := hM.b.c1; have c2 := hM.b.c2; have f0 := hM.b.fr 0; have f1 := hM.b.fr 1; have f2 := hM.b.fr 2; have ll := hM.b.lt; have HM := Lib.hid hM.done; clear hM
          go_wp2
          refine ⟨rfl, fun h => absurd rfl h, ?_⟩
          refine anyC_end (by kernel_rfl) ?_
          refine ⟨rfl, ?_⟩
          go_wp2
          go_meet
          exact ⟨g1, g2, g3, gb, rfl, Lib.hid HM.out⟩
    · skip
      go_wp2
      refine ⟨rfl, fun _ => ⟨⟨_, (hM.make3 HRb.out).below⟩, rfl⟩, ?_⟩
      obtain ⟨V1, hV1, hN⟩ := (hM.make3 HRb.out).name
      rw [← hV1]; obtain ⟨g3, hg⟩ : ∃ g, g = V0.heap.size := ⟨_, rfl⟩; rw [← hg] at hN ⊢; clear hV1 hM hg; have hM := hN; clear hN
      refine anyC_three (i := 3) (j := 7) (k := 13) (by kernel_rfl) (wpOp_of_list rfl ?_) (wpOp_of_list rfl ?_) (wpOp_of_list rfl ?_)
      · skip
        go_wp2
        refine ⟨rfl, fun _ => ⟨⟨_, (hM.make1 HRb.out).below⟩, rfl⟩, ?_⟩
        obtain ⟨V2, hV2, hN⟩ := (hM.make1 HRb.out).name
        rw [← hV2]; obtain ⟨g1, hg⟩ : ∃ g, g = V1.heap.size := ⟨_, rfl⟩; rw [← hg] at hN ⊢; clear hV2 hM hg; have hM := hN; clear hN
        refine anyC_two (i := 7) (j := 13) (by kernel_rfl) (wpOp_of_list rfl ?_) (wpOp_of_list rfl ?_)
        · skip
          go_wp2
          refine ⟨rfl, fun _ => ⟨⟨_, (hM.make2 HRb.out).below⟩, rfl⟩, ?_⟩
          obtain ⟨V3, hV3, hN⟩ := (hM.make2 HRb.out).name
          rw [← hV3]; obtain ⟨g2, hg⟩ : ∃ g, g = V2.heap.size := ⟨_, rfl⟩; rw [← hg] at hN ⊢; clear hV3 hM hg; have hM := hN; clear hN
          refine anyC_two (i := 12) (j := 13) (by kernel_rfl) (wpOp_of_list rfl ?_) (wpOp_of_list rfl ?_)
          · skip
            go_wp2
            refine ⟨rfl, fun _ => ⟨⟨_, hM.below⟩, rfl⟩, ?_⟩
            refine anyC_one (i := 13) (by kernel_rfl) (wpOp_of_list rfl ?_)
            go_wp2
            refine ⟨rfl, fun _ => ⟨⟨_, hM.cellb.below⟩, rfl⟩, ?_⟩
            obtain ⟨V4, hV4, hN⟩ := hM.cellb.name
            rw [← hV4]; obtain ⟨gb, hg⟩ : ∃ g, g = V3.heap.size := ⟨_, rfl⟩; rw [← hg] at hN ⊢; clear hV4 hM hg; have hM := hN; clear hN
            refine anyC_one (i := 14) (by kernel_rfl) (wpOp_of_list rfl ?_)
            have c0 := hM.b.c0; have c1 := hM.b.c1; have c2 := hM.b.c2; have f0 := hM.b.fr 0; have f1 := hM.b.fr 1; have f2 := hM.b.fr 2; have ll := hM.b.lt; have HM := Lib.hid hM.done; clear hM
            go_wp2
            refine ⟨rfl, fun h => absurd rfl h, ?_⟩
            refine anyC_end (by kernel_rfl) ?_
            refine ⟨rfl, ?_⟩
            go_wp2
            go_meet
            exact ⟨g1, g2, g3, gb, rfl, Lib.hid HM.out⟩
          · skip
            go_wp2
            refine ⟨rfl, fun _ => ⟨⟨_, hM.cellb.below⟩, rfl⟩, ?_⟩
            obtain ⟨V4, hV4, hN⟩ := hM.cellb.name
            rw [← hV4]; obtain ⟨gb, hg⟩ : ∃ g, g = V3.heap.size := ⟨_, rfl⟩; rw [← hg] at hN ⊢; clear hV4 hM hg; have hM := hN; clear hN
            refine anyC_one (i := 12) (by kernel_rfl) (wpOp_of_list rfl ?_)
            go_wp2
            refine ⟨rfl, fun _ => ⟨⟨_, hM.below⟩, rfl⟩, ?_⟩
            refine anyC_one (i := 14) (by kernel_rfl) (wpOp_of_list rfl ?_)
            have c0 := hM.b.c0; have c1 := hM.b.c1; have c2 := hM.b.c2; have f0 := hM.b.fr 0; have f1 := hM.b.fr 1; have f2 := hM.b.fr 2; have ll := hM.b.lt; have HM := Lib.hid hM.done; clear hM
            go_wp2
            refine ⟨rfl, fun h => absurd rfl h, ?_⟩
            refine anyC_end (by kernel_rfl) ?_
            refine ⟨rfl, ?_⟩
            go_wp2
            go_meet
            exact ⟨g1, g2, g3, gb, rfl, Lib.hid HM.out⟩
        · skip
          go_wp2
          refine ⟨rfl, fun _ => ⟨⟨_, hM.cellb.below⟩, rfl⟩, ?_⟩
          obtain ⟨V3, hV3, hN⟩ := hM.cellb.name
          rw [← hV3]; obtain ⟨gb, hg⟩ : ∃ g, g = V2.heap.size := ⟨_, rfl⟩; rw [← hg] at hN ⊢; clear hV3 hM hg; have hM := hN; clear hN
          refine anyC_one (i := 7) (by kernel_rfl) (wpOp_of_list rfl ?_)
          go_wp2
          refine ⟨rfl, fun _ => ⟨⟨_, (hM.make2 HRb.out).below⟩, rfl⟩, ?_⟩
          obtain ⟨V4, hV4, hN⟩ := (hM.make2 HRb.out).name
          rw [← hV4]; obtain ⟨g2, hg⟩ : ∃ g, g = V3.heap.size := ⟨_, rfl⟩; rw [← hg] at hN ⊢; clear hV4 hM hg; have hM := hN; clear hN
          refine anyC_one (i := 12) (by kernel_rfl) (wpOp_of_list rfl ?_)
          go_wp2
          refine ⟨rfl, fun _ => ⟨⟨_, hM.below⟩, rfl⟩, ?_⟩
          refine anyC_one (i := 14) (by kernel_rfl) (wpOp_of_list rfl ?_)
          have c0 := hM.b.c0; have c1 := hM.b.c1; have c2 := hM.b.c2; have f0 := hM.b.fr 0; have f1 := hM.b.fr 1; have f2 := hM.b.fr 2; have ll := hM.b.lt; have HM := Lib.hid hM.done; clear hM
          go_wp2
          refine ⟨rfl, fun h => absurd rfl h, ?_⟩
          refine anyC_end (by kernel_rfl) ?_
          refine ⟨rfl, ?_⟩
          go_wp2
          go_meet
          exact ⟨g1, g2, g3, gb, rfl, Lib.hid HM.out⟩
      · skip
        go_wp2
        refine ⟨rfl, fun _ => ⟨⟨_, (hM.make2 HRb.out).below⟩, rfl⟩, ?_⟩
        obtain ⟨V2, hV2, hN⟩ := (hM.make2 HRb.out).name
        rw [← hV2]; obtain ⟨g2, hg⟩ : ∃ g, g = V1.heap.size := ⟨_, rfl⟩; rw [← hg] at hN ⊢; clear hV2 hM hg; have hM := hN; clear hN
        refine anyC_two (i := 3) (j := 13) (by kernel_rfl) (wpOp_of_list rfl ?_) (wpOp_of_list rfl ?_)
        · skip
          go_wp2
          refine ⟨rfl, fun _ => ⟨⟨_, (hM.make1 HRb.out).below⟩, rfl⟩, ?_⟩
          obtain ⟨V3, hV3, hN⟩ := (hM.make1 HRb.out).name
          rw [← hV3]; obtain ⟨g1, hg⟩ : ∃ g, g = V2.heap.size := ⟨_, rfl⟩; rw [← hg] at hN ⊢; clear hV3 hM hg; have hM := hN; clear hN
          refine anyC_two (i := 12) (j := 13) (by kernel_rfl) (wpOp_of_list rfl ?_) (wpOp_of_list rfl ?_)
          · skip
            go_wp2
            refine ⟨rfl, fun _ => ⟨⟨_, hM.below⟩, rfl⟩, ?_⟩
            refine anyC_one (i := 13) (by kernel_rfl) (wpOp_of_list rfl ?_)
            go_wp2
            refine ⟨rfl, fun _ => ⟨⟨_, hM.cellb.below⟩, rfl⟩, ?_⟩
            obtain ⟨V4, hV4, hN⟩ := hM.cellb.name
            rw [← hV4]; obtain ⟨gb, hg⟩ : ∃ g, g = V3.heap.size := ⟨_, rfl⟩; rw [← hg] at hN ⊢; clear hV4 hM hg; have hM := hN; clear hN
            refine anyC_one (i := 14) (by kernel_rfl) (wpOp_of_list rfl ?_)
            have c0 := hM.b.c0; have c1 := hM.b.c1; have c2 := hM.b.c2; have f0 := hM.b.fr 0; have f1 := hM.b.fr 1; have f2 := hM.b.fr 2; have ll := hM.b.lt; have HM := Lib.hid hM.done; clear hM
            go_wp2
            refine ⟨rfl, fun h => absurd rfl h, ?_⟩
            refine anyC_end (by kernel_rfl) ?_
            refine ⟨rfl, ?_⟩
            go_wp2
            go_meet
            exact ⟨g1, g2, g3, gb, rfl, Lib.hid HM.out⟩
          · skip
            go_wp2
            refine ⟨rfl, fun _ => ⟨⟨_, hM.cellb.below⟩, rfl⟩, ?_⟩
            obtain ⟨V4, hV4, hN⟩ := hM.cellb.name
            rw [← hV4]; obtain ⟨gb, hg⟩ : ∃ g, g = V3.heap.size := ⟨_, rfl⟩; rw [← hg] at hN ⊢; clear hV4 hM hg; have hM := hN; clear hN
            refine anyC_one (i := 12) (by kernel_rfl) (wpOp_of_list rfl ?_)
            go_wp2
            refine ⟨rfl, fun _ => ⟨⟨_, hM.below⟩, rfl⟩, ?_⟩
            refine anyC_one (i := 14) (by kernel_rfl) (wpOp_of_list rfl ?_)
            have c0 := hM.b.c0; have c1 := hM.b.c1; have c2 := hM.b.c2; have f0 := hM.b.fr 0; have f1 := hM.b.fr 1; have f2 := hM.b.fr 2; have ll := hM.b.lt; have HM := Lib.hid hM.done; clear hM
            go_wp2
            refine ⟨rfl, fun h => absurd rfl h, ?_⟩
            refine anyC_end (by kernel_rfl) ?_
            refine ⟨rfl, ?_⟩
            go_wp2
            go_meet
            exact ⟨g1, g2, g3, gb, rfl, Lib.hid HM.out⟩
        · skip
          go_wp2
          refine ⟨rfl, fun _ => ⟨⟨_, hM.cellb.below⟩, rfl⟩, ?_⟩
          obtain ⟨V3, hV3, hN⟩ := hM.cellb.name
          rw [← hV3]; obtain ⟨gb, hg⟩ : ∃ g, g = V2.heap.size := ⟨_, rfl⟩; rw [← hg] at hN ⊢; clear hV3 hM hg; have hM := hN; clear hN
          refine anyC_one (i := 3) (by kernel_rfl) (wpOp_of_list rfl ?_)
          go_wp2
          refine ⟨rfl, fun _ => ⟨⟨_, (hM.make1 HRb.out).below⟩, rfl⟩, ?_⟩
          obtain ⟨V4, hV4, hN⟩ := (hM.make1 HRb.out).name
          rw [← hV4]; obtain ⟨g1, hg⟩ : ∃ g, g = V3.heap.size := ⟨_, rfl⟩; rw [← hg] at hN ⊢; clear hV4 hM hg; have hM := hN; clear hN
          refine anyC_one (i := 12) (by kernel_rfl) (wpOp_of_list rfl ?_)
          go_wp2
          refine ⟨rfl, fun _ => ⟨⟨_, hM.below⟩, rfl⟩, ?_⟩
          refine anyC_one (i := 14) (by kernel_rfl) (wpOp_of_list rfl ?_)
          have c0 := hM.b.c0; have c1 := hM.b.c1; have c2 := hM.b.c2; have f0 := hM.b.fr 0; have f1 := hM.b.fr 1; have f2 := hM.b.fr 2; have ll := hM.b.lt; have HM := Lib.hid hM.done; clear hM
          go_wp2
          refine ⟨rfl, fun h => absurd rfl h, ?_⟩
          refine anyC_end (by kernel_rfl) ?_
          refine ⟨rfl, ?_⟩
          go_wp2
          go_meet
          exact ⟨g1, g2, g3, gb, rfl, Lib.hid HM.out⟩
      · skip
        go_wp2
        refine ⟨rfl, fun _ => ⟨⟨_, hM.cellb.below⟩, rfl⟩, ?_⟩
        obtain ⟨V2, hV2, hN⟩ := hM.cellb.name
        rw [← hV2]; obtain ⟨gb, hg⟩ : ∃ g, g = V1.heap.size := ⟨_, rfl⟩; rw [← hg] at hN ⊢; clear hV2 hM hg; have hM := hN; clear hN
        refine anyC_two (i := 3) (j := 7) (by kernel_rfl) (wpOp_of_list rfl ?_) (wpOp_of_list rfl ?_)
        · skip
          go_wp2
          refine ⟨rfl, fun _ => ⟨⟨_, (hM.make1 HRb.out).below⟩, rfl⟩, ?_⟩
          obtain ⟨V3, hV3, hN⟩ := (hM.make1 HRb.out).name
          rw [← hV3]; obtain ⟨g1, hg⟩ : ∃ g, g = V2.heap.size := ⟨_, rfl⟩; rw [← hg] at hN ⊢; clear hV3 hM hg; have hM := hN; clear hN
          refine anyC_one (i := 7) (by kernel_rfl) (wpOp_of_list rfl ?_)
          go_wp2
          refine ⟨rfl, fun _ => ⟨⟨_, (hM.make2 HRb.out).below⟩, rfl⟩, ?_⟩
          obtain ⟨V4, hV4, hN⟩ := (hM.make2 HRb.out).name
          rw [← hV4]; obtain ⟨g2, hg⟩ : ∃ g, g = V3.heap.size := ⟨_, rfl⟩; rw [← hg] at hN ⊢; clear hV4 hM hg; have hM := hN; clear hN
          refine anyC_one (i := 12) (by kernel_rfl) (wpOp_of_list rfl ?_)
          go_wp2
          refine ⟨rfl, fun _ => ⟨⟨_, hM.below⟩, rfl⟩, ?_⟩
          refine anyC_one (i := 14) (by kernel_rfl) (wpOp_of_list rfl ?_)
          have c0 := hM.b.c0; have c1 := hM.b.c1; have c2 := hM.b.c2; have f0 := hM.b.fr 0; have f1 := hM.b.fr 1; have f2 := hM.b.fr 2; have ll := hM.b.lt; have HM := Lib.hid hM.done; clear hM
          go_wp2
          refine ⟨rfl, fun h => absurd rfl h, ?_⟩
          refine anyC_end (by kernel_rfl) ?_
          refine ⟨rfl, ?_⟩
          go_wp2
          go_meet
          exact ⟨g1, g2, g3, gb, rfl, Lib.hid HM.out⟩
        · skip
          go_wp2
          refine ⟨rfl, fun _ => ⟨⟨_, (hM.make2 HRb.out).below⟩, rfl⟩, ?_⟩
          obtain ⟨V3, hV3, hN⟩ := (hM.make2 HRb.out).name
          rw [← hV3]; obtain ⟨g2, hg⟩ : ∃ g, g = V2.heap.size := ⟨_, rfl⟩; rw [← hg] at hN ⊢; clear hV3 hM hg; have hM := hN; clear hN
          refine anyC_one (i := 3) (by kernel_rfl) (wpOp_of_list rfl ?_)
          go_wp2
          refine ⟨rfl, fun _ => ⟨⟨_, (hM.make1 HRb.out).below⟩, rfl⟩, ?_⟩
          obtain ⟨V4, hV4, hN⟩ := (hM.make1 HRb.out).name
          rw [← hV4]; obtain ⟨g1, hg⟩ : ∃ g, g = V3.heap.size := ⟨_, rfl⟩; rw [← hg] at hN ⊢; clear hV4 hM hg; have hM := hN; clear hN
          refine anyC_one (i := 12) (by kernel_rfl) (wpOp_of_list rfl ?_)
          go_wp2
          refine ⟨rfl, fun _ => ⟨⟨_, hM.below⟩, rfl⟩, ?_⟩
          refine anyC_one (i := 14) (by kernel_rfl) (wpOp_of_list rfl ?_)
          have c0 := hM.b.c0; have c1 := hM.b.c1; have c2 := hM.b.c2; have f0 := hM.b.fr 0; have f1 := hM.b.fr 1; have f2 := hM.b.fr 2; have ll := hM.b.lt; have HM := Lib.hid hM.done; clear hM
          go_wp2
          refine ⟨rfl, fun h => absurd rfl h, ?_⟩
          refine anyC_end (by kernel_rfl) ?_
          refine ⟨rfl, ?_⟩
          go_wp2
          go_meet
          exact ⟨g1, g2, g3, gb, rfl, Lib.hid HM.out⟩
    · skip
      go_wp2
      refine ⟨rfl, fun _ => ⟨⟨_, hM.cellb.below⟩, rfl⟩, ?_⟩
      obtain ⟨V1, hV1, hN⟩ := hM.cellb.name
      rw [← hV1]; obtain ⟨gb, hg⟩ : ∃ g, g = V0.heap.size := ⟨_, rfl⟩; rw [← hg] at hN ⊢; clear hV1 hM hg; have hM := hN; clear hN
      refine anyC_three (i := 3) (j := 7) (k := 11) (by kernel_rfl) (wpOp_of_list rfl ?_) (wpOp_of_list rfl ?_) (wpOp_of_list rfl ?_)
      · skip
        go_wp2
        refine ⟨rfl, fun _ => ⟨⟨_, (hM.make1 HRb.out).below⟩, rfl⟩, ?_⟩
        obtain ⟨V2, hV2, hN⟩ := (hM.make1 HRb.out).name
        rw [← hV2]; obtain ⟨g1, hg⟩ : ∃ g, g = V1.heap.size := ⟨_, rfl⟩; rw [← hg] at hN ⊢; clear hV2 hM hg; have hM := hN; clear hN
        refine anyC_two (i := 7) (j := 11) (by kernel_rfl) (wpOp_of_list rfl ?_) (wpOp_of_list rfl ?_)
        · skip
          go_wp2
          refine ⟨rfl, fun _ => ⟨⟨_, (hM.make2 HRb.out).below⟩, rfl⟩, ?_⟩
          obtain ⟨V3, hV3, hN⟩ := (hM.make2 HRb.out).name
          rw [← hV3]; obtain ⟨g2, hg⟩ : ∃ g, g = V2.heap.size := ⟨_, rfl⟩; rw [← hg] at hN ⊢; clear hV3 hM hg; have hM := hN; clear hN
          refine anyC_one (i := 11) (by kernel_rfl) (wpOp_of_list rfl ?_)
          go_wp2
          refine ⟨rfl, fun _ => ⟨⟨_, (hM.make3 HRb.out).below⟩, rfl⟩, ?_⟩
          obtain ⟨V4, hV4, hN⟩ := (hM.make3 HRb.out).name
          rw [← hV4]; obtain ⟨g3, hg⟩ : ∃ g, g = V3.heap.size := ⟨_, rfl⟩; rw [← hg] at hN ⊢; clear hV4 hM hg; have hM := hN; clear hN
          refine anyC_one (i := 12) (by kernel_rfl) (wpOp_of_list rfl ?_)
          go_wp2
          refine ⟨rfl, fun _ => ⟨⟨_, hM.below⟩, rfl⟩, ?_⟩
          refine anyC_one (i := 14) (by kernel_rfl) (wpOp_of_list rfl ?_)
          have c0 := hM.b.c0; have c1 := hM.b.c1; have c2 := hM.b.c2; have f0 := hM.b.fr 0; have f1 := hM.b.fr 1; have f2 := hM.b.fr 2; have ll := hM.b.lt; have HM := Lib.hid hM.done; clear hM
          go_wp2
          refine ⟨rfl, fun h => absurd rfl h, ?_⟩
          refine anyC_end (by kernel_rfl) ?_
          refine ⟨rfl, ?_⟩
          go_wp2
          go_meet
          exact ⟨g1, g2, g3, gb, rfl, Lib.hid HM.out⟩
        · skip
          go_wp2
          refine ⟨rfl, fun _ => ⟨⟨_, (hM.make3 HRb.out).below⟩, rfl⟩, ?_⟩
          obtain ⟨V3, hV3, hN⟩ := (hM.make3 HRb.out).name
          rw [← hV3]; obtain ⟨g3, hg⟩ : ∃ g, g = V2.heap.size := ⟨_, rfl⟩; rw [← hg] at hN ⊢; clear hV3 hM hg; have hM := hN; clear hN
          refine anyC_one (i := 7) (by kernel_rfl) (wpOp_of_list rfl ?_)
          go_wp2
          refine ⟨rfl, fun _ => ⟨⟨_, (hM.make2 HRb.out).below⟩, rfl⟩, ?_⟩
          obtain ⟨V4, hV4, hN⟩ := (hM.make2 HRb.out).name
          rw [← hV4]; obtain ⟨g2, hg⟩ : ∃ g, g = V3.heap.size := ⟨_, rfl⟩; rw [← hg] at hN ⊢; clear hV4 hM hg; have hM := hN; clear hN
          refine anyC_one (i := 12) (by kernel_rfl) (wpOp_of_list rfl ?_)
          go_wp2
          refine ⟨rfl, fun _ => ⟨⟨_, hM.below⟩, rfl⟩, ?_⟩
          refine anyC_one (i := 14) (by kernel_rfl) (wpOp_of_list rfl ?_)
          have c0 := hM.b.c0; have c1 := hM.b.c1; have c2 := hM.b.c2; have f0 := hM.b.fr 0; have f1 := hM.b.fr 1; have f2 := hM.b.fr 2; have ll := hM.b.lt; have HM := Lib.hid hM.done; clear hM
          go_wp2
          refine ⟨rfl, fun h => absurd rfl h, ?_⟩
          refine anyC_end (by kernel_rfl) ?_
          refine ⟨rfl, ?_⟩
          go_wp2
          go_meet
          exact ⟨g1, g2, g3, gb, rfl, Lib.hid HM.out⟩
      · skip
        go_wp2
        refine ⟨rfl, fun _ => ⟨⟨_, (hM.make2 HRb.out).below⟩, rfl⟩, ?_⟩
        obtain ⟨V2, hV2, hN⟩ := (hM.make2 HRb.out).name
        rw [← hV2]; obtain ⟨g2, hg⟩ : ∃ g, g = V1.heap.size := ⟨_, rfl⟩; rw [← hg] at hN ⊢; clear hV2 hM hg; have hM := hN; clear hN
        refine anyC_two (i := 3) (j := 11) (by kernel_rfl) (wpOp_of_list rfl ?_) (wpOp_of_list rfl ?_)
        · skip
          go_wp2
          refine ⟨rfl, fun _ => ⟨⟨_, (hM.make1 HRb.out).below⟩, rfl⟩, ?_⟩
          obtain ⟨V3, hV3, hN⟩ := (hM.make1 HRb.out).name
          rw [← hV3]; obtain ⟨g1, hg⟩ : ∃ g, g = V2.heap.size := ⟨_, rfl⟩; rw [← hg] at hN ⊢; clear hV3 hM hg; have hM := hN; clear hN
          refine anyC_one (i := 11) (by kernel_rfl) (wpOp_of_list rfl ?_)
          go_wp2
          refine ⟨rfl, fun _ => ⟨⟨_, (hM.make3 HRb.out).below⟩, rfl⟩, ?_⟩
          obtain ⟨V4, hV4, hN⟩ := (hM.make3 HRb.out).name
          rw [← hV4]; obtain ⟨g3, hg⟩ : ∃ g, g = V3.heap.size := ⟨_, rfl⟩; rw [← hg] at hN ⊢; clear hV4 hM hg; have hM := hN; clear hN
          refine anyC_one (i := 12) (by kernel_rfl) (wpOp_of_list rfl ?_)
          go_wp2
          refine ⟨rfl, fun _ => ⟨⟨_, hM.below⟩, rfl⟩, ?_⟩
          refine anyC_one (i := 14) (by kernel_rfl) (wpOp_of_list rfl ?_)
          have c0 := hM.b.c0; have c1 := hM.b.c1; have c2 := hM.b.c2; have f0 := hM.b.fr 0; have f1 := hM.b.fr 1; have f2 := hM.b.fr 2; have ll := hM.b.lt; have HM := Lib.hid hM.done; clear hM
          go_wp2
          refine ⟨rfl, fun h => absurd rfl h, ?_⟩
          refine anyC_end (by kernel_rfl) ?_
          refine ⟨rfl, ?_⟩
          go_wp2
          go_meet
          exact ⟨g1, g2, g3, gb, rfl, Lib.hid HM.out⟩
        · skip
          go_wp2
          refine ⟨rfl, fun _ => ⟨⟨_, (hM.make3 HRb.out).below⟩, rfl⟩, ?_⟩
          obtain ⟨V3, hV3, hN⟩ := (hM.make3 HRb.out).name
          rw [← hV3]; obtain ⟨g3, hg⟩ : ∃ g, g = V2.heap.size := ⟨_, rfl⟩; rw [← hg] at hN ⊢; clear hV3 hM hg; have hM := hN; clear hN
          refine anyC_one (i := 3) (by kernel_rfl) (wpOp_of_list rfl ?_)
          go_wp2
          refine ⟨rfl, fun _ => ⟨⟨_, (hM.make1 HRb.out).below⟩, rfl⟩, ?_⟩
          obtain ⟨V4, hV4, hN⟩ := (hM.make1 HRb.out).name
          rw [← hV4]; obtain ⟨g1, hg⟩ : ∃ g, g = V3.heap.size := ⟨_, rfl⟩; rw [← hg] at hN ⊢; clear hV4 hM hg; have hM := hN; clear hN
          refine anyC_one (i := 12) (by kernel_rfl) (wpOp_of_list rfl ?_)
          go_wp2
          refine ⟨rfl, fun _ => ⟨⟨_, hM.below⟩, rfl⟩, ?_⟩
          refine anyC_one (i := 14) (by kernel_rfl) (wpOp_of_list rfl ?_)
          have c0 := hM.b.c0; have c1 := hM.b.c1; have c2 := hM.b.c2; have f0 := hM.b.fr 0; have f1 := hM.b.fr 1; have f2 := hM.b.fr 2; have ll := hM.b.lt; have HM := Lib.hid hM.done; clear hM
          go_wp2
          refine ⟨rfl, fun h => absurd rfl h, ?_⟩
          refine anyC_end (by kernel_rfl) ?_
          refine ⟨rfl, ?_⟩
          go_wp2
          go_meet
          exact ⟨g1, g2, g3, gb, rfl, Lib.hid HM.out⟩
      · skip
        go_wp2
        refine ⟨rfl, fun _ => ⟨⟨_, (hM.make3 HRb.out).below⟩, rfl⟩, ?_⟩
        obtain ⟨V2, hV2, hN⟩ := (hM.make3 HRb.out).name
        rw [← hV2]; obtain ⟨g3, hg⟩ : ∃ g, g = V1.heap.size := ⟨_, rfl⟩; rw [← hg] at hN ⊢; clear hV2 hM hg; have hM := hN; clear hN
        refine anyC_two (i := 3) (j := 7) (by kernel_rfl) (wpOp_of_list rfl ?_) (wpOp_of_list rfl ?_)
        · skip
          go_wp2
          refine ⟨rfl, fun _ => ⟨⟨_, (hM.make1 HRb.out).below⟩, rfl⟩, ?_⟩
          obtain ⟨V3, hV3, hN⟩ := (hM.make1 HRb.out).name
          rw [← hV3]; obtain ⟨g1, hg⟩ : ∃ g, g = V2.heap.size := ⟨_, rfl⟩; rw [← hg] at hN ⊢; clear hV3 hM hg; have hM := hN; clear hN
          refine anyC_one (i := 7) (by kernel_rfl) (wpOp_of_list rfl ?_)
          go_wp2
          refine ⟨rfl, fun _ => ⟨⟨_, (hM.make2 HRb.out).below⟩, rfl⟩, ?_⟩
          obtain ⟨V4, hV4, hN⟩ := (hM.make2 HRb.out).name
          rw [← hV4]; obtain ⟨g2, hg⟩ : ∃ g, g = V3.heap.size := ⟨_, rfl⟩; rw [← hg] at hN ⊢; clear hV4 hM hg; have hM := hN; clear hN
          refine anyC_one (i := 12) (by kernel_rfl) (wpOp_of_list rfl ?_)
          go_wp2
          refine ⟨rfl, fun _ => ⟨⟨_, hM.below⟩, rfl⟩, ?_⟩
          refine anyC_one (i := 14) (by kernel_rfl) (wpOp_of_list rfl ?_)
          have c0 := hM.b.c0; have c1 := hM.b.c1; have c2 := hM.b.c2; have f0 := hM.b.fr 0; have f1 := hM.b.fr 1; have f2 := hM.b.fr 2; have ll := hM.b.lt; have HM := Lib.hid hM.done; clear hM
          go_wp2
          refine ⟨rfl, fun h => absurd rfl h, ?_⟩
          refine anyC_end (by kernel_rfl) ?_
          refine ⟨rfl, ?_⟩
          go_wp2
          go_meet
          exact ⟨g1, g2, g3, gb, rfl, Lib.hid HM.out⟩
        · skip
          go_wp2
          refine ⟨rfl, fun _ => ⟨⟨_, (hM.make2 HRb.out).below⟩, rfl⟩, ?_⟩
          obtain ⟨V3, hV3, hN⟩ := (hM.make2 HRb.out).name
          rw [← hV3]; obtain ⟨g2, hg⟩ : ∃ g, g = V2.heap.size := ⟨_, rfl⟩; rw [← hg] at hN ⊢; clear hV3 hM hg; have hM := hN; clear hN
          refine anyC_one (i := 3) (by kernel_rfl) (wpOp_of_list rfl ?_)
          go_wp2
          refine ⟨rfl, fun _ => ⟨⟨_, (hM.make1 HRb.out).below⟩, rfl⟩, ?_⟩
          obtain ⟨V4, hV4, hN⟩ := (hM.make1 HRb.out).name
          rw [← hV4]; obtain ⟨g1, hg⟩ : ∃ g, g = V3.heap.size := ⟨_, rfl⟩; rw [← hg] at hN ⊢; clear hV4 hM hg; have hM := hN; clear hN
          refine anyC_one (i := 12) (by kernel_rfl) (wpOp_of_list rfl ?_)
          go_wp2
          refine ⟨rfl, fun _ => ⟨⟨_, hM.below⟩, rfl⟩, ?_⟩
          refine anyC_one (i := 14) (by kernel_rfl) (wpOp_of_list rfl ?_)
          have c0 := hM.b.c0; have c1 := hM.b.c1; have c2 := hM.b.c2; have f0 := hM.b.fr 0; have f1 := hM.b.fr 1; have f2 := hM.b.fr 2; have ll := hM.b.lt; have HM := Lib.hid hM.done; clear hM
          go_wp2
          refine ⟨rfl, fun h => absurd rfl h, ?_⟩
          refine anyC_end (by kernel_rfl) ?_
          refine ⟨rfl, ?_⟩
          go_wp2
          go_meet
          exact ⟨g1, g2, g3, gb, rfl, Lib.hid HM.out⟩

  case rest =>
    obtain ⟨g1, g2, g3, gb, rfl, HC⟩ := hcut
    have hS := S1.out.then HC.out.2
    obtain ⟨k0, k1, k2, k3, k4⟩ := hS
    dsimp only at k0 k1 k2 k3 k4
    obtain ⟨f1, hf1⟩ : ∃ f : Nat → Int, f = fun t => ((Stp.plc I N k (b + L * (a + M * t)) : Nat) : Int) := ⟨_, rfl⟩
    obtain ⟨f2, hf2⟩ : ∃ f : Nat → Int, f = fun t => ((a * R + t : Nat) : Int) := ⟨_, rfl⟩
    obtain ⟨f3, hf3⟩ : ∃ f : Nat → Int, f = fun t => ((Stp.plc I N k (b + L * (R * a + t)) : Nat) : Int) := ⟨_, rfl⟩
    have F1 := Lib.hid hf1
    have F2 := Lib.hid hf2
    have F3 := Lib.hid hf3
    have hI0 : ∀ f : Nat → Int, mixed f (fun _ => 0) R 0 = List.replicate R 0 := fun f => by rw [mixed_zero, range_zeros]
    have HI0 : Hid (Grp3 wc W1.heap.size R g1 g2 g3 gb (mixed f1 (fun _ => 0) R 0) (mixed f2 (fun _ => 0) R 0) (mixed f3 (fun _ => 0) R 0) ∧ Below W1.heap.size W1 wc) := Lib.hid (by rw [hI0, hI0, hI0]; exact HC.out)
    obtain ⟨bl, ol, rfl, hbl, hcl⟩ := HX.out (by
      have := H3.out.all
      have := Stp.oot_lt H3.out ha hb (show 0 < R by omega)
      simp; omega)
    have HL : Hid (∀ W, Below W1.heap.size W1 W → ∀ j, j < N → W.cell? ⟨bl, ol + j, none⟩ = some (.int .i64 ((Stp.plc I N k j : Nat) : Int))) := Lib.hid (fun W hW j hj => by
      have e1 := (below_then B1.out hW).cell (p := ⟨bl, ol + j, none⟩) hbl
      have e2 := hcl j (by simpa using hj)
      rw [getD_range _ hj] at e2
      exact e1.trans e2)
    have HN1 := Lib.hid (fun t ht => Stp.inn_lt H3.out ha hb (t := t) ht)
    have HN3 := Lib.hid (fun t ht => Stp.oot_lt H3.out ha hb (t := t) ht)
    have hM : M ≤ N ∧ L ≤ N := by
      have e := H3.out.all
      have h1 := H3.out.l1
      have h2 := H3.out.m1
      have h3 : M ≤ R * M := Nat.le_mul_of_pos_left M (by omega)
      have h4 : R * M ≤ L * (R * M) := Nat.le_mul_of_pos_left _ h1
      have h5 : L ≤ L * (R * M) := Nat.le_mul_of_pos_right L (Nat.mul_pos (by omega) h2)
      omega
    have haR : a * R ≤ 4096 := by
      have e := H3.out.all
      have h1 := H3.out.l1
      have h3 : a * R ≤ M * R := Nat.mul_le_mul_right R (by omega)
      have h4 : R * M ≤ L * (R * M) := Nat.le_mul_of_pos_left _ h1
      rw [Nat.mul_comm M R] at h3
      omega
    clear hf1 hf2 hf3 hI0 HC hcl HX H3 hmk hti hy0 hy1 hy2
    go_wp2
    clear k0 k1 k2 k3 k4
    go_loopw [27] (fun i wr => ∃ t : Nat, t ≤ R ∧ i = .int .i64 (t : Int) ∧ Hid (Grp3 wr W1.heap.size R g1 g2 g3 gb (mixed f1 (fun _ => 0) R t) (mixed f2 (fun _ => 0) R t) (mixed f3 (fun _ => 0) R t) ∧ Below W1.heap.size W1 wr)) (fun i _ => R - (intOf i).toNat)
    case atStart => exact ⟨0, Nat.zero_le _, rfl, HI0⟩
    case round =>
      clear HI0
      obtain ⟨t, ht, rfl, HI⟩ := hrel
      obtain ⟨W2, rfl⟩ : ∃ W, W = wr := ⟨_, rfl⟩
      have hS := S1.out.then HI.out.2
      obtain ⟨k0, k1, k2, k3, k4⟩ := hS
      dsimp only at k0 k1 k2 k3 k4
      have b0 := HI.out.1.is.c0
      by_cases hlt : t < R
      · have hdt : decide (t < R) = true := decide_eq_true hlt
        have hj1 := HN1.out t hlt
        have hj3 := HN3.out t hlt
        have c1 := HL.out _ HI.out.2 _ hj1
        have fz1 := HI.out.1.o1.melt (mixed_len _ _ _ _) t
        have o1 := HI.out.1.o1.num (mixed_len _ _ _ _) hlt
        rw [mixed_here _ _ hlt] at o1
        have hg1 := (HI.out.1.o1.inside rfl)
        have e1 : f1 t = ((Stp.plc I N k (b + L * (a + M * t)) : Nat) : Int) := by rw [F1.out]
        have e3 : f3 t = ((Stp.plc I N k (b + L * (R * a + t)) : Nat) : Int) := by rw [F3.out]
        have e2 : f2 t = ((a * R + t : Nat) : Int) := by rw [F2.out]
        rw [← e1] at c1
        obtain ⟨q1, hq1⟩ : ∃ q : Nat, q = M * t := ⟨_, rfl⟩
        obtain ⟨s1, hs1⟩ : ∃ s : Nat, s = a + q1 := ⟨_, rfl⟩
        obtain ⟨q2, hq2⟩ : ∃ q : Nat, q = L * s1 := ⟨_, rfl⟩
        obtain ⟨j1, hj1'⟩ : ∃ j : Nat, j = b + q2 := ⟨_, rfl⟩
        rw [← hq1, ← hs1, ← hq2, ← hj1'] at hj1 c1
        have z1 : (M : Int) * (t : Int) = (q1 : Int) := by rw [hq1]; simp
        have z2 : (a : Int) + (q1 : Int) = (s1 : Int) := by rw [hs1]; simp
        have z3 : (L : Int) * (s1 : Int) = (q2 : Int) := by rw [hq2]; simp
        have z4 : (b : Int) + (q2 : Int) = (j1 : Int) := by rw [hj1']; simp
        have bq2 : q2 ≤ 4096 := by omega
        have hLpos : 1 ≤ L := by omega
        have bs1 : s1 ≤ 4096 := by
          have : s1 ≤ L * s1 := Nat.le_mul_of_pos_left _ hLpos
          omega
        have bq1 : q1 ≤ 4096 := by omega
        have dj1 : decide (j1 < N) = true := decide_eq_true hj1
        have hp1 := HI.out.1.put1 (mixed_len _ _ _ _) (mixed_len _ _ _ _) (mixed_len _ _ _ _) t (f1 t)
        rw [mixed_set] at hp1
        have hB1 := HI.out.2.setCell (p := ⟨g1, t, none⟩) hg1.1 (.int .i64 (f1 t))
        obtain ⟨u1, hu1⟩ : ∃ u, u = f1 t := ⟨_, rfl⟩
        rw [← hu1] at c1 hp1 hB1
        have HP1 := Lib.hid hp1
        have HB1 := Lib.hid hB1
        have hM' := hM.1
        have HE3 := Lib.hid e3
        have HE2 := Lib.hid e2
        have HJ3 := Lib.hid hj3
        have hL' := hM.2
        clear hp1 hB1 e1 e2 e3 hq1 hs1 hq2 hj1' hu1 hj3 hM HI
        go_wp2
        refine region_quiet_tail 20 hmx (by kernel_rfl) ?_
        simp only [List.take_succ_cons, List.take_zero, List.drop_succ_cons, List.drop_zero]
        repeat (go_big_quiet_step (fail))
        refine wpQuiet_nil ?_
        rintro w' ⟨nq, rfl⟩
        go_upto_region 6 with fail
        obtain ⟨Wa, hWa⟩ : ∃ W, W = (W2.drewN nq).setCell ⟨g1, t, none⟩ (.int .i64 u1) := ⟨_, rfl⟩
        have HGa : Hid (Grp3 Wa W1.heap.size R g1 g2 g3 gb (mixed f1 (fun _ => 0) R (t + 1)) (mixed f2 (fun _ => 0) R t) (mixed f3 (fun _ => 0) R t)) := Lib.hid (by rw [hWa]; exact HP1.out.draws nq)
        have HBa : Hid (Below W1.heap.size W1 Wa) := Lib.hid (by rw [hWa]; exact below_draws HB1.out nq)
        rw [← hWa]
        clear k0 k1 k2 k3 k4 b0 c1 fz1 o1 hg1 hj1 z1 z2 z3 z4 bq2 bs1 bq1 dj1 HP1 HB1 hWa
        have hS := S1.out.then HBa.out
        obtain ⟨k0, k1, k2, k3, k4⟩ := hS
        dsimp only at k0 k1 k2 k3 k4
        have b1 := HGa.out.is.c1
        have fz1 := HGa.out.o2.melt (mixed_len _ _ _ _) t
        have o1 := HGa.out.o2.num (mixed_len _ _ _ _) hlt
        rw [mixed_here _ _ hlt] at o1
        have hg1 := (HGa.out.o2.inside rfl)
        obtain ⟨q, hq⟩ : ∃ q : Nat, q = a * R := ⟨_, rfl⟩
        have z1 : (a : Int) * (R : Int) = (q : Int) := by rw [hq]; simp
        have e2 := HE2.out
        rw [← hq] at haR e2
        obtain ⟨s, hs⟩ : ∃ s : Nat, s = q + t := ⟨_, rfl⟩
        have z2 : (q : Int) + (t : Int) = (s : Int) := by rw [hs]; simp
        rw [← hs] at e2
        have hp1 := HGa.out.put2 (mixed_len _ _ _ _) (mixed_len _ _ _ _) (mixed_len _ _ _ _) t (f2 t)
        rw [mixed_set, e2] at hp1
        have hB1 := HBa.out.setCell (p := ⟨g2, t, none⟩) hg1.1 (.int .i64 (s : Int))
        have HP1 := Lib.hid hp1
        have HB1 := Lib.hid hB1
        clear hp1 hB1 e2 HGa HBa hs hq
        go_upto_region 7 with fail
        obtain ⟨Wb, hWb⟩ : ∃ W, W = Wa.setCell ⟨g2, t, none⟩ (.int .i64 (s : Int)) := ⟨_, rfl⟩
        rw [← hWb] at HP1 HB1 ⊢
        clear k0 k1 k2 k3 k4 b1 fz1 o1 hg1 z1 z2 hWb
        have hS := S1.out.then HB1.out
        obtain ⟨k0, k1, k2, k3, k4⟩ := hS
        dsimp only at k0 k1 k2 k3 k4
        have b2 := HP1.out.is.c2
        have c1 := HL.out _ HB1.out _ HJ3.out
        have fz1 := HP1.out.o3.melt (mixed_len _ _ _ _) t
        have o1 := HP1.out.o3.num (mixed_len _ _ _ _) hlt
        rw [mixed_here _ _ hlt] at o1
        have hg1 := (HP1.out.o3.inside rfl)
        have hj1 := HJ3.out
        rw [← HE3.out] at c1
        obtain ⟨q1, hq1⟩ : ∃ q : Nat, q = R * a := ⟨_, rfl⟩
        obtain ⟨s1, hs1⟩ : ∃ s : Nat, s = q1 + t := ⟨_, rfl⟩
        obtain ⟨q2, hq2⟩ : ∃ q : Nat, q = L * s1 := ⟨_, rfl⟩
        obtain ⟨j1, hj1'⟩ : ∃ j : Nat, j = b + q2 := ⟨_, rfl⟩
        rw [← hq1, ← hs1, ← hq2, ← hj1'] at hj1 c1
        have z1 : (R : Int) * (a : Int) = (q1 : Int) := by rw [hq1]; simp
        have z2 : (q1 : Int) + (t : Int) = (s1 : Int) := by rw [hs1]; simp
        have z3 : (L : Int) * (s1 : Int) = (q2 : Int) := by rw [hq2]; simp
        have z4 : (b : Int) + (q2 : Int) = (j1 : Int) := by rw [hj1']; simp
        have bq2 : q2 ≤ 4096 := by omega
        have bs1 : s1 ≤ 4096 := by
          have : s1 ≤ L * s1 := Nat.le_mul_of_pos_left _ hLpos
          omega
        have bq1 : q1 ≤ 4096 := by omega
        have dj1 : decide (j1 < N) = true := decide_eq_true hj1
        have hp1 := HP1.out.put3 (mixed_len _ _ _ _) (mixed_len _ _ _ _) (mixed_len _ _ _ _) t (f3 t)
        rw [mixed_set] at hp1
        have hB1 := HB1.out.setCell (p := ⟨g3, t, none⟩) hg1.1 (.int .i64 (f3 t))
        obtain ⟨u3, hu3⟩ : ∃ u, u = f3 t := ⟨_, rfl⟩
        rw [← hu3] at c1 hp1 hB1
        have HP2 := Lib.hid hp1
        have HB2 := Lib.hid hB1
        clear hp1 hB1 hq1 hs1 hq2 hj1' hu3 HP1 HB1 HE2 HE3 HJ3
        go_wp2
        refine region_quiet_tail 20 hmx (by kernel_rfl) ?_
        simp only [List.take_succ_cons, List.take_zero, List.drop_succ_cons, List.drop_zero]
        repeat (go_big_quiet_step (fail))
        refine wpQuiet_nil ?_
        rintro w' ⟨nq2, rfl⟩
        go_wp2
        go_roundw
        case rel => exact ⟨t + 1, hlt, by go_num, Lib.hid ⟨HP2.out.draws _, below_draws HB2.out _⟩⟩
        case measure => simp [intOf]; omega
      · obtain rfl : t = R := by omega
        have b1 := HI.out.1.is.c1
        have b2 := HI.out.1.is.c2
        have hT := T1.out.below HI.out.2 T1.out.lt
        have hne : ∀ {g : Nat}, W1.heap.size ≤ g → g ≠ w.heap.size + 1 := fun hg => by have := T1.out.lt; omega
        have t0 := hT.c0
        have t1 := hT.c1
        have t2 := hT.c2
        have u0 := hT.fr 0
        have u1 := hT.fr 1
        have u2 := hT.fr 2
        have tl := hT.lt
        have HT := Lib.hid (hT.set (.slice (some ⟨g1, 0, none⟩) t t) (.slice (some ⟨g2, 0, none⟩) t t) (.slice (some ⟨g3, 0, none⟩) t t))
        have hR : GpRet w (Stp.stG I N t L M k a b) (.returned (.agg #[.slice (some ⟨g1, 0, none⟩) t t, .slice (some ⟨g2, 0, none⟩) t t, .slice (some ⟨g3, 0, none⟩) t t])) (((W2.setCell ⟨w.heap.size + 1, 0, none⟩ (.slice (some ⟨g1, 0, none⟩) t t)).setCell ⟨w.heap.size + 1, 1, none⟩ (.slice (some ⟨g2, 0, none⟩) t t)).setCell ⟨w.heap.size + 1, 2, none⟩ (.slice (some ⟨g3, 0, none⟩) t t)) := by
          have hl1 : (Stp.stG I N t L M k a b).inn.length = t := by simp [Stp.stG]
          have hl2 : (Stp.stG I N t L M k a b).fac.length = t := by simp [Stp.stG]
          have hl3 : (Stp.stG I N t L M k a b).out.length = t := by simp [Stp.stG]
          have r1 := HI.out.1.o1
          have r2 := HI.out.1.o2
          have r3 := HI.out.1.o3
          rw [mixed_all] at r1 r2 r3
          have i1 := hne (r1.inside rfl).1
          have i2 := hne (r2.inside rfl).1
          have i3 := hne (r3.inside rfl).1
          have m1 : (List.range t).map f1 = Sh.ints (Stp.stG I N t L M k a b).inn := by rw [F1.out]; simp [Stp.stG, Sh.ints]
          have m2 : (List.range t).map f2 = Sh.ints (Stp.stG I N t L M k a b).fac := by rw [F2.out]; simp [Stp.stG, Sh.ints]
          have m3 : (List.range t).map f3 = Sh.ints (Stp.stG I N t L M k a b).out := by rw [F3.out]; simp [Stp.stG, Sh.ints]
          have far : ∀ {g : Nat} {l : List Int}, g ≠ w.heap.size + 1 → l.length = t → Owns .i64 3 W2 W1.heap.size (.slice (some ⟨g, 0, none⟩) t t) l → Owns .i64 3 (((W2.setCell ⟨w.heap.size + 1, 0, none⟩ (.slice (some ⟨g1, 0, none⟩) t t)).setCell ⟨w.heap.size + 1, 1, none⟩ (.slice (some ⟨g2, 0, none⟩) t t)).setCell ⟨w.heap.size + 1, 2, none⟩ (.slice (some ⟨g3, 0, none⟩) t t)) W1.heap.size (.slice (some ⟨g, 0, none⟩) t t) l :=
            fun hg hl ho => ((ho.else hl (ad := ⟨w.heap.size + 1, 0, none⟩) hg _).else hl (ad := ⟨w.heap.size + 1, 1, none⟩) hg _).else hl (ad := ⟨w.heap.size + 1, 2, none⟩) hg _
          refine ⟨some ⟨g1, 0, none⟩, t, some ⟨g2, 0, none⟩, t, some ⟨g3, 0, none⟩, t, by rw [hl1, hl2, hl3], ?_, ?_, ?_, ?_, below_set3 (below_then B1.out HI.out.2) (Nat.le_succ _) _ _ _⟩
          · rw [← m1]; exact (far i1 (by simp) r1).reads
          · rw [← m2]; exact (far i2 (by simp) r2).reads
          · rw [← m3]; exact (far i3 (by simp) r3).reads
          · have hs := B1.out.size
            have a1 := (r1.inside rfl).1
            have a2 := (r2.inside rfl).1
            have a3 := (r3.inside rfl).1
            rintro ad (e | e | e)
            · cases e; exact Nat.le_trans hs a1
            · cases e; exact Nat.le_trans hs a2
            · cases e; exact Nat.le_trans hs a3
        clear HI hT k0 k1 k2 k3 k4
        go_wp2
        refine bodyPost_ret (results_cell_row rfl _ _ (w.heap.size + 1) _ _ _ _ rfl HT.out.is Tryd.underlying78 rfl cells_group) rfl ?_
        exact hR

end Go.Proofs.YtlbfllaaabginaaDoor

/-!   What step.tellLine and tellGroups come to: each group is told once, in order, to whatever function value takes it.
-/

namespace Go.Proofs.YtlbfllaaabginaaDoor
open Go.RowKit Go.Shelf

/-- What lies in a block that is as it was. -/
theorem cell_block {w w' : World} {g o : Nat} (h : w'.heap[g]? = w.heap[g]?) : w'.cell? ⟨g, o, none⟩ = w.cell? ⟨g, o, none⟩ := by simp only [World.cell?, h]
theorem Reads.block {k : IntKind} {w w' : World} {B B' b o : Nat} {xs : List Int} (h : Reads k w B (some ⟨b, o, none⟩) xs) (hb : b < B') (hh : w'.heap[b]? = w.heap[b]?) : Reads k w' B' (some ⟨b, o, none⟩) xs := fun hn => by
  obtain ⟨b', o', e, _, hc⟩ := h hn
  cases e
  exact ⟨b, o, rfl, hb, fun j hj => (cell_block hh).trans (hc j hj)⟩
theorem SpAt.block {w w' : World} {g : Nat} {s : Sp} (h : SpAt w g s) (hh : w'.heap[g]? = w.heap[g]?) : SpAt w' g s :=
  ⟨(cell_block hh).trans h.c0, (cell_block hh).trans h.c1, (cell_block hh).trans h.c2, (cell_block hh).trans h.c3, (cell_block hh).trans h.c4⟩

/-- A function value that takes groups: of those told so far J holds, in blocks F of its own. -/
structure Takes (fid : FuncId) (lb : Array Value) (ok : Nat → Gp → Prop) (J : List Gp → (Nat → Prop) → World → Prop) : Prop where
  enters : ∀ args W, (callFunc fid args).run Tryd.prog W = .ok (.enter fid args) W
  keep : ∀ pre F W W', J pre F W → Below W.heap.size W W' → J pre F W'
  hi : ∀ pre F W, J pre F W → ∀ k, F k → k < W.heap.size
  tell : ∀ pre F W (g : Gp) x1 c1 x2 c2 x3 c3, J pre F W → ok pre.length g → (∀ ad : Addr, (x1 = some ad ∨ x2 = some ad ∨ x3 = some ad) → ¬ F ad.block) → Reads .i64 W W.heap.size x1 (Sh.ints g.inn) → Reads .i64 W W.heap.size x2 (Sh.ints g.fac) → Reads .i64 W W.heap.size x3 (Sh.ints g.out) →
    Calls Tryd.prog fid (#[.agg #[.slice x1 g.inn.length c1, .slice x2 g.fac.length c2, .slice x3 g.out.length c3]] ++ lb) W fun e W' => e = .returned (.tuple #[]) ∧ ∃ F', J (pre ++ [g]) F' W' ∧ But F W W' ∧ ∀ k, F' k → F k ∨ W.heap.size ≤ k

/-- What has been told since w. -/
def Toldx (J : List Gp → (Nat → Prop) → World → Prop) (w : World) (F : Nat → Prop) (gs : List Gp) (wr : World) : Prop := ∃ F', J gs F' wr ∧ But F w wr ∧ ∀ k, F' k → F k ∨ w.heap.size ≤ k
section
variable {fid : FuncId} {lb : Array Value} {ok : Nat → Gp → Prop} {J : List Gp → (Nat → Prop) → World → Prop} {w wr w' : World} {F : Nat → Prop} {gs : List Gp}
theorem Toldx.start (h : J gs F w) : Toldx J w F gs w := ⟨F, h, But.refl _ _, fun _ hk => .inl hk⟩
theorem Toldx.size (h : Toldx J w F gs wr) : w.heap.size ≤ wr.heap.size := by obtain ⟨_, _, h2, _⟩ := h; exact h2.size
theorem Toldx.quiet (H : Takes fid lb ok J) (h : Toldx J w F gs wr) (hb : Below wr.heap.size wr w') : Toldx J w F gs w' := by
  obtain ⟨F', h1, h2, h3⟩ := h
  exact ⟨F', H.keep _ _ _ _ h1 hb, h2.trans (But.of_below (F := fun _ => False) hb) (fun _ _ c => c.elim), h3⟩
theorem Toldx.block (h : Toldx J w F gs wr) {g : Nat} (hg : g < w.heap.size) (hn : ¬ F g) : wr.heap[g]? = w.heap[g]? := by
  obtain ⟨_, _, h2, _⟩ := h
  exact h2.block g hg hn
/-- One more. -/
theorem Toldx.tell (H : Takes fid lb ok J) (h : Toldx J w F gs w') (hb : Below w'.heap.size w' wr) {g : Gp} (hg : ok gs.length g) (x1 x2 x3 : Option Addr) (c1 c2 c3 : Nat) (ho : Own3 w'.heap.size x1 x2 x3) (r1 : Reads .i64 wr wr.heap.size x1 (Sh.ints g.inn)) (r2 : Reads .i64 wr wr.heap.size x2 (Sh.ints g.fac)) (r3 : Reads .i64 wr wr.heap.size x3 (Sh.ints g.out)) :
    Calls Tryd.prog fid (#[.agg #[.slice x1 g.inn.length c1, .slice x2 g.fac.length c2, .slice x3 g.out.length c3]] ++ lb) wr fun e W' => e = .returned (.tuple #[]) ∧ Toldx J w F (gs ++ [g]) W' := by
  obtain ⟨F', h1, h2, h3⟩ := h
  have hs := hb.size
  have hs' := h2.size
  refine (H.tell gs F' wr g x1 c1 x2 c2 x3 c3 (H.keep _ _ _ _ h1 hb) hg (fun ad e c => by have := ho ad e; have := H.hi _ _ _ h1 _ c; omega) r1 r2 r3).mono ?_
  rintro e W' ⟨rfl, F2, k1, k2, k3⟩
  refine ⟨rfl, F2, k1, (h2.trans (But.of_below (F := fun _ => False) hb) (fun _ _ c => c.elim)).trans k2 (fun k hk hf => (h3 k hf).elim id (fun c => by omega)), fun k hk => ?_⟩
  rcases k3 k hk with c | c
  · exact h3 k c
  · exact .inr (by omega)
end

/-- What tellLine and tellGroups return: nothing, and all groups told. -/
def ToldRet (J : List Gp → (Nat → Prop) → World → Prop) (w : World) (F : Nat → Prop) (gs : List Gp) (e : Ending) (w' : World) : Prop := e = .returned (.tuple #[]) ∧ Toldx J w F gs w'
theorem Toldx.from {J : List Gp → (Nat → Prop) → World → Prop} {w w1 wr : World} {F : Nat → Prop} {gs : List Gp} (h : Toldx J w1 F gs wr) (hb : Below w.heap.size w w1) : Toldx J w F gs wr := by
  obtain ⟨F', h1, h2, h3⟩ := h
  exact ⟨F', h1, (But.of_below (F := F) hb).trans h2 (fun _ _ c => c), fun k hk => (h3 k hk).imp id (fun c => Nat.le_trans hb.size c)⟩

set_option maxRecDepth 100000 in
set_option maxHeartbeats 4000000 in
theorem tellLine_any {fid : FuncId} {lb : Array Value} {ok : Nat → Gp → Prop} {J : List Gp → (Nat → Prop) → World → Prop} (H : Takes fid lb ok J) (I N k : Nat) (ax : Int) (tw : Bool) (R L M : Nat) (gl ol cap : Nat) (pre : List Gp) (F : Nat → Prop) (w : World)
    (h3 : Stp.Three N R L M) (hN : N ≤ 4096) (hx : Reads .i64 w w.heap.size (some ⟨gl, ol, none⟩) ((List.range N).map fun j => ((Stp.plc I N k j : Nat) : Int))) (hgl : gl < w.heap.size) (hF : ¬ F gl) (hJ : J pre F w) (hok : ∀ a b, a < M → b < L → ok (pre.length + (a * L + b)) (Stp.stG I N R L M k a b)) :
    Calls Tryd.prog 77 #[.slice (some ⟨gl, ol, none⟩) N cap, .agg #[.int .i64 ax, .bool tw, .int .i64 (R : Int), .int .i64 (L : Int), .int .i64 (M : Int)], .func (.func fid) #[] lb] w (ToldRet J w F (pre ++ Stp.gpA I N R L M k M)) := by
  have hE := H.enters
  have HH := Lib.hid H
  have hb0 : Below w.heap.size w (w.alloc (.cells #[.int .i64 ax, .bool tw, .int .i64 (R : Int), .int .i64 (L : Int), .int .i64 (M : Int)] 49)) := below_al (Below.refl _ _) _
  obtain ⟨W1, hW1⟩ : ∃ W, W = w.alloc (.cells #[.int .i64 ax, .bool tw, .int .i64 (R : Int), .int .i64 (L : Int), .int .i64 (M : Int)] 49) := ⟨_, rfl⟩
  have hS1 : SpAt W1 w.heap.size ⟨ax, tw, ⟨R, L, M⟩⟩ := by rw [hW1]; exact SpAt.new w 49 ⟨ax, tw, ⟨R, L, M⟩⟩
  have hz : W1.heap.size = w.heap.size + 1 := by rw [hW1, World.size_alloc]
  rw [← hW1] at hb0
  have hnb : ¬ F w.heap.size := fun c => by have := H.hi _ _ _ hJ _ c; omega
  have HB := Lib.hid hb0
  have HT0 := Lib.hid (Toldx.start (H.keep _ _ _ _ hJ hb0))
  have HS : Hid (∀ {gs : List Gp} {W : World}, Toldx J W1 F gs W → SpAt W w.heap.size ⟨ax, tw, ⟨R, L, M⟩⟩) := Lib.hid (fun hT => hS1.block (hT.block (by omega) hnb))
  have HX : Hid (∀ {gs : List Gp} {W : World}, Toldx J W1 F gs W → Reads .i64 W W.heap.size (some ⟨gl, ol, none⟩) ((List.range N).map fun j => ((Stp.plc I N k j : Nat) : Int))) :=
    Lib.hid (fun hT => (hx.below hb0).block (by have := hT.size; omega) (hT.block (by omega) hF))
  have HG := Lib.hid (fun a b (ha : a < M) (hb : b < L) W hr => stageGroup_any I N k ax tw R L M a b (some ⟨gl, ol, none⟩) cap W h3 hN ha hb hr)
  have HO := Lib.hid hok
  have hMN : M ≤ 4096 ∧ L ≤ 4096 := by
    have e := h3.all
    have h1 := h3.l1
    have h2 := h3.m1
    have h0 := h3.r2
    have h3' : M ≤ R * M := Nat.le_mul_of_pos_left M (by omega)
    have h4 : R * M ≤ L * (R * M) := Nat.le_mul_of_pos_left _ h1
    have h5 : L ≤ L * (R * M) := Nat.le_mul_of_pos_right L (Nat.mul_pos (by omega) h2)
    omega
  have HA : Hid (∀ a, Stp.gpA I N R L M k (a + 1) = Stp.gpA I N R L M k a ++ Stp.gpB I N R L M k a L) := Lib.hid (fun a => Stp.gpA_next I N R L M k a)
  have HBn : Hid (∀ a b, Stp.gpB I N R L M k a (b + 1) = Stp.gpB I N R L M k a b ++ [Stp.stG I N R L M k a b]) := Lib.hid (fun a b => Stp.gpB_next I N R L M k a b)
  have HA0 : Hid (Stp.gpA I N R L M k 0 = []) := Lib.hid rfl
  have HB0 : Hid (∀ a, Stp.gpB I N R L M k a 0 = []) := Lib.hid (fun _ => rfl)
  have HLn : Hid (∀ a b, (pre ++ Stp.gpA I N R L M k a ++ Stp.gpB I N R L M k a b).length = pre.length + (a * L + b)) := Lib.hid (fun a b => by rw [List.length_append, List.length_append, Stp.gpA_len, Stp.gpB_len, Nat.add_assoc])
  generalize Stp.stG I N R L M k = sg at HG HO HBn
  generalize Stp.gpA I N R L M k = ga at HA HA0 HLn ⊢
  generalize Stp.gpB I N R L M k = gb at HA HBn HB0 HLn
  clear hx h3 hJ hok H hS1 hb0 hgl hF hnb hz
  go_enter Tryd.func77, Tryd.ntmps77
  go_upto_region 1 with fail
  rw [← hW1]
  clear hW1
  obtain ⟨k0, k1, k2, k3, k4⟩ := HS.out HT0.out
  dsimp only at k0 k1 k2 k3 k4
  go_wp2
  clear k0 k1 k2 k3 k4
  go_loopw [11] (fun i wr => ∃ a : Nat, a ≤ M ∧ i = .int .i64 (a : Int) ∧ Hid (Toldx J W1 F (pre ++ ga a) wr)) (fun i _ => M - (intOf i).toNat)
  case atStart => exact ⟨0, Nat.zero_le _, rfl, Lib.hid (by rw [HA0.out, List.append_nil]; exact HT0.out)⟩
  case round =>
    clear HT0
    obtain ⟨a, ha, rfl, HI⟩ := hrel
    by_cases hlt : a < M
    · have hda : decide (a < M) = true := decide_eq_true hlt
      obtain ⟨k0, k1, k2, k3, k4⟩ := HS.out HI.out
      dsimp only at k0 k1 k2 k3 k4
      go_wp2
      clear k0 k1 k2 k3 k4
      go_loopw [17] (fun i wi => ∃ b : Nat, b ≤ L ∧ i = .int .i64 (b : Int) ∧ Hid (Toldx J W1 F (pre ++ ga a ++ gb a b) wi)) (fun i _ => L - (intOf i).toNat)
      case atStart => exact ⟨0, Nat.zero_le _, rfl, Lib.hid (by rw [HB0.out, List.append_nil]; exact HI.out)⟩
      case round =>
        clear HI
        obtain ⟨b, hb, rfl, HI⟩ := hrel
        by_cases hlb : b < L
        · have hdb : decide (b < L) = true := decide_eq_true hlb
          obtain ⟨k0, k1, k2, k3, k4⟩ := HS.out HI.out
          dsimp only at k0 k1 k2 k3 k4
          have HG1 := Lib.hid (HG.out a b hlt hlb wr (HX.out HI.out))
          have HO1 : Hid (ok (pre ++ ga a ++ gb a b).length (sg a b)) := Lib.hid (by rw [HLn.out]; exact HO.out a b hlt hlb)
          have HB1 := Lib.hid (HBn.out a b)
          obtain ⟨g, hg⟩ : ∃ g, g = sg a b := ⟨_, rfl⟩
          rw [← hg] at HG1 HO1 HB1
          clear hg
          go_wp2_with (first
            | (go_at_call 98; refine HG1.out.mono ?_; rintro e w2 ⟨x1, c1, x2, c2, x3, c3, rfl, r1, r2, r3, ho3, hB2⟩; have HT2 := Lib.hid (HI.out.tell HH.out hB2 HO1.out x1 x2 x3 c1 c2 c3 ho3 r1 r2 r3); clear r1 r2 r3 ho3 hB2 k0 k1 k2 k3 k4)
            | (go_at_fn fid; refine HT2.out.mono ?_; rintro e w3 ⟨rfl, hT3⟩; have HT3 := Lib.hid hT3; clear hT3))
          go_roundw
          case rel => exact ⟨b + 1, hlb, by go_num, Lib.hid (by rw [HB1.out, ← List.append_assoc]; exact HT3.out)⟩
          case measure => simp [intOf]; omega
        · obtain rfl : b = L := by omega
          go_wp2
          go_roundw
          case rel => exact ⟨a + 1, hlt, by go_num, Lib.hid (by rw [HA.out, ← List.append_assoc]; exact HI.out)⟩
          case measure => simp [intOf]; omega
    · obtain rfl : a = M := by omega
      have hR : ToldRet J w F (pre ++ ga a) (.returned (.tuple #[])) wr := ⟨rfl, HI.out.from HB.out⟩
      clear HI
      go_wp2
      go_end0
      exact hR

end Go.Proofs.YtlbfllaaabginaaDoor

/-!   What step.tellGroups comes to.
-/

namespace Go.Proofs.YtlbfllaaabginaaDoor
open Go.RowKit Go.Shelf

theorem ints_getD (l : List Nat) (k : Nat) : (Sh.ints l).getD k 0 = ((l.getD k 0 : Nat) : Int) := by
  unfold Sh.ints
  rw [List.getD_eq_getElem?_getD, List.getD_eq_getElem?_getD, List.getElem?_map]
  cases l[k]? <;> rfl

section
variable {fid : FuncId} {lb : Array Value} {ok : Nat → Gp → Prop} {J : List Gp → (Nat → Prop) → World → Prop} {w w2 : World} {F : Nat → Prop} {gs : List Gp}
/-- A group of three lists of one place each. -/
theorem Toldx.three (H : Takes fid lb ok J) (h : Toldx J w F gs w2) (i c : Nat) (hg : ok gs.length ⟨[i], [c], [i]⟩) :
    Calls Tryd.prog fid (#[.agg #[.slice (some ⟨w2.heap.size, 0, none⟩) 1 1, .slice (some ⟨w2.heap.size + 1, 0, none⟩) 1 1, .slice (some ⟨w2.heap.size + 1 + 1, 0, none⟩) 1 1]] ++ lb)
      (((w2.alloc (.cells #[.int .i64 (i : Int)] 3)).alloc (.cells #[.int .i64 (c : Int)] 3)).alloc (.cells #[.int .i64 (i : Int)] 3)) fun e W' => e = .returned (.tuple #[]) ∧ Toldx J w F (gs ++ [⟨[i], [c], [i]⟩]) W' := by
  have q1 := owns_one w2 .i64 3 (i : Int) 0 (Nat.zero_le _)
  have q2 := owns_one (w2.alloc (.cells #[.int .i64 (i : Int)] 3)) .i64 3 (c : Int) 0 (Nat.zero_le _)
  have q3 := owns_one ((w2.alloc (.cells #[.int .i64 (i : Int)] 3)).alloc (.cells #[.int .i64 (c : Int)] 3)) .i64 3 (i : Int) 0 (Nat.zero_le _)
  rw [World.size_alloc] at q2
  rw [World.size_alloc, World.size_alloc] at q3
  have hb : Below w2.heap.size w2 (((w2.alloc (.cells #[.int .i64 (i : Int)] 3)).alloc (.cells #[.int .i64 (c : Int)] 3)).alloc (.cells #[.int .i64 (i : Int)] 3)) := below_al (below_al (below_al (Below.refl _ _) _) _) _
  exact h.tell H hb hg _ _ _ 1 1 1 (by rintro ad (e | e | e) <;> cases e <;> dsimp only <;> omega) ((q1.alloc _).alloc _).reads (q2.alloc _).reads q3.reads
end

theorem Toldx.split {ok : Nat → Gp → Prop} {J : List Gp → (Nat → Prop) → World → Prop} {w wr : World} {F : Nat → Prop} {gs : List Gp} {fid : FuncId} {lb : Array Value} (H : Takes fid lb ok J) (h : Toldx J w F gs wr) :
    ∃ F', (∀ w4, Below wr.heap.size wr w4 → J gs F' w4) ∧ (∀ g, wr.heap.size ≤ g → ¬ F' g) ∧ ∀ w4, Below wr.heap.size wr w4 → ∀ gs' w5, Toldx J w4 F' gs' w5 → Toldx J w F gs' w5 := by
  obtain ⟨F', h1, h2, h3⟩ := h
  refine ⟨F', fun w4 hb => H.keep _ _ _ _ h1 hb, fun g hg c => by have := H.hi _ _ _ h1 g c; omega, fun w4 hb gs' w5 h5 => ?_⟩
  obtain ⟨F2, k1, k2, k3⟩ := h5
  have hs := h2.size
  have hs4 := hb.size
  refine ⟨F2, k1, (h2.trans (But.of_below (F := fun _ => False) hb) (fun _ _ c => c.elim)).trans k2 (fun k hk hf => (h3 k hf).elim id (fun c => by omega)), fun k hk => ?_⟩
  rcases k3 k hk with c | c
  · exact h3 k c
  · exact .inr (by omega)

set_option maxRecDepth 100000 in
set_option maxHeartbeats 4000000 in
theorem tellGroups_any {fid : FuncId} {lb : Array Value} {ok : Nat → Gp → Prop} {J : List Gp → (Nat → Prop) → World → Prop} (H : Takes fid lb ok J) (p : Int) (xa : List Ax) (s : Sp) (bx ox n cap : Nat) (F : Nat → Prop) (w : World) (h : Stp.Sok p xa s)
    (hx : Reads .i64 w w.heap.size (some ⟨bx, ox, none⟩) (dims xa)) (hbx : bx < w.heap.size) (hn : xa.length = n) (hc : n ≤ cap) (hF : ¬ F bx) (hJ : J [] F w) (hok : ∀ k, k < 4096 → ∀ g ∈ Stp.grp xa s, ok k g) :
    Calls Tryd.prog 52 #[.slice (some ⟨bx, ox, none⟩) n cap, spV s, .func (.func fid) #[] lb] w (ToldRet J w F (Stp.grp xa s)) := by
  subst hn
  obtain ⟨ax, tw, t⟩ := s
  have hE := H.enters
  have HH := Lib.hid H
  have hlo := h.lo
  have hhi := h.hi
  dsimp only at hlo hhi
  obtain ⟨a, rfl⟩ : ∃ a : Nat, ax = (a : Int) := ⟨ax.toNat, by omega⟩
  rw [Int.toNat_natCast] at hhi
  have hP := h.ax.ok.le
  have hax := h.ax
  have hb0 : Below w.heap.size w (w.alloc (.cells #[.int .i64 (a : Int), .bool tw, .int .i64 t.r, .int .i64 t.l, .int .i64 t.m] 49)) := below_al (Below.refl _ _) _
  obtain ⟨W1, hW1⟩ : ∃ W, W = w.alloc (.cells #[.int .i64 (a : Int), .bool tw, .int .i64 t.r, .int .i64 t.l, .int .i64 t.m] 49) := ⟨_, rfl⟩
  have hS1 : SpAt W1 w.heap.size ⟨(a : Int), tw, t⟩ := by rw [hW1]; exact SpAt.new w 49 ⟨(a : Int), tw, t⟩
  have hz : W1.heap.size = w.heap.size + 1 := by rw [hW1, World.size_alloc]
  rw [← hW1] at hb0
  have hnb : ¬ F w.heap.size := fun c => by have := H.hi _ _ _ hJ _ c; omega
  have HB := Lib.hid hb0
  have HT0 := Lib.hid (Toldx.start (H.keep _ _ _ _ hJ hb0))
  have HS : Hid (∀ {gs : List Gp} {W : World}, Toldx J W1 F gs W → SpAt W w.heap.size ⟨(a : Int), tw, t⟩) := Lib.hid (fun hT => hS1.block (hT.block (by omega) hnb))
  have HX : Hid (∀ {gs : List Gp} {W : World}, Toldx J W1 F gs W → Reads .i64 W W.heap.size (some ⟨bx, ox, none⟩) (Sh.ints (szs xa))) :=
    Lib.hid (fun hT => by rw [← hax.is]; exact (hx.below hb0).block (by have := hT.size; omega) (hT.block (by omega) hF))
  have HAll := Lib.hid (fun (gs : List Gp) (W : World) (hT : Toldx J W1 F gs W) => all_ok (szs xa) hax.ok (some ⟨bx, ox, none⟩) xa.length cap W W.heap.size (HX.out hT) (szs_len xa))
  have hP1 := hax.ok.here
  have HW1 := Lib.hid hW1
  clear hx hJ hb0 hF hnb H hlo
  cases tw
  · obtain ⟨R, L, M, rfl, h3, hle, hd⟩ := sok_st h rfl
    rw [Int.toNat_natCast] at h3
    have hl4 := hax.L_le hhi
    have hl1 := hax.L hhi
    have hgr : Stp.grp xa ⟨(a : Int), false, ⟨(R : Int), (L : Int), (M : Int)⟩⟩ = Stp.gpK (gI xa a) (gL xa a) R L M (Sh.prod (szs xa) / gL xa a) := by
      rw [Stp.grp_all rfl]
      dsimp only
      rw [Int.toNat_natCast, Int.toNat_natCast, Int.toNat_natCast, Int.toNat_natCast]
    have hok' : ∀ k, k < Sh.prod (szs xa) / gL xa a → ∀ a' b, a' < M → b < L → ok ((Stp.gpK (gI xa a) (gL xa a) R L M k).length + (a' * L + b)) (Stp.stG (gI xa a) (gL xa a) R L M k a' b) := fun k hk a' b ha' hb' => hok _ (by
      rw [Stp.gpK_len]
      have := Stp.gp_count h3 (Nat.div_mul_le_self (Sh.prod (szs xa)) (gL xa a)) hk ha' hb'
      omega) _ ((Stp.mem_st rfl).2 ⟨k, a', b, by simpa using hk, by simpa using ha', by simpa using hb', by simp⟩)
    rw [hgr]
    have HLi := Lib.hid (fun (k : Nat) (hk : k < Sh.prod (szs xa) / gL xa a) (gs : List Gp) (W : World) (hT : Toldx J W1 F gs W) => line_ok (szs xa) hax.ok a k (by rw [szs_len]; exact hhi) hk (some ⟨bx, ox, none⟩) xa.length cap W W.heap.size (HX.out hT) (szs_len xa) hc)
    have HTl := Lib.hid (fun (k : Nat) (hk : k < Sh.prod (szs xa) / gL xa a) (gl ol cp : Nat) (F' : Nat → Prop) (W : World) hr hgl hF' hJ' => tellLine_any HH.out (gI xa a) (gL xa a) k (a : Int) false R L M gl ol cp (Stp.gpK (gI xa a) (gL xa a) R L M k) F' W h3 hl4 hr hgl hF' hJ' (hok' k hk))
    have HLe : Hid (∀ k, lineOf (szs xa) a k = (List.range (gL xa a)).map fun j => ((Stp.plc (gI xa a) (gL xa a) k j : Nat) : Int)) := Lib.hid (fun _ => rfl)
    have HLl : Hid (∀ k, (lineOf (szs xa) a k).length = gL xa a) := Lib.hid (fun (k : Nat) => lineOf_len (szs xa) a k)
    have HGn : Hid (∀ k, Stp.gpK (gI xa a) (gL xa a) R L M (k + 1) = Stp.gpK (gI xa a) (gL xa a) R L M k ++ Stp.gpA (gI xa a) (gL xa a) R L M k M) := Lib.hid (fun k => Stp.gpK_next _ _ R L M k)
    have HG0 : Hid (Stp.gpK (gI xa a) (gL xa a) R L M 0 = []) := Lib.hid rfl
    have HDi : Hid (∀ {gs : List Gp} {W : World}, Toldx J W1 F gs W → W.cell? ⟨bx, ox + a, none⟩ = some (.int .i64 ((gL xa a : Nat) : Int))) := Lib.hid (fun hT => by
      obtain ⟨b', o', e, _, hcx⟩ := (HX.out hT) (by rw [Sh.ints_len, szs_len]; omega)
      cases e
      have := hcx a (by rw [Sh.ints_len, szs_len]; omega)
      rwa [ints_getD] at this)
    obtain ⟨N, hN⟩ : ∃ N, N = gL xa a := ⟨_, rfl⟩
    obtain ⟨P, hPd⟩ : ∃ P, P = Sh.prod (szs xa) := ⟨_, rfl⟩
    obtain ⟨K, hK⟩ : ∃ K, K = P / N := ⟨_, rfl⟩
    have q1 : (P : Int) / (N : Int) = (K : Int) := by rw [hK]; exact cast_div P N
    have q2 : (N : Int) ≠ 0 := by omega
    have q3 : K ≤ P := by rw [hK]; exact Nat.div_le_self _ _
    rw [← hN] at hl1 hl4 HLi HTl HLe HLl HGn HG0 HDi ⊢
    rw [← hPd] at HLi HTl HAll hP hP1 ⊢
    rw [← hK] at HLi HTl ⊢
    generalize gI xa a = I at HTl HLe HGn HG0 ⊢
    generalize Stp.gpK I N R L M = gk at HGn HG0 HTl ⊢
    have hsz : W1.heap.size ≤ W1.heap.size := Nat.le_refl _
    have q4 : decide (a < xa.length) = true := decide_eq_true hhi
    obtain ⟨k0, k1, k2, k3, k4⟩ := HS.out HT0.out
    have d0 := HDi.out HT0.out
    dsimp only at k0 k1 k2 k3 k4
    unfold spV
    dsimp only
    clear hok hok' hgr h3 hle hd hN hPd hK hax h hz hbx hS1 hW1
    go_enter Tryd.func52, Tryd.ntmps52
    go_upto_region 1 with fail
    rw [← HW1.out]
    clear HW1
    go_wp2_with (go_at_call 51; refine (HAll.out _ _ HT0.out).mono ?_; rintro e w' ⟨rfl, rfl⟩)
    clear k0 k1 k2 k3 k4 d0 HAll
    go_loopw [52] (fun i wr => ∃ k : Nat, k ≤ K ∧ i = .int .i64 (k : Int) ∧ Hid (Toldx J W1 F (gk k) wr)) (fun i _ => K - (intOf i).toNat)
    case atStart => exact ⟨0, Nat.zero_le _, rfl, Lib.hid (by rw [HG0.out]; exact HT0.out)⟩
    case round =>
      clear HT0
      obtain ⟨k, hk, rfl, HI⟩ := hrel
      by_cases hlt : k < K
      · have hdk : decide (k < K) = true := decide_eq_true hlt
        obtain ⟨k0, k1, k2, k3, k4⟩ := HS.out HI.out
        dsimp only at k0 k1 k2 k3 k4
        have HC := Lib.hid (HLi.out k hlt _ _ HI.out)
        have hsp := HI.out.split HH.out
        obtain ⟨F', hF1, hF2, hF3⟩ := hsp
        have HF1 := Lib.hid hF1
        have HF2 := Lib.hid hF2
        have HF3 := Lib.hid hF3
        clear hF1 hF2 hF3
        go_wp2_with (first
          | (go_at_call 74; refine HC.out.mono ?_; intro e w4 hr; obtain ⟨g, cp, rfl, hg1, hg2, hcp, -, hOp, -, b4⟩ := hr.open (HLl.out k) (by omega); clear k0 k1 k2 k3 k4; obtain ⟨k0, k1, k2, k3, k4⟩ := HS.out (HI.out.quiet HH.out b4); dsimp only at k0 k1 k2 k3 k4; rw [HLe.out] at hOp; have T4 := Lib.hid (HTl.out k hlt g 0 cp F' w4 hOp.reads hg2 (HF2.out g hg1) (HF1.out w4 b4)); have HF4 := Lib.hid (HF3.out w4 b4); clear hr hOp b4)
          | (go_at_call 77; refine T4.out.mono ?_; rintro e w5 ⟨rfl, hT5⟩; have HT5 := Lib.hid (HF4.out _ _ hT5); clear hT5))
        go_roundw
        case rel => exact ⟨k + 1, hlt, by go_num, Lib.hid (by rw [HGn.out]; exact HT5.out)⟩
        case measure => simp [intOf]; omega
      · obtain rfl : k = K := by omega
        have hR : ToldRet J w F (gk k) (.returned (.tuple #[])) wr := ⟨rfl, HI.out.from HB.out⟩
        clear HI
        go_wp2
        go_end0
        exact hR
  · have hgr : Stp.grp xa ⟨(a : Int), true, t⟩ = Stp.gpT (gI xa a) (gL xa a) (Sh.prod (szs xa)) := by
      rw [Stp.grp_tws rfl]
      dsimp only
      rw [Int.toNat_natCast]
    have hok' : ∀ i, i < Sh.prod (szs xa) → ok (Stp.gpT (gI xa a) (gL xa a) i).length ⟨[i], [i / gI xa a % gL xa a], [i]⟩ := fun i hi => hok _ (by rw [Stp.gpT_len]; omega) _ ((Stp.mem_tw rfl).2 ⟨i, hi, by dsimp only; rw [Int.toNat_natCast]; rfl⟩)
    rw [hgr]
    have HCo := Lib.hid (fun (i : Nat) (hi : i < Sh.prod (szs xa)) (gs : List Gp) (W : World) (hT : Toldx J W1 F gs W) => coord_ok (szs xa) hax.ok i hi (some ⟨bx, ox, none⟩) xa.length cap W (HX.out hT) (szs_len xa))
    have HCl : Hid (∀ i, (Sh.ints (Sh.crd (szs xa) i)).length = xa.length) := Lib.hid (fun i => by rw [Sh.ints_len, Sh.crd_len, szs_len])
    have HCg : Hid (∀ i, (Sh.ints (Sh.crd (szs xa) i)).getD a 0 = ((i / gI xa a % gL xa a : Nat) : Int)) := Lib.hid (fun i => by rw [ints_getD, Sh.crd_get _ _ _ (by rw [szs_len]; exact hhi)]; rfl)
    have HO := Lib.hid hok'
    have HGn : Hid (∀ i, Stp.gpT (gI xa a) (gL xa a) (i + 1) = Stp.gpT (gI xa a) (gL xa a) i ++ [⟨[i], [i / gI xa a % gL xa a], [i]⟩]) := Lib.hid (fun i => Stp.gpT_next _ _ i)
    have HG0 : Hid (Stp.gpT (gI xa a) (gL xa a) 0 = []) := Lib.hid rfl
    obtain ⟨P, hPd⟩ : ∃ P, P = Sh.prod (szs xa) := ⟨_, rfl⟩
    rw [← hPd] at HCo HO HAll hP hP1 ⊢
    generalize Stp.gpT (gI xa a) (gL xa a) = gk at HGn HG0 HO ⊢
    obtain ⟨cf, hcf⟩ : ∃ cf : Nat → Nat, cf = fun i => i / gI xa a % gL xa a := ⟨_, rfl⟩
    have HO' : Hid (∀ i, i < P → ok (gk i).length ⟨[i], [cf i], [i]⟩) := Lib.hid (by rw [hcf]; exact HO.out)
    have HGn' : Hid (∀ i, gk (i + 1) = gk i ++ [⟨[i], [cf i], [i]⟩]) := Lib.hid (by rw [hcf]; exact HGn.out)
    have HCg' : Hid (∀ i, (Sh.ints (Sh.crd (szs xa) i)).getD a 0 = ((cf i : Nat) : Int)) := Lib.hid (by rw [hcf]; exact HCg.out)
    have q4 : decide (a < xa.length) = true := decide_eq_true hhi
    obtain ⟨k0, k1, k2, k3, k4⟩ := HS.out HT0.out
    dsimp only at k0 k1 k2 k3 k4
    unfold spV
    dsimp only
    clear hok hok' hgr hPd hax h hz hbx hS1 hW1 HO HGn HCg hcf
    go_enter Tryd.func52, Tryd.ntmps52
    go_upto_region 1 with fail
    rw [← HW1.out]
    clear HW1
    go_wp2_with (go_at_call 51; refine (HAll.out _ _ HT0.out).mono ?_; rintro e w' ⟨rfl, rfl⟩)
    clear k0 k1 k2 k3 k4 HAll
    go_loopw [22] (fun i wr => ∃ k : Nat, k ≤ P ∧ i = .int .i64 (k : Int) ∧ Hid (Toldx J W1 F (gk k) wr)) (fun i _ => P - (intOf i).toNat)
    case atStart => exact ⟨0, Nat.zero_le _, rfl, Lib.hid (by rw [HG0.out]; exact HT0.out)⟩
    case round =>
      clear HT0
      obtain ⟨k, hk, rfl, HI⟩ := hrel
      by_cases hlt : k < P
      · have hdk : decide (k < P) = true := decide_eq_true hlt
        have HC := Lib.hid (HCo.out k hlt _ _ HI.out)
        have HOk := Lib.hid (HO'.out k hlt)
        have HCk := Lib.hid (HCg'.out k)
        have HGk := Lib.hid (HGn'.out k)
        obtain ⟨c, hc'⟩ : ∃ c, c = cf k := ⟨_, rfl⟩
        rw [← hc'] at HOk HCk HGk
        clear hc'
        go_wp2_with (first
          | (go_at_call 76; refine HC.out.mono ?_; intro e w4 hr; obtain ⟨g, cp, rfl, hg1, hg2, hcp, -, hOp, -, b4⟩ := hr.open (HCl.out k) (by omega); have HI4 := Lib.hid (HI.out.quiet HH.out b4); obtain ⟨k0, k1, k2, k3, k4⟩ := HS.out HI4.out; dsimp only at k0 k1 k2 k3 k4; have hlw : w.heap.size < w4.heap.size := World.block_lt_of_cell? _ _ k0; have c0 := hOp.cell a (by rw [HCl.out]; exact hhi); rw [HCk.out] at c0; have HT4 := Lib.hid (HI4.out.three HH.out k c HOk.out); clear hr hOp b4)
          | (go_at_fn fid; refine HT4.out.mono ?_; rintro e w5 ⟨rfl, hT5⟩; have HT5 := Lib.hid hT5; clear hT5))
        go_roundw
        case rel => exact ⟨k + 1, hlt, by go_num, Lib.hid (by rw [HGk.out]; exact HT5.out)⟩
        case measure => simp [intOf]; omega
      · obtain rfl : k = P := by omega
        have hR : ToldRet J w F (gk k) (.returned (.tuple #[])) wr := ⟨rfl, HI.out.from HB.out⟩
        clear HI
        go_wp2
        go_end0
        exact hR

end Go.Proofs.YtlbfllaaabginaaDoor

/-!   Rows of groups of the call's own: each holds three lists, wherever they lie but in some blocks.
-/

namespace Go.Proofs.YtlbfllaaabginaaDoor
open Go.RowKit

/-- A list of places that lies in no block of F. -/
def RdsF (w : World) (F : Nat → Prop) (x : Option Addr) (xs : List Int) : Prop :=
  0 < xs.length → ∃ b off, x = some ⟨b, off, none⟩ ∧ b < w.heap.size ∧ ¬ F b ∧ ∀ j, j < xs.length → w.cell? ⟨b, off + j, none⟩ = some (.int .i64 (xs.getD j 0))
theorem Reads.rdsF {w : World} {F : Nat → Prop} {x : Option Addr} {xs : List Int} (h : Reads .i64 w w.heap.size x xs) (hn : ∀ ad : Addr, x = some ad → ¬ F ad.block) : RdsF w F x xs := fun h0 => by
  obtain ⟨b, off, e, hb, hc⟩ := h h0
  exact ⟨b, off, e, hb, hn _ e, hc⟩
theorem RdsF.reads {w : World} {F : Nat → Prop} {x : Option Addr} {xs : List Int} (h : RdsF w F x xs) : Reads .i64 w w.heap.size x xs := fun h0 => by
  obtain ⟨b, off, e, hb, _, hc⟩ := h h0
  exact ⟨b, off, e, hb, hc⟩
theorem RdsF.but {w w' : World} {F F2 : Nat → Prop} {x : Option Addr} {xs : List Int} (h : RdsF w F x xs) (hb : But F w w') (hF : ∀ k, F2 k → F k ∨ w.heap.size ≤ k) : RdsF w' F2 x xs := fun h0 => by
  obtain ⟨b, off, e, hlt, hn, hc⟩ := h h0
  exact ⟨b, off, e, Nat.lt_of_lt_of_le hlt hb.size, fun c => (hF b c).elim hn (fun c => by omega), fun j hj => (cell_block (hb.block b hlt hn)).trans (hc j hj)⟩

/-- The three cells of a group. -/
structure Gv where
  a : Value
  b : Value
  c : Value
def noGv : Gv := ⟨.slice none 0 0, .slice none 0 0, .slice none 0 0⟩
def gvc (h : Gv) : List Value := [h.a, h.b, h.c]
/-- They are the group g. -/
def GvOk (w : World) (F : Nat → Prop) (h : Gv) (g : Gp) : Prop :=
  ∃ x1 c1 x2 c2 x3 c3, h = ⟨.slice x1 g.inn.length c1, .slice x2 g.fac.length c2, .slice x3 g.out.length c3⟩ ∧ RdsF w F x1 (Sh.ints g.inn) ∧ RdsF w F x2 (Sh.ints g.fac) ∧ RdsF w F x3 (Sh.ints g.out)
theorem GvOk.but {w w' : World} {F F2 : Nat → Prop} {h : Gv} {g : Gp} (H : GvOk w F h g) (hb : But F w w') (hF : ∀ k, F2 k → F k ∨ w.heap.size ≤ k) : GvOk w' F2 h g := by
  obtain ⟨x1, c1, x2, c2, x3, c3, e, r1, r2, r3⟩ := H
  exact ⟨x1, c1, x2, c2, x3, c3, e, r1.but hb hF, r2.but hb hF, r3.but hb hF⟩
theorem GvOk.one {w : World} {F : Nat → Prop} {h : Gv} {g : Gp} (H : GvOk w F h g) : ∀ u ∈ gvc h, u.oneCell' = true := by
  obtain ⟨x1, c1, x2, c2, x3, c3, rfl, _⟩ := H
  intro u hu
  simp [gvc] at hu
  rcases hu with rfl | rfl | rfl <;> rfl
/-- All of them. -/
def GvsOk (w : World) (F : Nat → Prop) (hs : List Gv) (gs : List Gp) : Prop := hs.length = gs.length ∧ ∀ j, j < gs.length → GvOk w F (hs.getD j noGv) (gs.getD j noGp)
theorem GvsOk.nil (w : World) (F : Nat → Prop) : GvsOk w F [] [] := ⟨rfl, fun j hj => by simp at hj⟩
theorem GvsOk.but {w w' : World} {F F2 : Nat → Prop} {hs : List Gv} {gs : List Gp} (H : GvsOk w F hs gs) (hb : But F w w') (hF : ∀ k, F2 k → F k ∨ w.heap.size ≤ k) : GvsOk w' F2 hs gs := ⟨H.1, fun j hj => (H.2 j hj).but hb hF⟩
theorem GvsOk.more {w : World} {F : Nat → Prop} {hs : List Gv} {gs : List Gp} {h : Gv} {g : Gp} (H : GvsOk w F hs gs) (hg : GvOk w F h g) : GvsOk w F (hs ++ [h]) (gs ++ [g]) := by
  refine ⟨by rw [List.length_append, List.length_append, H.1]; rfl, fun j hj => ?_⟩
  rw [List.length_append] at hj
  simp only [List.length_cons, List.length_nil, Nat.zero_add] at hj
  by_cases hlt : j < gs.length
  · have e1 : (hs ++ [h]).getD j noGv = hs.getD j noGv := by rw [List.getD_eq_getElem?_getD, List.getElem?_append_left (by rw [H.1]; exact hlt), List.getD_eq_getElem?_getD]
    have e2 : (gs ++ [g]).getD j noGp = gs.getD j noGp := by rw [List.getD_eq_getElem?_getD, List.getElem?_append_left hlt, List.getD_eq_getElem?_getD]
    rw [e1, e2]
    exact H.2 j hlt
  · obtain rfl : j = gs.length := by omega
    have e1 : (hs ++ [h]).getD gs.length noGv = h := by rw [List.getD_eq_getElem?_getD, ← H.1, List.getElem?_append_right (Nat.le_refl _)]; simp
    have e2 : (gs ++ [g]).getD gs.length noGp = g := by rw [List.getD_eq_getElem?_getD, List.getElem?_append_right (Nat.le_refl _)]; simp
    rw [e1, e2]
    exact hg

theorem flatG_len (hs : List Gv) : (hs.flatMap gvc).length = hs.length * 3 := by
  induction hs with
  | nil => rfl
  | cons s ss ih => rw [List.flatMap_cons, List.length_append, ih]; simp [gvc]; omega
theorem flatG_get : ∀ (ss : List Gv) (j : Nat), j < ss.length → ∀ c, c < 3 → (ss.flatMap gvc)[j * 3 + c]? = (gvc (ss.getD j noGv))[c]?
  | [], j, h, _, _ => by simp at h
  | s :: ss, 0, _, c, hc => by
    rw [List.flatMap_cons, List.getElem?_append_left (by simp [gvc]; omega)]
    simp
  | s :: ss, j + 1, h, c, hc => by
    have := flatG_get ss j (by simpa using h) c hc
    rw [List.flatMap_cons, List.getElem?_append_right (by simp [gvc]; omega)]
    rw [show (j + 1) * 3 + c - (gvc s).length = j * 3 + c by simp [gvc]; omega, this]
    simp

/-- The value v is a row of groups of the call's own. -/
def OwnsG (w : World) (base : Nat) (v : Value) (hs : List Gv) : Prop := w.ownsRow base 78 3 v hs.length (hs.flatMap gvc)
section
variable {w w' : World} {base : Nat} {v : Value} {hs : List Gv}
theorem OwnsG.nil : OwnsG w base (.slice none 0 0) [] := World.ownsRow_nil _ _ _ _
theorem OwnsG.still (h : OwnsG w base v hs) (hk : ∀ g, v.ownBlock = some g → w'.heap[g]? = w.heap[g]?) : OwnsG w' base v hs := by
  refine ⟨h.1, ?_⟩
  rcases h.2 with h2 | ⟨g, cap, cur, e1, e2, e3, e4⟩
  · exact .inl h2
  · exact .inr ⟨g, cap, cur, e1, e2, (hk g (by rw [e1]; rfl)).trans e3, e4⟩
theorem OwnsG.inside (h : OwnsG w base v hs) {g : Nat} (hg : v.ownBlock = some g) : base ≤ g ∧ g < w.heap.size := World.ownsRow.lt h g hg
theorem OwnsG.below (h : OwnsG w base v hs) (hb : Below w.heap.size w w') : OwnsG w' base v hs := h.still fun g e => hb.block g (h.inside e).2
/-- What is read of it. -/
theorem OwnsG.reads {F : Nat → Prop} {gs : List Gp} (h : OwnsG w base v hs) (H : GvsOk w F hs gs) : ∃ x cap, v = .slice x gs.length cap ∧ gs.length ≤ cap ∧ cap ≤ maxLen ∧ ReadsG w w.heap.size x gs := by
  obtain ⟨hl, hc⟩ := H
  rcases h.2 with ⟨e1, e2⟩ | ⟨g, cap, cur, e1, e2, e3, e4, e5, e6, e7⟩
  · exact ⟨none, 0, by rw [e1, ← hl, e2], by omega, by unfold maxLen; omega, fun hn => by omega⟩
  · have hg : g < w.heap.size := by
      rcases Nat.lt_or_ge g w.heap.size with hlt | hge
      · exact hlt
      · rw [Array.getElem?_eq_none hge] at e3; cases e3
    rw [hl] at e1 e4
    refine ⟨some ⟨g, 0, none⟩, cap, e1, e4, e5, fun hn => ⟨g, 0, rfl, hg, fun j hj => ?_⟩⟩
    subst e1
    have hfl := flatG_len hs
    have h' : w.ownsRow base 78 3 (.slice (some ⟨g, 0, none⟩) gs.length cap) gs.length (hs.flatMap gvc) := by rw [← hl] at h ⊢; exact h
    have each : ∀ c, c < 3 → w.cell? ⟨g, 0 + j * 3 + c, none⟩ = (gvc (hs.getD j noGv))[c]? := fun c hc' => by
      rw [Nat.zero_add, World.ownsRow.cellAt h' (j * 3 + c) (by omega), flatG_get hs j (by omega) c hc']
    obtain ⟨x1, c1, x2, c2, x3, c3, e, r1, r2, r3⟩ := hc j hj
    have a0 := each 0 (by omega)
    have a1 := each 1 (by omega)
    have a2 := each 2 (by omega)
    rw [e] at a0 a1 a2
    exact ⟨⟨x1, c1, a0, r1.reads⟩, ⟨x2, c2, a1, r2.reads⟩, ⟨x3, c3, a2, r3.reads⟩⟩
end

theorem info_gp : (Tryd.prog.info? 78).map (fun i => (i.zero, i.size, i.bytes)) = some (some (.agg #[.slice none 0 0, .slice none 0 0, .slice none 0 0]), 3, 72) := by kernel_rfl

end Go.Proofs.YtlbfllaaabginaaDoor

/-!   What step.Groups comes to: the closure that gathers the groups; all that the laws ask of Groups.
-/

namespace Go.Proofs.YtlbfllaaabginaaDoor
open Go.RowKit Go.Shelf

end Go.Proofs.YtlbfllaaabginaaDoor

/-!   What step.Do comes to: the words of a group, transformed, and written where they come out.
-/

namespace Go.Proofs.YtlbfllaaabginaaDoor
open Go.RowKit Go.Shelf

set_option maxHeartbeats 1000000 in
theorem taken_any (x : Option Addr) (n cap : Nat) (xs : List Int) (y : Option Addr) (m c : Nat) (pl : List Nat) (w : World) (hx : Reads .u64 w w.heap.size x xs) (hn : xs.length = n) (hy : Reads .i64 w w.heap.size y (Sh.ints pl)) (hm : pl.length = m) (hp : ∀ i ∈ pl, i < n) (hl : m ≤ 4096) :
    Calls Tryd.prog 55 #[.slice x n cap, .slice y m c] w (RetU w (pl.map fun i => xs.getD i 0)) := by
  subst hm
  obtain ⟨f, hf⟩ : ∃ f : Nat → Int, f = fun j => xs.getD (pl.getD j 0) 0 := ⟨_, rfl⟩
  have HE : Hid ((List.range pl.length).map f = pl.map fun i => xs.getD i 0) := Lib.hid (by
    rw [hf]
    refine List.ext_getElem (by simp) fun j h1 h2 => ?_
    simp at h1
    simp [h1])
  have HF : Hid (∀ j, xs.getD (pl.getD j 0) 0 = f j) := Lib.hid (fun j => by rw [hf])
  have HP := Lib.hid (fun j (hj : j < pl.length) => hp _ (Stp.get_memG (d := 0) hj))
  have HX := Lib.hid (fun W (hB : Below w.heap.size w W) => hx.below hB)
  have HY := Lib.hid (fun W (hB : Below w.heap.size w W) => hy.below hB)
  have HN := Lib.hid hn
  have HI := Lib.hid (fun j => ints_getD pl j)
  obtain ⟨i0, hi, hz0, hz1, hz2⟩ := info_parts info_u64
  have HZ2 := Lib.hid hz2
  generalize (pl.map fun i => xs.getD i 0) = res at HE ⊢
  have HYl := Lib.hid (Sh.ints_len pl)
  clear hx hy hn hp hf hz2
  go_enter Tryd.func55, Tryd.ntmps55
  go_wp2_with (at_make; refine wpList_make_full _ rfl _ _ 37 rfl w.heap.size 22 i0 (.int .u64 0) 1 Tryd.underlying37 hi hz0 hz1 .i64 .i64 _ _ pl.length rfl rfl rfl rfl (by rw [HZ2.out]; omega) (by unfold maxLen; omega) (Nat.le_refl _) ?_; intro w1 hown hgrow)
  have hst := Half.start (f := f) hown
  have hbl := (Below.refl w.heap.size w).grown hgrow (Nat.le_refl _) (fun k e => by cases e)
  clear hown hgrow hi hz0 hz1
  go_loopw [13] (fun i wr => ∃ k : Nat, k ≤ pl.length ∧ i = .int .i64 (k : Int) ∧ Half .u64 22 wr w.heap.size w.heap.size pl.length f (fun _ => 0) k ∧ Below w.heap.size w wr) (fun i _ => pl.length - (intOf i).toNat)
  case atStart => exact ⟨0, Nat.zero_le _, rfl, hst, hbl⟩
  case round =>
    clear hst hbl
    obtain ⟨k, hk, rfl, hP, hB⟩ := hrel
    by_cases hlt : k < pl.length
    · have hdk : decide (k < pl.length) = true := decide_eq_true hlt
      have hpl := HP.out k hlt
      obtain ⟨b, off, rfl, hb, hc⟩ := (HX.out _ hB) (by have := HN.out; omega)
      obtain ⟨b', off', rfl, hb', hc'⟩ := (HY.out _ hB) (by rw [HYl.out]; omega)
      have c1 := hc' k (by rw [HYl.out]; exact hlt)
      rw [HI.out] at c1
      have c2 := hc (pl.getD k 0) (by rw [HN.out]; exact hpl)
      rw [HF.out] at c2
      obtain ⟨q, hq⟩ : ∃ q, q = pl.getD k 0 := ⟨_, rfl⟩
      rw [← hq] at hpl c1 c2
      have hs := hP.step
      have hsB := hB.setCell (p := ⟨w.heap.size, k, none⟩) (Nat.le_refl _) (.int .u64 (f k))
      have hcN := hP.cellNext hlt
      have hf := hP.frozen k
      have hg := hP.lt.2
      obtain ⟨u, hu⟩ : ∃ u, u = f k := ⟨_, rfl⟩
      rw [← hu] at c2 hs hsB
      have HS := Lib.hid hs
      have HSB := Lib.hid hsB
      clear hP hB hc hc' hs hsB hu hq
      go_wp2
      go_roundw
      case rel => exact ⟨k + 1, hlt, by go_num, HS.out, HSB.out⟩
      case measure => simp [intOf]; omega
    · obtain rfl : k = pl.length := by omega
      have hR : RetU w res (.returned (.slice (some ⟨w.heap.size, 0, none⟩) pl.length pl.length)) wr := ⟨_, rfl, by rw [← HE.out]; exact hP.all, hB⟩
      clear hP hB
      go_wp2
      go_ret
      exact hR

/-- A list of words in a block that is B or lies behind it. -/
def ReadsFrom (B : Nat) (w : World) (x : Option Addr) (ws : List Int) : Prop := 0 < ws.length → ∃ b off, x = some ⟨b, off, none⟩ ∧ B ≤ b ∧ b < w.heap.size ∧ ∀ j, j < ws.length → w.cell? ⟨b, off + j, none⟩ = some (.int .u64 (ws.getD j 0))
theorem ReadsFrom.reads {B : Nat} {w : World} {x : Option Addr} {ws : List Int} (h : ReadsFrom B w x ws) : Reads .u64 w w.heap.size x ws := fun h0 => by
  obtain ⟨b, off, e, _, hb, hc⟩ := h h0
  exact ⟨b, off, e, hb, hc⟩
theorem ReadsFrom.below {B : Nat} {w w' : World} {x : Option Addr} {ws : List Int} (h : ReadsFrom B w x ws) (hB : Below w.heap.size w w') : ReadsFrom B w' x ws := fun h0 => by
  obtain ⟨b, off, e, h1, hb, hc⟩ := h h0
  exact ⟨b, off, e, h1, Nat.lt_of_lt_of_le hb hB.size, fun j hj => (hB.cell (p := ⟨b, off + j, none⟩) hb).trans (hc j hj)⟩
theorem Owns.readsFrom {e : TypeId} {w : World} {base n cap B : Nat} {x : Option Addr} {ws : List Int} (h : Owns .u64 e w base (.slice x n cap) ws) (hB : B ≤ base) : ReadsFrom B w x ws := fun h0 => by
  obtain ⟨x', c', e', _, _, hr, hg⟩ := h.form
  injection e' with e1
  subst e1
  obtain ⟨g, rfl, h1, h2⟩ := hg h0
  obtain ⟨b, off, e2, hb, hc⟩ := hr h0
  cases e2
  exact ⟨g, 0, rfl, by omega, h2, hc⟩
/-- A list of words, wherever it lies. -/
def RetSome (B : Nat) (w : World) (m : Nat) (ws : List Int) (e : Ending) (w' : World) : Prop := ∃ x c, e = .returned (.slice x m c) ∧ ReadsFrom B w' x ws ∧ Below w.heap.size w w'

set_option maxHeartbeats 1000000 in
theorem turned_any (B : Nat) (p : Int) (inv : Bool) (s : Sp) (y : Option Addr) (m c : Nat) (ws tl : List Int) (w : World) (hG : Gl w) (hy : ReadsFrom B w y ws) (hBw : B ≤ w.heap.size) (hm : ws.length = m) (hw : Words ws) (hl : m ≤ maxLen) (htw : s.tw = true → tl = ws) (hst : s.tw = false → Fly.Fine p ws ∧ tl = Fly.doL p inv ws) :
    Calls Tryd.prog 54 #[.int .u64 p, .bool inv, spV s, .slice y m c] w (RetSome B w m tl) := by
  subst hm
  obtain ⟨ax, tw, t⟩ := s
  have hb0 := (Below.refl w.heap.size w).alloc (Nat.le_refl _) (.cells #[.int .i64 ax, .bool tw, .int .i64 t.r, .int .i64 t.l, .int .i64 t.m] 49)
  have HB := Lib.hid hb0
  have HR := Lib.hid (hy.below hb0)
  unfold spV
  dsimp only at htw hst ⊢
  cases tw
  · obtain ⟨hf, rfl⟩ := hst rfl
    have HD := Lib.hid (do15_any p inv y ws.length c ws _ (hG.then hb0) (hy.below hb0).reads rfl hw hl)
    rw [hf.zero] at HD
    have HL := Lib.hid (hf.len inv)
    have HBs := Lib.hid (Nat.le_trans hBw hb0.size)
    generalize Fly.doL p inv ws = ds at HD HL ⊢
    clear hG hy hw hl htw hst hf hb0 HR
    go_enter Tryd.func54, Tryd.ntmps54
    go_wp2_with (go_at_call 78; refine HD.out.mono ?_; rintro e w1 ⟨v, rfl, hO, hB⟩; obtain ⟨x1, c1, rfl, -⟩ := hO.form; have hr1 := hO.readsFrom HBs.out; rw [HL.out])
    go_ret
    exact ⟨x1, c1, rfl, hr1, HB.out.trans (hB.mono HB.out.size)⟩
  · obtain rfl := htw rfl
    clear hG hy hw hl htw hst hb0
    go_enter Tryd.func54, Tryd.ntmps54
    go_wp2
    go_ret
    exact ⟨y, c, rfl, HR.out, HB.out⟩

end Go.Proofs.YtlbfllaaabginaaDoor

/-!   What step.Do comes to: the closure that writes what comes out of a group.
-/

namespace Go.Proofs.YtlbfllaaabginaaDoor
open Go.RowKit Go.Shelf

/-- The worlds in which the words that come out are being written: all else is as it was in W0. -/
def Writ (W0 : World) (base gy n : Nat) (f : Nat → Int) (pre : List Gp) (F : Nat → Prop) (W : World) : Prop :=
  F = (fun k => k = gy) ∧ But (fun k => k = gy) W0 W ∧ RowAt .u64 22 W base gy n (Stp.wrt f pre)
theorem Writ.keep {W0 : World} {base gy n : Nat} {f : Nat → Int} {pre : List Gp} {F : Nat → Prop} {W W' : World} (h : Writ W0 base gy n f pre F W) (hb : Below W.heap.size W W') : Writ W0 base gy n f pre F W' :=
  ⟨h.1, h.2.1.trans (But.of_below (F := fun _ => False) hb) (fun _ _ c => c.elim), h.2.2.below hb⟩

/-- All that the closure looks at, in the world in which the words are begun. -/
structure Caps (W0 : World) (p : Int) (inv : Bool) (s : Sp) (xs tab : List Int) (n tn : Nat) (bp bi bs bx bf byy gy : Nat) : Prop where
  p : W0.cell? ⟨bp, 0, none⟩ = some (.int .u64 p)
  i : W0.cell? ⟨bi, 0, none⟩ = some (.bool inv)
  s : SpAt W0 bs s
  x : ∃ x cap, W0.cell? ⟨bx, 0, none⟩ = some (.slice x n cap) ∧ ∃ b o, x = some ⟨b, o, none⟩ ∧ b < W0.heap.size ∧ b ≠ gy ∧ ∀ j, j < n → W0.cell? ⟨b, o + j, none⟩ = some (.int .u64 (xs.getD j 0))
  t : ∃ gt c, W0.cell? ⟨bf, 0, none⟩ = some (.slice (some ⟨gt, 0, none⟩) tn c) ∧ gt < W0.heap.size ∧ gt ≠ gy ∧ ∀ j, j < tn → W0.cell? ⟨gt, j, none⟩ = some (.int .u64 (tab.getD j 0))
  y : W0.cell? ⟨byy, 0, none⟩ = some (.slice (some ⟨gy, 0, none⟩) n n)
  lt : bp < W0.heap.size ∧ bi < W0.heap.size ∧ bs < W0.heap.size ∧ bx < W0.heap.size ∧ bf < W0.heap.size ∧ byy < W0.heap.size
  ne : bp ≠ gy ∧ bi ≠ gy ∧ bs ≠ gy ∧ bx ≠ gy ∧ bf ≠ gy ∧ byy ≠ gy
  g : Gl W0
  root : 0 ≠ gy
/-- They are there in all later ones. -/
theorem Caps.then {W0 W : World} {p : Int} {inv : Bool} {s : Sp} {xs tab : List Int} {n tn bp bi bs bx bf byy gy : Nat} (h : Caps W0 p inv s xs tab n tn bp bi bs bx bf byy gy) (hb : But (fun k => k = gy) W0 W) : Caps W p inv s xs tab n tn bp bi bs bx bf byy gy := by
  obtain ⟨h1, h2, h3, ⟨x, cap, h4, b, o, rfl, h5, h6, h7⟩, ⟨gt, c, k1, k2, k3, k4⟩, h8, ⟨l1, l2, l3, l4, l5, l6⟩, ⟨n1, n2, n3, n4, n5, n6⟩, hg, hr⟩ := h
  have hs := hb.size
  have keep : ∀ {g o : Nat}, g < W0.heap.size → g ≠ gy → W.cell? ⟨g, o, none⟩ = W0.cell? ⟨g, o, none⟩ := fun hl hn => cell_block (hb.block _ hl hn)
  refine ⟨(keep l1 n1).trans h1, (keep l2 n2).trans h2, h3.block (hb.block _ l3 n3), ⟨_, cap, (keep l4 n4).trans h4, b, o, rfl, by omega, h6, fun j hj => (keep h5 h6).trans (h7 j hj)⟩, ⟨gt, c, (keep l5 n5).trans k1, by omega, k3, fun j hj => (keep k2 k3).trans (k4 j hj)⟩, (keep l6 n6).trans h8, ⟨by omega, by omega, by omega, by omega, by omega, by omega⟩, ⟨n1, n2, n3, n4, n5, n6⟩, ?_, hr⟩
  obtain ⟨g0, g1, g2, g3, g4, g5⟩ := hg
  have hl := World.block_lt_of_cell? _ _ g0
  exact ⟨(keep hl hr).trans g0, (keep hl hr).trans g1, (keep hl hr).trans g2, (keep hl hr).trans g3, (keep hl hr).trans g4, (keep hl hr).trans g5⟩

theorem dec_lt {a b : Nat} (h : a < b) : decide (a < b) = true := decide_eq_true h

set_option maxRecDepth 100000 in
set_option maxHeartbeats 8000000 in
theorem writes_any {p : Int} {xa : List Ax} {inv : Bool} {s : Sp} {xs : List Int} (hW : Stp.Wok p xa s xs) (hw : Words xs) {W0 : World} {base n tn bp bi bs bx bf byy gy : Nat} (hn : xs.length = n) (htn : Stp.tabn xa s = tn) (hC : Caps W0 p inv s xs ((List.range tn).map (Stp.tabN p xa inv s)) n tn bp bi bs bx bf byy gy)
    {pre : List Gp} {F : Nat → Prop} {W : World} {g : Gp} (x1 x2 x3 : Option Addr) (c1 c2 c3 : Nat) (hJ : Writ W0 base gy n (Stp.stpN p xa inv s xs) pre F W) (hg : g ∈ Stp.grp xa s) (hap : ∀ ad : Addr, (x1 = some ad ∨ x2 = some ad ∨ x3 = some ad) → ¬ F ad.block)
    (r1 : Reads .i64 W W.heap.size x1 (Sh.ints g.inn)) (r2 : Reads .i64 W W.heap.size x2 (Sh.ints g.fac)) (r3 : Reads .i64 W W.heap.size x3 (Sh.ints g.out)) :
    Calls Tryd.prog 53 #[.agg #[.slice x1 g.inn.length c1, .slice x2 g.fac.length c2, .slice x3 g.out.length c3], .pointer (some ⟨bp, 0, none⟩), .pointer (some ⟨bi, 0, none⟩), .pointer (some ⟨bs, 0, none⟩), .pointer (some ⟨bx, 0, none⟩), .pointer (some ⟨bf, 0, none⟩), .pointer (some ⟨byy, 0, none⟩)] W
      fun e W' => e = .returned (.tuple #[]) ∧ ∃ F', Writ W0 base gy n (Stp.stpN p xa inv s xs) (pre ++ [g]) F' W' ∧ But F W W' ∧ ∀ k, F' k → F k ∨ W.heap.size ≤ k := by
  obtain ⟨rfl, hbt, hY⟩ := hJ
  obtain ⟨l1, l2, l3, l4, hin, hout, hfac⟩ := Stp.grp_ok hW.ok hg
  have hmx : Tryd.prog.follows .mixedOrders = true := by kernel_rfl
  have hgy := hY.lt.2
  -- lists of the group, apart from what is written
  have R1 := Lib.hid (r1.rdsF (F := fun k => k = gy) fun ad e => hap ad (.inl e))
  have R2 := Lib.hid (r2.rdsF (F := fun k => k = gy) fun ad e => hap ad (.inr (.inl e)))
  have R3 := Lib.hid (r3.rdsF (F := fun k => k = gy) fun ad e => hap ad (.inr (.inr e)))
  -- values
  have HV := Lib.hid (fun m (hm : m < g.out.length) => Stp.g_value hW hg inv hm)
  have HTB := Lib.hid (fun j => Stp.gtl_bd hW hw hg inv j)
  have HTL : Hid ((Stp.gtl p inv s xs g).length = g.out.length) := Lib.hid ((Stp.gtl_len hW hg inv).trans l1)
  have HNB : Hid (∀ k, 0 ≤ Stp.tabN p xa inv s k ∧ Stp.tabN p xa inv s k < 18446744073709551616) := Lib.hid (fun k => by have := Stp.tabN_bd (xa := xa) (inv := inv) (s := s) hW.ok.ax.kn k; have := Fp.kn_bd hW.ok.ax.kn; omega)
  have hgl : (Stp.gin xs g).length = g.inn.length := Stp.gin_len xs g
  have HTk := Lib.hid (fun V x cap hx hy => taken_any x n cap xs x1 g.inn.length c1 g.inn V hx hn hy rfl (fun i hi => by rw [← hn, hW.len]; exact hin i hi) (by omega))
  have HTu := Lib.hid (fun B V y c hG' hy hB => turned_any B p inv s y g.inn.length c (Stp.gin xs g) (Stp.gtl p inv s xs g) V hG' hy hB hgl (Stp.gin_words hw g) (by unfold maxLen; omega)
    (fun ht => by unfold Stp.gtl; rw [if_pos ht]) (fun ht => ⟨Stp.gin_fine hW ht hg, by unfold Stp.gtl; rw [if_neg (by simp [ht])]⟩))
  have HGe : Hid ((g.inn.map fun i => xs.getD i 0) = Stp.gin xs g) := Lib.hid rfl
  have HGl := Lib.hid hgl
  have hof : ∀ q, q < g.out.length → g.out.getD q 0 < n ∧ g.fac.getD q 0 < tn := fun q hq =>
    ⟨by rw [← hn, hW.len]; exact hout _ (Stp.get_memG hq), by rw [← htn]; exact hfac _ (Stp.get_memG (by omega))⟩
  have HOF := Lib.hid hof
  have HXn := Lib.hid hn
  have hp0 : 0 ≤ p ∧ p < 18446744073709551616 := by have := Fp.kn_bd hW.ok.ax.kn; omega
  have H0 : Hid (∀ i, Stp.wrm (Stp.stpN p xa inv s xs) pre g 0 i = Stp.wrt (Stp.stpN p xa inv s xs) pre i) := Lib.hid (fun i => Stp.wrm_zero _ _ _ _)
  have H9 : Hid (∀ i, Stp.wrm (Stp.stpN p xa inv s xs) pre g g.out.length i = Stp.wrt (Stp.stpN p xa inv s xs) (pre ++ [g]) i) := Lib.hid (fun i => Stp.wrm_all _ _ _ _)
  have HH := Lib.hid (fun q (hq : q < g.out.length) => Stp.wrm_here (Stp.stpN p xa inv s xs) pre g hq)
  have HE := Lib.hid (fun q i (hq : q < g.out.length) (hi : i ≠ g.out.getD q 0) => Stp.wrm_else (Stp.stpN p xa inv s xs) pre g hq hi)
  have HTN : Hid (∀ j, j < tn → ((List.range tn).map (Stp.tabN p xa inv s)).getD j 0 = Stp.tabN p xa inv s j) := Lib.hid (fun j hj => getD_range _ hj)
  have HI := Lib.hid (fun (l : List Nat) j => ints_getD l j)
  have HIl := Lib.hid (fun (l : List Nat) => Sh.ints_len l)
  have HCp := Lib.hid (fun V (hb : But (fun k => k = gy) W0 V) => hC.then hb)
  have HBt := Lib.hid hbt
  have HY := Lib.hid hY
  have L1 := Lib.hid l1
  have L2 := Lib.hid l2
  rw [l2, l1]
  rw [l1] at HTk HTu HGl l3 l4
  obtain ⟨m, hm⟩ : ∃ m, m = g.out.length := ⟨_, rfl⟩
  have L3 := Lib.hid hm.symm
  rw [← hm] at HV HTL HOF H9 HH HE HTk HTu HGl l3 l4 L1 L2 ⊢
  generalize Stp.stpN p xa inv s xs = f at HV HY H0 H9 HH HE ⊢
  generalize ((List.range tn).map (Stp.tabN p xa inv s)) = tab at HCp HTN
  generalize Stp.tabN p xa inv s = tf at HV HNB HTN
  rw [HGe.out] at HTk
  generalize Stp.gtl p inv s xs g = tl at HV HTB HTL HTu
  generalize Stp.gin xs g = gn at HTk HTu HGl
  obtain ⟨gi, gf, go⟩ := g
  dsimp only at HV HOF HH HE R1 R2 R3 HTk L1 L2 L3 hm
  clear hW hw hn htn hC hbt hY hg hap r1 r2 r3 l1 l2 hin hout hfac hgl hof HGe hm
  -- WALK
  obtain ⟨ax, tw, st⟩ := s
  unfold spV at HTu
  dsimp only at HTu
  obtain ⟨W1, hW1⟩ : ∃ V, V = W.alloc (.cells #[.slice x1 m c1, .slice x2 m c2, .slice x3 m c3] 78) := ⟨_, rfl⟩
  have hB1 : Below W.heap.size W W1 := by rw [hW1]; exact below_al (Below.refl _ _) _
  have hT1 : Trip W1 W.heap.size 78 (.slice x1 m c1) (.slice x2 m c2) (.slice x3 m c3) := by rw [hW1]; exact Trip.new _ _ _ _ _
  have hbut1 : But (fun k => k = gy) W0 W1 := HBt.out.trans (But.of_below (F := fun _ => False) hB1) (fun _ _ c => c.elim)
  have hC1 := HCp.out W1 hbut1
  obtain ⟨xx, cx, hcx, bX, oX, rfl, hbX, hnX, hcX⟩ := hC1.x
  obtain ⟨gt, ct, hct, hbT, hnT, hcT⟩ := hC1.t
  obtain ⟨k0, k1, k2, k3, k4⟩ := hC1.s
  dsimp only at k0 k1 k2 k3 k4
  have HC1 := Lib.hid hC1
  have hb0 := hT1.c0
  have u0 := fun s : Since W1 => s.cell k0
  have u1 := fun s : Since W1 => s.cell k1
  have u2 := fun s : Since W1 => s.cell k2
  have u3 := fun s : Since W1 => s.cell k3
  have u4 := fun s : Since W1 => s.cell k4
  have u5 := fun s : Since W1 => s.cell hC1.p
  have u6 := fun s : Since W1 => s.cell hC1.i
  have u7 := fun s : Since W1 => s.cell hcx
  have u8 := fun s : Since W1 => s.cell hb0
  have B1 := Lib.hid hB1
  have T1 := Lib.hid hT1
  have BU1 := Lib.hid hbut1
  have hgW1 : gy < W1.heap.size := Nat.lt_of_lt_of_le hgy hB1.size
  have hRX : Hid (∀ V, Below W1.heap.size W1 V → Reads .u64 V V.heap.size (some ⟨bX, oX, none⟩) xs) := Lib.hid (fun V hV _ => ⟨bX, oX, rfl, Nat.lt_of_lt_of_le hbX hV.size, fun j hj => (hV.cell (p := ⟨bX, oX + j, none⟩) hbX).trans (hcX j (by rw [← HXn.out]; exact hj))⟩)
  have hRI : Hid (∀ V, Below W1.heap.size W1 V → Reads .i64 V V.heap.size x1 (Sh.ints gi)) := Lib.hid (fun V hV => (R1.out.but (F2 := fun k => k = gy) (But.of_below (hB1.trans (hV.mono hB1.size))) (fun _ c => .inl c)).reads)
  clear hB1 hT1 hbut1 hC1
  go_enter Tryd.func53, Tryd.ntmps53
  go_upto_region 1 with fail
  rw [← hW1]
  clear hW1
  have hS0 : Below W1.heap.size W1 W1.drew := draws_below _ W1 1
  refine region_readsA (C := fun w' => ∃ s : Since W1, w' = s.out) [0, 1, 2, 3, 4, 5, 9] hmx (by kernel_rfl) rfl (by kernel_rfl) ⟨⟨_, hS0⟩, rfl⟩ ?_
  simp only [List.map_cons, List.map_nil, List.getD_cons_zero, List.getD_cons_succ]
  repeat (go_big_quiet_step (skip))
  refine wpQuiet_nil ?_
  clear u0 u1 u2 u3 u4 u5 u6 u7 u8 k0 k1 k2 k3 k4 hb0
  show anyC _ _ _ _ _ 10 3 _ _ _
  obtain ⟨V0, hV0⟩ : ∃ V0, V0 = W1.drew := ⟨_, rfl⟩
  rw [← hV0] at hS0 ⊢
  clear hV0
  refine anyC_one (i := 6) (by kernel_rfl) (wpOp_of_list rfl ?_)
  go_wp2_with (go_at_call 55; refine (HTk.out V0 _ _ (hRX.out V0 hS0) (hRI.out V0 hS0)).mono ?_; rintro e V2 ⟨v, rfl, hO, hb2⟩; obtain ⟨xk, ck, rfl, -⟩ := hO.form; rw [HGl.out] at hO ⊢; have HRk := Lib.hid (hO.readsFrom hS0.size))
  have hS2 := below_then hS0 hb2
  refine ⟨rfl, fun _ => ⟨⟨_, hS2⟩, rfl⟩, ?_⟩
  clear hO hb2
  refine anyC_one (i := 7) (by kernel_rfl) (wpOp_of_list rfl ?_)
  go_wp2_with (go_at_call 54; refine (HTu.out W1.heap.size V2 xk ck (HC1.out.g.then hS2) HRk.out hS2.size).mono ?_; rintro e V3 ⟨x4, c4, rfl, hR4, hb3⟩; have HR4 := Lib.hid hR4)
  have hS3 := below_then hS2 hb3
  refine ⟨rfl, fun _ => ⟨⟨_, hS3⟩, rfl⟩, ?_⟩
  clear hR4 hb3 HRk HTk HTu
  refine anyC_one (i := 8) (by kernel_rfl) (wpOp_of_list rfl ?_)
  go_wp2
  refine ⟨rfl, fun h => ⟨⟨_, hS3⟩, rfl⟩, anyC_end (by kernel_rfl) ⟨rfl, ?_⟩⟩
  clear hS0 hS2 hRX hRI
  have hY3 := HY.out.below (B1.out.trans (hS3.mono B1.out.size))
  have hbut3 : But (fun k => k = gy) W0 V3 := BU1.out.trans (But.of_below (F := fun _ => False) hS3) (fun _ _ c => c.elim)
  have HY3 := Lib.hid (hY3.congr (f' := Stp.wrm f pre ⟨gi, gf, go⟩ 0) (fun t _ => (H0.out t).symm))
  have HB3 := Lib.hid hbut3
  have HT3 := Lib.hid (T1.out.below hS3 T1.out.lt)
  have HR13 := Lib.hid (R2.out.but (F2 := fun k => k = gy) (But.of_below (B1.out.trans (hS3.mono B1.out.size))) (fun _ c => .inl c))
  have HR23 := Lib.hid (R3.out.but (F2 := fun k => k = gy) (But.of_below (B1.out.trans (hS3.mono B1.out.size))) (fun _ c => .inl c))
  have HBW3 : Hid (Below W.heap.size W V3) := Lib.hid (B1.out.trans (hS3.mono B1.out.size))
  obtain ⟨b4, o4, rfl, hb4, hb4', hc4⟩ := HR4.out (by rw [HTL.out]; omega)
  have h4gy : b4 ≠ gy := by omega
  have hTgy : W.heap.size ≠ gy := by omega
  have hTl := HT3.out.lt
  clear hY3 hbut3 R1 R2 R3 HY H0 hS3 B1 BU1 T1 HC1 hcx hct hbX hnX hcX HBt HR4
  have HFc := Lib.hid (HCp.out V3 HB3.out)
  obtain ⟨bo, oo, rfl, hbo, hno, hco⟩ := HR23.out (by rw [HIl.out, L3.out]; omega)
  obtain ⟨bfc, ofc, rfl, hbfc, hnfc, hcfc⟩ := HR13.out (by rw [HIl.out, L2.out]; omega)
  obtain ⟨gt2, ct2, hct2, hbT2, hnT2, hcT2⟩ := HFc.out.t
  have HCo : Hid (∀ V, But (fun k => k = gy) V3 V → ∀ q, q < m → V.cell? ⟨bo, oo + q, none⟩ = some (.int .i64 ((go.getD q 0 : Nat) : Int)) ∧ V.cell? ⟨bfc, ofc + q, none⟩ = some (.int .i64 ((gf.getD q 0 : Nat) : Int)) ∧ V.cell? ⟨b4, o4 + q, none⟩ = some (.int .u64 (tl.getD q 0)) ∧ V.cell? ⟨gt2, gf.getD q 0, none⟩ = some (.int .u64 (tf (gf.getD q 0))) ∧
      V.cell? ⟨bp, 0, none⟩ = some (.int .u64 p) ∧ V.cell? ⟨bf, 0, none⟩ = some (.slice (some ⟨gt2, 0, none⟩) tn ct2) ∧ V.cell? ⟨byy, 0, none⟩ = some (.slice (some ⟨gy, 0, none⟩) n n) ∧ V.cell? ⟨W.heap.size, 1, none⟩ = some (.slice (some ⟨bfc, ofc, none⟩) m c2) ∧ V.cell? ⟨W.heap.size, 2, none⟩ = some (.slice (some ⟨bo, oo, none⟩) m c3)) := Lib.hid (fun V hV q hq => by
    have h1 := hco q (by rw [HIl.out, L3.out]; exact hq)
    have h2 := hcfc q (by rw [HIl.out, L2.out]; exact hq)
    rw [HI.out] at h1 h2
    have h3 := hcT2 _ (HOF.out q hq).2
    rw [HTN.out _ (HOF.out q hq).2] at h3
    exact ⟨(cell_block (hV.block _ hbo hno)).trans h1, (cell_block (hV.block _ hbfc hnfc)).trans h2, (cell_block (hV.block _ hb4' h4gy)).trans (hc4 q (by rw [HTL.out]; exact hq)), (cell_block (hV.block _ hbT2 hnT2)).trans h3,
      (cell_block (hV.block _ HFc.out.lt.1 HFc.out.ne.1)).trans HFc.out.p, (cell_block (hV.block _ HFc.out.lt.2.2.2.2.1 HFc.out.ne.2.2.2.2.1)).trans hct2, (cell_block (hV.block _ HFc.out.lt.2.2.2.2.2 HFc.out.ne.2.2.2.2.2)).trans HFc.out.y,
      (cell_block (hV.block _ hTl hTgy)).trans HT3.out.c1, (cell_block (hV.block _ hTl hTgy)).trans HT3.out.c2⟩)
  clear hct2 hbT2 hnT2 hcT2 hco hcfc hc4 HR13 HR23 HFc HT3
  go_wp2
  go_loopw [19] (fun i wr => ∃ q : Nat, q ≤ m ∧ i = .int .i64 (q : Int) ∧ Hid (But (fun k => k = gy) V3 wr ∧ RowAt .u64 22 wr base gy n (Stp.wrm f pre ⟨gi, gf, go⟩ q))) (fun i _ => m - (intOf i).toNat)
  case atStart => exact ⟨0, Nat.zero_le _, rfl, Lib.hid ⟨But.refl _ _, HY3.out⟩⟩
  case round =>
    clear HY3
    obtain ⟨q, hq, rfl, HR⟩ := hrel
    obtain ⟨V4, rfl⟩ : ∃ V, V = wr := ⟨_, rfl⟩
    by_cases hlt : q < m
    · have hdq : decide (q < m) = true := decide_eq_true hlt
      obtain ⟨e1, e2, e3, e4, e5, e6, e7, e8, e9⟩ := HCo.out V4 HR.out.1 q hlt
      obtain ⟨o1, o2⟩ := HOF.out q hlt
      have hv := HV.out q hlt
      obtain ⟨a0, a1⟩ := HTB.out q
      obtain ⟨a2, a3⟩ := HNB.out (gf.getD q 0)
      have hs := HR.out.2.set (go.getD q 0) (f' := Stp.wrm f pre ⟨gi, gf, go⟩ (q + 1)) (fun t _ hne => HE.out q t hlt hne)
      rw [HH.out q hlt] at hs
      have hy0 := HR.out.2.cell (go.getD q 0) o1
      have hyf := HR.out.2.frozen (go.getD q 0)
      have hyl := HR.out.2.lt.2
      have hbs := HR.out.1.trans (But.setCell V4 gy (go.getD q 0) (.int .u64 (f (go.getD q 0)))) (fun _ _ c => c)
      obtain ⟨z, hz⟩ : ∃ z, z = f (go.getD q 0) := ⟨_, rfl⟩
      rw [← hz] at hs hv hbs
      obtain ⟨u, hu⟩ : ∃ u, u = tl.getD q 0 := ⟨_, rfl⟩
      rw [← hu] at e3 hv a0 a1
      obtain ⟨tv, htv⟩ : ∃ tv, tv = tf (gf.getD q 0) := ⟨_, rfl⟩
      rw [← htv] at e4 hv a2 a3
      obtain ⟨fi, hfi⟩ : ∃ fi, fi = gf.getD q 0 := ⟨_, rfl⟩
      rw [← hfi] at e2 e4 o2
      obtain ⟨oi, hoi⟩ : ∃ oi, oi = go.getD q 0 := ⟨_, rfl⟩
      rw [← hoi] at e1 o1 hs hy0 hyf hbs
      obtain ⟨y0, hy0'⟩ : ∃ y0, y0 = Stp.wrm f pre ⟨gi, gf, go⟩ q oi := ⟨_, rfl⟩
      rw [← hy0'] at hy0
      have HS := Lib.hid hs
      have HBS := Lib.hid hbs
      have HVV := Lib.hid hv
      have d1 : decide (fi < tn) = true := decide_eq_true o2
      have d2 : decide (oi < n) = true := decide_eq_true o1
      clear hs hbs hv hz hu htv hfi hoi hy0' HR
      go_wp2
      refine region_quiet_tail 18 hmx (by kernel_rfl) ?_
      simp only [List.take_succ_cons, List.take_zero, List.drop_succ_cons, List.drop_zero]
      repeat (go_big_quiet_step ((go_at_call 56; exact Calls.quiet_of (mul_any _ _ _ _ (by omega) (by omega) (by omega) (by omega)))))
      refine wpQuiet_nil ?_
      rw [HVV.out]
      rintro w' ⟨nq, rfl⟩
      go_wp2
      go_roundw
      case rel => exact ⟨q + 1, hlt, by go_num, Lib.hid ⟨HBS.out.trans (But.of_below (F := fun _ => False) (draws_below _ _ nq)) (fun _ _ c => c.elim), HS.out.draws nq⟩⟩
      case measure => simp [intOf]; omega
    · obtain rfl : q = m := by omega
      have hbw : But (fun k => k = gy) W V4 := (But.of_below (F := fun k => k = gy) HBW3.out).trans HR.out.1 (fun _ _ c => c)
      have hR : ∃ F', Writ W0 base gy n f (pre ++ [⟨gi, gf, go⟩]) F' V4 ∧ But (fun k => k = gy) W V4 ∧ ∀ k, F' k → (k = gy) ∨ W.heap.size ≤ k :=
        ⟨fun k => k = gy, ⟨rfl, HB3.out.trans HR.out.1 (fun _ _ c => c), HR.out.2.congr (fun t _ => H9.out t)⟩, hbw, fun k c => .inl c⟩
      clear HR
      go_wp2
      go_end0
      exact ⟨rfl, hR⟩

end Go.Proofs.YtlbfllaaabginaaDoor

/-!   What step.Do and Predict come to; all of step in one word.
-/

namespace Go.Proofs.YtlbfllaaabginaaDoor
open Go.RowKit Go.Shelf

theorem writes {p : Int} {xa : List Ax} {inv : Bool} {s : Sp} {xs : List Int} (hW : Stp.Wok p xa s xs) (hw : Words xs) {W0 : World} {base n tn bp bi bs bx bf byy gy : Nat} (hn : xs.length = n) (htn : Stp.tabn xa s = tn) (hC : Caps W0 p inv s xs ((List.range tn).map (Stp.tabN p xa inv s)) n tn bp bi bs bx bf byy gy) :
    Takes 53 #[.pointer (some ⟨bp, 0, none⟩), .pointer (some ⟨bi, 0, none⟩), .pointer (some ⟨bs, 0, none⟩), .pointer (some ⟨bx, 0, none⟩), .pointer (some ⟨bf, 0, none⟩), .pointer (some ⟨byy, 0, none⟩)] (fun _ g => g ∈ Stp.grp xa s) (Writ W0 base gy n (Stp.stpN p xa inv s xs)) where
  enters := enters_of Tryd.func53 (by kernel_rfl) rfl
  keep := fun _ _ _ _ h hb => h.keep hb
  hi := fun _ _ _ h k hk => by
    obtain ⟨rfl, _, hY⟩ := h
    cases hk
    exact hY.lt.2
  tell := fun pre F W g x1 c1 x2 c2 x3 c3 hJ hg hap r1 r2 r3 => writes_any hW hw hn htn hC x1 x2 x3 c1 c2 c3 hJ hg hap r1 r2 r3

/-- The boxes of Do's parameters. -/
def doW (w : World) (p : Int) (inv : Bool) (s : Sp) (x : Option Addr) (n cap : Nat) : World :=
  (((w.alloc (.cells #[.int .u64 p] 22)).alloc (.cells #[.bool inv] 4)).alloc (.cells #[.int .i64 s.ax, .bool s.tw, .int .i64 s.st.r, .int .i64 s.st.l, .int .i64 s.st.m] 49)).alloc (.cells #[.slice x n cap] 37)
theorem doW_size (w : World) (p : Int) (inv : Bool) (s : Sp) (x : Option Addr) (n cap : Nat) : (doW w p inv s x n cap).heap.size = w.heap.size + 4 := by simp [doW]
theorem doW_below (w : World) (p : Int) (inv : Bool) (s : Sp) (x : Option Addr) (n cap : Nat) : Below w.heap.size w (doW w p inv s x n cap) := below_al (below_al (below_al (below_al (Below.refl _ _) _) _) _) _
/-- They are there in all later worlds. -/
structure DoIn (w W : World) (p : Int) (inv : Bool) (s : Sp) (x : Option Addr) (n cap : Nat) : Prop where
  p : W.cell? ⟨w.heap.size, 0, none⟩ = some (.int .u64 p)
  i : W.cell? ⟨w.heap.size + 1, 0, none⟩ = some (.bool inv)
  s : SpAt W (w.heap.size + 1 + 1) s
  x : W.cell? ⟨w.heap.size + 1 + 1 + 1, 0, none⟩ = some (.slice x n cap)
  b : Below w.heap.size w W
  z : w.heap.size + 4 ≤ W.heap.size
theorem DoIn.then {w W W' : World} {p : Int} {inv : Bool} {s : Sp} {x : Option Addr} {n cap : Nat} (h : DoIn w W p inv s x n cap) (hb : Below W.heap.size W W') : DoIn w W' p inv s x n cap := by
  obtain ⟨h1, h2, h3, h4, h5, h6⟩ := h
  exact ⟨(hb.cell (p := ⟨w.heap.size, 0, none⟩) (by show w.heap.size < _; omega)).trans h1, (hb.cell (p := ⟨w.heap.size + 1, 0, none⟩) (by show w.heap.size + 1 < _; omega)).trans h2, h3.then hb, (hb.cell (p := ⟨w.heap.size + 1 + 1 + 1, 0, none⟩) (by show w.heap.size + 1 + 1 + 1 < _; omega)).trans h4, below_then h5 hb, Nat.le_trans h6 hb.size⟩
theorem DoIn.start (w : World) (p : Int) (inv : Bool) (s : Sp) (x : Option Addr) (n cap : Nat) : DoIn w (doW w p inv s x n cap) p inv s x n cap := by
  have z1 : (w.alloc (.cells #[.int .u64 p] 22)).heap.size = w.heap.size + 1 := World.size_alloc _ _
  have z2 : ((w.alloc (.cells #[.int .u64 p] 22)).alloc (.cells #[.bool inv] 4)).heap.size = w.heap.size + 1 + 1 := by rw [World.size_alloc, z1]
  have z3 : (((w.alloc (.cells #[.int .u64 p] 22)).alloc (.cells #[.bool inv] 4)).alloc (.cells #[.int .i64 s.ax, .bool s.tw, .int .i64 s.st.r, .int .i64 s.st.l, .int .i64 s.st.m] 49)).heap.size = w.heap.size + 1 + 1 + 1 := by rw [World.size_alloc, z2]
  have a1 := Boxed.new w 22 (.int .u64 p)
  have a2 := Boxed.new (w.alloc (.cells #[.int .u64 p] 22)) 4 (.bool inv)
  have a3 := SpAt.new ((w.alloc (.cells #[.int .u64 p] 22)).alloc (.cells #[.bool inv] 4)) 49 s
  have a4 := Boxed.new (((w.alloc (.cells #[.int .u64 p] 22)).alloc (.cells #[.bool inv] 4)).alloc (.cells #[.int .i64 s.ax, .bool s.tw, .int .i64 s.st.r, .int .i64 s.st.l, .int .i64 s.st.m] 49)) 37 (.slice x n cap)
  rw [z1] at a2
  rw [z2] at a3
  rw [z3] at a4
  exact ⟨(((a1.alloc _).alloc _).alloc _).cell, ((a2.alloc _).alloc _).cell, a3.then (below_al (Below.refl _ _) _), a4.cell, doW_below _ _ _ _ _ _ _, by rw [doW_size]; exact Nat.le_refl _⟩

set_option maxRecDepth 100000 in
set_option maxHeartbeats 4000000 in
theorem do16_any (p : Int) (x : Option Addr) (n cap : Nat) (xa : List Ax) (inv : Bool) (s : Sp) (y : Option Addr) (m cap' : Nat) (xs : List Int) (w : World) (hG : Gl w) (hx : ReadsA w w.heap.size x xa) (hn : xa.length = n) (hl : n ≤ 8796093022208)
    (hy : Reads .u64 w w.heap.size y xs) (hm : xs.length = m) (hw : Words xs) (hml : m ≤ maxLen) :
    Calls Tryd.prog 26 #[.int .u64 p, .slice x n cap, .bool inv, spV s, .slice y m cap'] w (LineRet w (Stp.wL p xa inv s xs) (Stp.wE p xa s xs)) := by
  subst hn
  subst hm
  have hD0 := DoIn.start w p inv s y xs.length cap'
  have D0 := Lib.hid hD0
  have HTb := Lib.hid (table16_any p x xa.length cap xa inv s _ (hG.then hD0.b) ((hx.below hD0.b).more hD0.b.size) rfl hl)
  by_cases hE : Stp.stepE p xa s = 0
  · have hs := Stp.stepE_zero hE
    rw [hs.tab, hE] at HTb
    obtain ⟨tn1, tn2⟩ := hs.tab_le
    have HTLn : Hid (((List.range (Stp.tabn xa s)).map (Stp.tabN p xa inv s)).length = Stp.tabn xa s) := Lib.hid (by simp)
    have HD := Lib.hid (fun W (hB : Below w.heap.size w W) => dims_any x xa.length cap xa W ((hx.below hB).more hB.size) rfl hl)
    have HDL := Lib.hid (dims_len xa)
    have hn1 : 1 ≤ xa.length := by have := hs.ax.ok.one; rwa [szs_len] at this
    have HAll := Lib.hid (fun W y c hr => all_ok (szs xa) hs.ax.ok y xa.length c W W.heap.size hr (szs_len xa))
    have HIs : Hid (dims xa = Sh.ints (szs xa)) := Lib.hid hs.ax.is
    have hP1 := hs.ax.ok.here
    have hP4 := hs.ax.ok.le
    have hml' : (xs.length : Int) ≤ 9223372036854775807 := by unfold maxLen at hml; omega
    by_cases hlen : xs.length = Sh.prod (szs xa)
    · obtain ⟨b, off, rfl, hb, hc⟩ := hy (by omega)
      have HIn := Lib.hid (fun W (hW : Below w.heap.size w W) => in_row p b off xs.length cap' (fun j => xs.getD j 0) W hml' (fun j hj => (hW.cell (p := ⟨b, off + j, none⟩) hb).trans (hc j hj)))
      have hnn : ((xs.length : Int) != ((Sh.prod (szs xa) : Nat) : Int)) = false := by rw [hlen]; simp
      cases hin : Fp.isIn p (fun j => xs.getD j 0) xs.length
      · have e1 : Stp.wE p xa s xs = 7 := by unfold Stp.wE; rw [if_neg (by simp [hE]), if_neg (by simp [hlen]), if_pos hin]
        have e2 : Stp.wL p xa inv s xs = [] := Stp.wL_no (by rw [e1]; decide)
        rw [e1, e2]
        rw [hin] at HIn
        generalize hT : (List.range (Stp.tabn xa s)).map (Stp.tabN p xa inv s) = tb at HTb HTLn
        generalize Stp.tabn xa s = tn at tn1 tn2 HTLn
        obtain ⟨P, hPd⟩ : ∃ P, P = Sh.prod (szs xa) := ⟨_, rfl⟩
        rw [← hPd] at HAll hP1 hP4 hnn hlen
        obtain ⟨ax, tw, st⟩ := s
        have HD0 := D0
        unfold doW at D0 HTb
        unfold spV at HTb ⊢
        dsimp only at D0 HTb ⊢
        clear hG hx hy hw hE e1 e2 hD0 hs hc hin hT hPd hml HD0 hlen
        go_enter Tryd.func26, Tryd.ntmps26
        go_wp2_with (first
          | (go_at_call 27; refine HTb.out.mono ?_; intro e w1 hr; obtain ⟨gt, ct, rfl, hg1, hg2, -, -, hO, b1⟩ := LineRet.open hr HTLn.out tn1; have D1 := Lib.hid (D0.out.then b1); clear hr hO b1)
          | (go_at_call 50; refine (HD.out _ (below_al D1.out.b _)).mono ?_; rintro e w3 ⟨v, rfl, hO, b3⟩; obtain ⟨xd, cd, rfl, hcd, -, -, hgd⟩ := hO.form; rw [HDL.out] at hcd hgd ⊢; obtain ⟨gd, rfl, hg1', hg2'⟩ := hgd hn1; have D3 := Lib.hid ((D1.out.then (below_al (Below.refl _ _) _)).then b3); obtain ⟨q1, q2, q3, q4, -, -⟩ := D3.out; have RD := Lib.hid hO.reads; rw [HIs.out] at RD; clear hO b3 hgd)
          | (go_at_call 51; refine (HAll.out w3 _ cd RD.out).mono ?_; rintro e w' ⟨rfl, rfl⟩)
          | (go_at_call 45; refine (HIn.out w3 D3.out.b).mono ?_; rintro e w' ⟨rfl, rfl⟩))
        go_ret2
        exact ⟨_, rfl, Owns.nil, D3.out.b⟩
      · have hW := Stp.wE_zero (by unfold Stp.wE; rw [if_neg (by simp [hE]), if_neg (by simp [hlen]), if_neg (by rw [hin]; decide)] : Stp.wE p xa s xs = 0)
        rw [hW.wL, hW.zero]
        rw [hin] at HIn
        have HTl := Lib.hid (fun (fid : FuncId) (lb : Array Value) (ok : Nat → Gp → Prop) (J : List Gp → (Nat → Prop) → World → Prop) (H : Takes fid lb ok J) (bx ox cp : Nat) (F : Nat → Prop) (W : World) hr hbx hc hF hJ hok => tellGroups_any H p xa s bx ox xa.length cp F W hs hr hbx rfl hc hF hJ hok)
        have HWr := Lib.hid (fun (W0 : World) (base bp bi bs bx bf byy gy : Nat) (hC : Caps W0 p inv s xs ((List.range (Stp.tabn xa s)).map (Stp.tabN p xa inv s)) xs.length (Stp.tabn xa s) bp bi bs bx bf byy gy) => writes (base := base) hW hw rfl rfl hC)
        have HAl : Hid (∀ i, i < xs.length → Stp.wrt (Stp.stpN p xa inv s xs) (Stp.grp xa s) i = Stp.stpN p xa inv s xs i) := Lib.hid (fun i hi => Stp.wrt_all hs _ (by rw [← hlen]; exact hi))
        have HSt : Hid ((List.range xs.length).map (Stp.stpN p xa inv s xs) = Stp.stp p xa inv s xs) := Lib.hid rfl
        have HN0 : Hid (∀ i, Stp.wrt (Stp.stpN p xa inv s xs) [] i = 0) := Lib.hid (fun i => Stp.wrt_nil _ i)
        have HXc := Lib.hid hc
        have HGl := Lib.hid hG
        have hlo : xs.length ≤ 4096 := by omega
        obtain ⟨i0, hi, hz0, hz1, hz2⟩ := info_parts info_u64
        have HZ2 := Lib.hid hz2
        generalize Stp.stp p xa inv s xs = res at HSt ⊢
        generalize Stp.stpN p xa inv s xs = f at HWr HAl HSt HN0
        generalize Stp.grp xa s = gs at HTl HWr HAl
        generalize hT : (List.range (Stp.tabn xa s)).map (Stp.tabN p xa inv s) = tb at HTb HTLn HWr
        generalize Stp.tabn xa s = tn at tn1 tn2 HTLn HWr
        obtain ⟨P, hPd⟩ : ∃ P, P = Sh.prod (szs xa) := ⟨_, rfl⟩
        rw [← hPd] at HAll hP1 hP4 hnn hlen
        have HXl := Lib.hid hlen
        obtain ⟨ax, tw, st⟩ := s
        unfold doW at D0 HTb
        unfold spV at HTb HTl ⊢
        dsimp only at D0 HTb HTl ⊢
        have gG := hG.lt
        clear hG hx hy hw hE hD0 hs hc hin hT hPd hml hlen hW hz2
        go_enter Tryd.func26, Tryd.ntmps26
        go_upto_region 11 with (first
          | (go_at_call 27; refine HTb.out.mono ?_; intro e w1 hr; obtain ⟨gt, ct, rfl, hg1, hg2, -, -, hO, b1⟩ := LineRet.open hr HTLn.out tn1; have D1 := Lib.hid (D0.out.then b1); have O1 := Lib.hid hO; clear hr hO b1)
          | (go_at_call 50; refine (HD.out _ (below_al D1.out.b _)).mono ?_; rintro e w3 ⟨v, rfl, hO, b3⟩; obtain ⟨xd, cd, rfl, hcd, -, -, hgd⟩ := hO.form; rw [HDL.out] at hcd hgd ⊢; obtain ⟨gd, rfl, hg1', hg2'⟩ := hgd hn1; have D3 := Lib.hid ((D1.out.then (below_al (Below.refl _ _) _)).then b3); obtain ⟨q1, q2, q3, q4, -, -⟩ := D3.out; have RD := Lib.hid hO.reads; rw [HIs.out] at RD; have B3 := Lib.hid b3; clear hO b3 hgd)
          | (go_at_call 51; refine (HAll.out w3 _ cd RD.out).mono ?_; rintro e w' ⟨rfl, rfl⟩)
          | (go_at_call 45; refine (HIn.out w3 D3.out.b).mono ?_; rintro e w' ⟨rfl, rfl⟩)
          | (at_make; refine wpList_make_full _ rfl _ _ 37 rfl w.heap.size 22 i0 (.int .u64 0) 1 Tryd.underlying37 hi hz0 hz1 .i64 .i64 _ _ xs.length rfl rfl rfl rfl (by rw [HZ2.out]; omega) (by unfold maxLen; omega) D3.out.b.size ?_; intro w4 hown4 hgrow4))
        have hY4 := RowAt.start hown4
        have hb4 : Below w3.heap.size w3 w4 := (Below.refl _ w3).grown hgrow4 (Nat.le_refl _) (fun k e => by cases e)
        obtain ⟨gy, hgy⟩ : ∃ g, g = w3.heap.size := ⟨_, rfl⟩
        obtain ⟨bf, hbf⟩ : ∃ g, g = w1.heap.size := ⟨_, rfl⟩
        obtain ⟨W0, hW0⟩ : ∃ W, W = w4.alloc (.cells #[.slice (some ⟨w3.heap.size, 0, none⟩) xs.length xs.length] 37) := ⟨_, rfl⟩
        obtain ⟨byy, hby⟩ : ∃ g, g = w4.heap.size := ⟨_, rfl⟩
        have hy0 : Boxed W0 byy 37 (.slice (some ⟨gy, 0, none⟩) xs.length xs.length) := by rw [hW0, hby, hgy]; exact Boxed.new w4 _ _
        have hb0 : Below w3.heap.size w3 W0 := by rw [hW0]; exact hb4.alloc hb4.size _
        have hY0 : RowAt .u64 22 W0 w.heap.size gy xs.length (Stp.wrt f []) := by
          rw [hW0, hgy]
          exact (hY4.below (below_al (Below.refl _ _) _)).congr (fun i _ => (HN0.out i).symm)
        have z1 : w.heap.size + 4 ≤ w1.heap.size := D1.out.z
        have z2 : w1.heap.size + 1 ≤ w3.heap.size := by
          have := B3.out.size
          rwa [World.size_alloc] at this
        have z3 : w3.heap.size < w4.heap.size := by
          have := hY4.lt.2
          exact this
        have z4 : W0.heap.size = w4.heap.size + 1 := by rw [hW0, World.size_alloc]
        have D5 := D3.out.then hb0
        have hfb : W0.cell? ⟨bf, 0, none⟩ = some (.slice (some ⟨gt, 0, none⟩) tn ct) := by
          have a1 := Boxed.new w1 37 (.slice (some ⟨gt, 0, none⟩) tn ct)
          have a2 := (B3.out.cell (p := ⟨w1.heap.size, 0, none⟩) (by rw [World.size_alloc]; exact Nat.lt_succ_self _)).trans a1.cell
          rw [hbf]
          exact (hb0.cell (p := ⟨w1.heap.size, 0, none⟩) (by show w1.heap.size < _; omega)).trans a2
        have hft : ∀ j, j < tn → W0.cell? ⟨gt, j, none⟩ = some (.int .u64 (tb.getD j 0)) := fun j hj => by
          have a1 := O1.out.num HTLn.out hj
          have a2 := ((below_al (Below.refl w1.heap.size w1) (.cells #[.slice (some ⟨gt, 0, none⟩) tn ct] 37)).cell (p := ⟨gt, j, none⟩) hg2).trans a1
          have a3 := (B3.out.cell (p := ⟨gt, j, none⟩) (by rw [World.size_alloc]; show gt < _; omega)).trans a2
          exact (hb0.cell (p := ⟨gt, j, none⟩) (by show gt < _; omega)).trans a3
        have hC : Caps W0 p inv ⟨ax, tw, st⟩ xs tb xs.length tn w.heap.size (w.heap.size + 1) (w.heap.size + 1 + 1) (w.heap.size + 1 + 1 + 1) bf byy gy := by
          refine ⟨D5.p, D5.i, D5.s, ⟨_, cap', D5.x, b, off, rfl, ?_, ?_, fun j hj => (D5.b.cell (p := ⟨b, off + j, none⟩) hb).trans (HXc.out j hj)⟩, ⟨gt, ct, hfb, ?_, ?_, hft⟩, hy0.cell, ⟨?_, ?_, ?_, ?_, ?_, ?_⟩, ⟨?_, ?_, ?_, ?_, ?_, ?_⟩, HGl.out.then D5.b, ?_⟩
          all_goals omega
        have hJ : Writ W0 w.heap.size gy xs.length f [] (fun k => k = gy) W0 := ⟨rfl, But.refl _ _, hY0⟩
        have hrd : Reads .i64 W0 W0.heap.size (some ⟨gd, 0, none⟩) (dims xa) := by rw [HIs.out]; exact (RD.out.below hb0).more hb0.size
        have T5 := Lib.hid (HTl.out _ _ _ _ (HWr.out W0 w.heap.size _ _ _ _ _ _ _ hC) gd 0 cd (fun k => k = gy) W0 hrd (by omega) hcd (by omega) hJ (fun _ _ g hg => hg))
        have HR : Hid (∀ w5, ToldRet (Writ W0 w.heap.size gy xs.length f) W0 (fun k => k = gy) gs (.returned (.tuple #[])) w5 → w5.cell? ⟨byy, 0, none⟩ = some (.slice (some ⟨gy, 0, none⟩) xs.length xs.length) ∧ LineRet w res 0 (.returned (.tuple #[.slice (some ⟨gy, 0, none⟩) xs.length xs.length, .int .i64 0])) w5) := Lib.hid (fun w5 hr => by
          obtain ⟨-, F', ⟨hFe, hbt, hY5⟩, -, -⟩ := hr
          refine ⟨(cell_block (hbt.block byy (by omega) (by omega))).trans hy0.cell, _, rfl, ?_, D5.b.trans (hbt.below D5.b.size (fun k hk => by omega))⟩
          have := hY5.congr (f' := f) (fun i hi => HAl.out i hi)
          unfold RowAt at this
          rwa [HSt.out] at this)
        obtain ⟨k0, k1, k2, k3, k4⟩ := D5.s
        dsimp only at k0 k1 k2 k3 k4
        have hyc := hy0.cell
        rw [← hW0, ← hby, ← hgy, ← hbf]
        clear hY4 hb4 hgy hbf hW0 hby hy0 hb0 hY0 z1 z2 z3 D5 hfb hft hC hJ hrd D0 D1 D3 O1 B3 RD HTb HTl HWr q1 q2 q3 q4 hown4 hgrow4
        go_wp2_with (go_at_call 52; refine T5.out.mono ?_; rintro e w5 ⟨rfl, hT5⟩; obtain ⟨c5, hR5⟩ := HR.out w5 ⟨rfl, hT5⟩; have HR5 := Lib.hid hR5; clear hT5 hR5)
        go_ret2
        exact HR5.out
    · have e1 : Stp.wE p xa s xs = 6 := by unfold Stp.wE; rw [if_neg (by simp [hE]), if_pos hlen]
      have e2 : Stp.wL p xa inv s xs = [] := Stp.wL_no (by rw [e1]; decide)
      rw [e1, e2]
      generalize hT : (List.range (Stp.tabn xa s)).map (Stp.tabN p xa inv s) = tb at HTb HTLn
      generalize Stp.tabn xa s = tn at tn1 tn2 HTLn
      have hnn : ((xs.length : Int) != ((Sh.prod (szs xa) : Nat) : Int)) = true := by rw [bne_iff_ne]; omega
      obtain ⟨P, hPd⟩ : ∃ P, P = Sh.prod (szs xa) := ⟨_, rfl⟩
      rw [← hPd] at HAll hP1 hP4 hnn
      obtain ⟨ax, tw, st⟩ := s
      unfold doW at D0 HTb
      unfold spV at HTb ⊢
      dsimp only at D0 HTb ⊢
      clear hG hx hy hw hE e1 e2 hD0 hs hT hPd hml hlen
      go_enter Tryd.func26, Tryd.ntmps26
      go_wp2_with (first
        | (go_at_call 27; refine HTb.out.mono ?_; intro e w1 hr; obtain ⟨gt, ct, rfl, hg1, hg2, -, -, hO, b1⟩ := LineRet.open hr HTLn.out tn1; have D1 := Lib.hid (D0.out.then b1); clear hr hO b1)
        | (go_at_call 50; refine (HD.out _ (below_al D1.out.b _)).mono ?_; rintro e w3 ⟨v, rfl, hO, b3⟩; obtain ⟨xd, cd, rfl, hcd, -, -, hgd⟩ := hO.form; rw [HDL.out] at hcd hgd ⊢; obtain ⟨gd, rfl, hg1', hg2'⟩ := hgd hn1; have D3 := Lib.hid ((D1.out.then (below_al (Below.refl _ _) _)).then b3); obtain ⟨q1, q2, q3, q4, -, -⟩ := D3.out; have RD := Lib.hid hO.reads; rw [HIs.out] at RD; clear hO b3 hgd)
        | (go_at_call 51; refine (HAll.out w3 _ cd RD.out).mono ?_; rintro e w' ⟨rfl, rfl⟩))
      go_ret2
      exact ⟨_, rfl, Owns.nil, D3.out.b⟩
  · have e1 : Stp.wE p xa s xs = Stp.stepE p xa s := by unfold Stp.wE; rw [if_pos hE]
    have e2 : Stp.wL p xa inv s xs = [] := Stp.wL_no (by rw [e1]; exact hE)
    rw [e1, e2]
    have tt := ne_of_bne hE
    generalize Stp.tabL p xa inv s = tb at HTb
    generalize Stp.stepE p xa s = er at HTb tt ⊢
    obtain ⟨ax, tw, t⟩ := s
    unfold doW at D0 HTb
    unfold spV at HTb ⊢
    dsimp only at D0 HTb ⊢
    clear hG hx hy hw hE e1 e2 hD0
    go_enter Tryd.func26, Tryd.ntmps26
    go_wp2_with (go_at_call 27; refine HTb.out.mono ?_; rintro e w1 ⟨v, rfl, hO, b1⟩; obtain ⟨x1, c1, rfl, -⟩ := hO.form)
    go_ret2
    exact ⟨_, rfl, Owns.nil, below_al (D0.out.b.trans (b1.mono D0.out.b.size)) _⟩

theorem stepHas : StepHas Gl where
  keep := fun h hb => h.then hb
  check := fun p x n cap xa s w hG hx hn hl _ => check16_any p x n cap xa s w hG hx hn hl
  table := fun p x n cap xa inv s w hG hx hn hl _ => table16_any p x n cap xa inv s w hG hx hn hl
  doo := fun p x n cap xa inv s y m cap' xs w hG hx hn hl _ hy hm hw hml => do16_any p x n cap xa inv s y m cap' xs w hG hx hn hl hy hm hw hml

end Go.Proofs.YtlbfllaaabginaaDoor
