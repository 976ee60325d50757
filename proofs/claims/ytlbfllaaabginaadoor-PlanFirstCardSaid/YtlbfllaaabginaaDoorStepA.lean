/-
  Several texts in one: StepHas, StepGrp, SpIn, StepLive, SpRow, Stage, Stages, StepCheck, StepTab, StepTable, StepIn.
-/
import Derived.Test.YtlbfllaaabginaaDoorStepMath
import Derived.Test.YtlbfllaaabginaaDoorGrids
import Derived.Test.YtlbfllaaabginaaDoorPairs
import Derived.Test.YtlbfllaaabginaaDoorFlys
import Derived.Test.YtlbfllaaabginaaDoorRows2
import Derived.Test.YtlbfllaaabginaaDoorGround
import Derived.Test.YtlbfllaaabginaaDoorRoots
import Derived.Lib.SmallJoins
import Derived.Deep.Strs
import Derived.Laws.Rows
import Derived.Laws.StructEq
import Derived.Deep.RegionWith
import Derived.OwnWalk

/-!   What the laws of layer 16 ask of step's functions, in one word; and the chapter's example from that.
-/

namespace Go.Proofs.YtlbfllaaabginaaDoor
open Go.RowKit

/-- A step as the program has it. -/
def spV (s : Sp) : Value := .agg #[.int .i64 s.ax, .bool s.tw, .int .i64 s.st.r, .int .i64 s.st.l, .int .i64 s.st.m]
/-- Its numbers are those of int. -/
structure SpIn (s : Sp) : Prop where
  ax : -9223372036854775808 ≤ s.ax ∧ s.ax < 9223372036854775808
  r : -9223372036854775808 ≤ s.st.r ∧ s.st.r < 9223372036854775808
  l : -9223372036854775808 ≤ s.st.l ∧ s.st.l < 9223372036854775808
  m : -9223372036854775808 ≤ s.st.m ∧ s.st.m < 9223372036854775808

/-- A step in memory. -/
structure SpAt (w : World) (g : Nat) (s : Sp) : Prop where
  c0 : w.cell? ⟨g, 0, none⟩ = some (.int .i64 s.ax)
  c1 : w.cell? ⟨g, 1, none⟩ = some (.bool s.tw)
  c2 : w.cell? ⟨g, 2, none⟩ = some (.int .i64 s.st.r)
  c3 : w.cell? ⟨g, 3, none⟩ = some (.int .i64 s.st.l)
  c4 : w.cell? ⟨g, 4, none⟩ = some (.int .i64 s.st.m)
theorem SpAt.new (w : World) (t : TypeId) (s : Sp) : SpAt (w.alloc (.cells #[.int .i64 s.ax, .bool s.tw, .int .i64 s.st.r, .int .i64 s.st.l, .int .i64 s.st.m] t)) w.heap.size s := ⟨by simp, by simp, by simp, by simp, by simp⟩
theorem SpAt.below {w w' : World} {g B : Nat} {s : Sp} (h : SpAt w g s) (hg : g < B) (hb : Below B w w') : SpAt w' g s :=
  ⟨(hb.cell (p := ⟨g, 0, none⟩) hg).trans h.c0, (hb.cell (p := ⟨g, 1, none⟩) hg).trans h.c1, (hb.cell (p := ⟨g, 2, none⟩) hg).trans h.c2, (hb.cell (p := ⟨g, 3, none⟩) hg).trans h.c3, (hb.cell (p := ⟨g, 4, none⟩) hg).trans h.c4⟩
theorem SpAt.lt {w : World} {g : Nat} {s : Sp} (h : SpAt w g s) : g < w.heap.size := World.block_lt_of_cell? _ _ h.c0
theorem SpAt.then {w w' : World} {g : Nat} {s : Sp} (h : SpAt w g s) (hb : Below w.heap.size w w') : SpAt w' g s := h.below h.lt hb

/-- What Predict tells. -/
def pr0 (p : Int) (xa : List Ax) (inv : Bool) (s : Sp) (xs : List Int) : Int := if Stp.wE p xa s xs = 0 then Cd.sm0 p (Stp.stp p xa inv s xs) else 0
def pr1 (p : Int) (xa : List Ax) (inv : Bool) (s : Sp) (xs : List Int) : Int := if Stp.wE p xa s xs = 0 then Cd.sm1 p (Stp.stp p xa inv s xs) else 0

/-- What Check, Table, Do and Predict come to, in a world in which G holds. -/
structure StepHas (G : World → Prop) : Prop where
  keep : ∀ {w w' : World}, G w → Below w.heap.size w w' → G w'
  check : ∀ (p : Int) (x : Option Addr) (n cap : Nat) (xa : List Ax) (s : Sp) (w : World), G w → ReadsA w w.heap.size x xa → xa.length = n → n ≤ 8796093022208 → SpIn s →
    Calls Tryd.prog 57 #[.int .u64 p, .slice x n cap, spV s] w (RetB (.int .i64 (Stp.stepE p xa s)) w)
  table : ∀ (p : Int) (x : Option Addr) (n cap : Nat) (xa : List Ax) (inv : Bool) (s : Sp) (w : World), G w → ReadsA w w.heap.size x xa → xa.length = n → n ≤ 8796093022208 → SpIn s →
    Calls Tryd.prog 27 #[.int .u64 p, .slice x n cap, .bool inv, spV s] w (LineRet w (Stp.tabL p xa inv s) (Stp.stepE p xa s))
  doo : ∀ (p : Int) (x : Option Addr) (n cap : Nat) (xa : List Ax) (inv : Bool) (s : Sp) (y : Option Addr) (m cap' : Nat) (xs : List Int) (w : World), G w → ReadsA w w.heap.size x xa → xa.length = n → n ≤ 8796093022208 → SpIn s →
    Reads .u64 w w.heap.size y xs → xs.length = m → Words xs → m ≤ maxLen →
    Calls Tryd.prog 26 #[.int .u64 p, .slice x n cap, .bool inv, spV s, .slice y m cap'] w (LineRet w (Stp.wL p xa inv s xs) (Stp.wE p xa s xs))

end Go.Proofs.YtlbfllaaabginaaDoor

/-!   Groups of places in memory, and what the laws of layer 16 ask of step.Groups.
-/

namespace Go.Proofs.YtlbfllaaabginaaDoor
open Go.RowKit

def noGp : Gp := ⟨[], [], []⟩
/-- A group in memory: three rows, wherever they lie. -/
structure GpAt (w : World) (B b o : Nat) (g : Gp) : Prop where
  inn : ∃ x c, w.cell? ⟨b, o, none⟩ = some (.slice x g.inn.length c) ∧ Reads .i64 w B x (Sh.ints g.inn)
  fac : ∃ x c, w.cell? ⟨b, o + 1, none⟩ = some (.slice x g.fac.length c) ∧ Reads .i64 w B x (Sh.ints g.fac)
  out : ∃ x c, w.cell? ⟨b, o + 2, none⟩ = some (.slice x g.out.length c) ∧ Reads .i64 w B x (Sh.ints g.out)
/-- A slice of groups, read as a list. -/
def ReadsG (w : World) (B : Nat) (x : Option Addr) (gs : List Gp) : Prop :=
  0 < gs.length → ∃ b off, x = some ⟨b, off, none⟩ ∧ b < B ∧ ∀ j, j < gs.length → GpAt w B b (off + j * 3) (gs.getD j noGp)
section
variable {w w' : World} {B B' b o : Nat} {x : Option Addr} {g : Gp} {gs : List Gp}
theorem GpAt.below (h : GpAt w B b o g) (hb : b < B) (hw : Below B w w') : GpAt w' B b o g := by
  obtain ⟨x1, c1, e1, r1⟩ := h.inn
  obtain ⟨x2, c2, e2, r2⟩ := h.fac
  obtain ⟨x3, c3, e3, r3⟩ := h.out
  exact ⟨⟨x1, c1, (hw.cell (p := ⟨b, o, none⟩) hb).trans e1, r1.below hw⟩, ⟨x2, c2, (hw.cell (p := ⟨b, o + 1, none⟩) hb).trans e2, r2.below hw⟩, ⟨x3, c3, (hw.cell (p := ⟨b, o + 2, none⟩) hb).trans e3, r3.below hw⟩⟩
theorem GpAt.more (h : GpAt w B b o g) (hB : B ≤ B') : GpAt w B' b o g := by
  obtain ⟨x1, c1, e1, r1⟩ := h.inn
  obtain ⟨x2, c2, e2, r2⟩ := h.fac
  obtain ⟨x3, c3, e3, r3⟩ := h.out
  exact ⟨⟨x1, c1, e1, r1.more hB⟩, ⟨x2, c2, e2, r2.more hB⟩, ⟨x3, c3, e3, r3.more hB⟩⟩
theorem ReadsG.below (h : ReadsG w B x gs) (hw : Below B w w') : ReadsG w' B x gs := fun hn => by
  obtain ⟨b, off, e, hb, hc⟩ := h hn
  exact ⟨b, off, e, hb, fun j hj => (hc j hj).below hb hw⟩
theorem ReadsG.more (h : ReadsG w B x gs) (hB : B ≤ B') : ReadsG w B' x gs := fun hn => by
  obtain ⟨b, off, e, hb, hc⟩ := h hn
  exact ⟨b, off, e, by omega, fun j hj => (hc j hj).more hB⟩
theorem ReadsG.nil : ReadsG w B x [] := fun h => absurd h (by simp)
end

end Go.Proofs.YtlbfllaaabginaaDoor

/-!   A step that is handed in by value.
-/

namespace Go.Proofs.YtlbfllaaabginaaDoor
open Go.RowKit Go.Deep Go.ChangeShapes Go.WideShapes

theorem cells_spS : Tryd.prog.cellsOf 49 = 5 := by kernel_rfl
theorem cells_stgS : Tryd.prog.cellsOf 47 = 3 := by kernel_rfl
theorem cells_intS : Tryd.prog.cellsOf 3 = 1 := by kernel_rfl
theorem cells_boolS : Tryd.prog.cellsOf 4 = 1 := by kernel_rfl
theorem five_of {α : Type} {cs : List α} (h : cs.length = 5) : ∃ a b c d e, cs = [a, b, c, d, e] := by
  match cs, h with
  | [a, b, c, d, e], _ => exact ⟨a, b, c, d, e, rfl⟩

set_option maxRecDepth 100000 in
theorem open_sp {H : Type} {enc : TypeId × Value → H} {w : World} {base : Nat} {spare : Nat → Bool} {held : Bool} {r : Reach} {b0 : Nat} {v : Value} {d : DataW H} {p : List MemPlace}
    (hv : Value.okWide Tryd.prog w r b0 49 v) (h : DataW.Trod enc Tryd.prog w base spare held 49 v d p) : ∃ s : Sp, v = spV s ∧ SpIn s := by
  obtain ⟨cs, rfl, hsz⟩ := okWide_struct Tryd.underlying49 hv
  rw [cells_spS] at hsz
  obtain ⟨l⟩ := cs
  obtain ⟨v0, v1, v2, v3, v4, rfl⟩ := five_of (show l.length = 5 from hsz)
  obtain ⟨fuel, hf⟩ := h
  obtain ⟨y0, y1, y2, k, _, _, g0, g1, g2⟩ := trod_struct3 Tryd.underlying49 hf
  simp only [Value.cells] at g0 g1 g2
  rw [cells_intS] at g0
  rw [cells_boolS] at g1
  rw [cells_stgS] at g2
  obtain ⟨z0, z1, z2, k', _, _, e0, e1, e2⟩ := trod_struct3 Tryd.underlying47 g2
  rw [cells_intS] at e0 e1 e2
  obtain ⟨n0, q0, _, w0⟩ := DataW.trod_int Tryd.underlying3 g0
  obtain ⟨n1, q1, _⟩ := DataW.trod_bool Tryd.underlying4 g1
  obtain ⟨n2, q2, _, w2⟩ := DataW.trod_int Tryd.underlying3 e0
  obtain ⟨n3, q3, _, w3⟩ := DataW.trod_int Tryd.underlying3 e1
  obtain ⟨n4, q4, _, w4⟩ := DataW.trod_int Tryd.underlying3 e2
  simp at q0 q1 q2 q3 q4
  subst q0 q1 q2 q3 q4
  have b0' := i64_of w0
  have b2' := i64_of w2
  have b3' := i64_of w3
  have b4' := i64_of w4
  exact ⟨⟨n0, n1, ⟨n2, n3, n4⟩⟩, rfl, ⟨by dsimp only; omega, by dsimp only; omega, by dsimp only; omega, by dsimp only; omega⟩⟩

end Go.Proofs.YtlbfllaaabginaaDoor

/-!   The example that each law of layer 16 begins with.
-/

namespace Go.Proofs.YtlbfllaaabginaaDoor
open Go.RowKit

def exB : List Ax := [⟨2, false⟩]
def exS : Sp := ⟨0, false, ⟨2, 1, 1⟩⟩
theorem exB_axes : Axes 998244353 exB := by
  refine ⟨by decide, ⟨by decide, by decide, by decide, by decide⟩, by decide, fun k hk => ?_, fun k hk => ?_⟩
  · obtain rfl : k = 0 := by simp [exB] at hk; omega
    decide
  · obtain rfl : k = 0 := by simp [exB] at hk; omega
    unfold axR; decide
theorem exS_wok : Stp.Wok 998244353 exB exS [3, 5] := ⟨⟨exB_axes, by decide, by decide, .inr ⟨rfl, by decide⟩⟩, by decide, fun j hj => by
  have : j = 0 ∨ j = 1 := by simp at hj; omega
  rcases this with rfl | rfl <;> decide⟩
theorem fly2 {x : Nat → Int} (h0 : x 0 = 3) (h1 : x 1 = 5) : Fly.doN 998244353 false 2 x 0 = 8 ∧ Fly.doN 998244353 false 2 x 1 = 998244351 := by
  have hr : Fly.Rdx 998244353 2 := ⟨by decide, by decide, by decide, by decide⟩
  constructor
  · rw [Fly.doN_first]
    simp [Fp.sum, h0, h1]
  · have ht := Fp.Turns.half (m := 1) (hr.turns false)
    rw [Int.pow_succ, Int.pow_zero, Int.one_mul] at ht
    refine Fly.same_of ((Fly.doN_eqm 1).trans ?_) (Fly.doN_bd (by decide) 1) (by decide)
    have e : Fp.fw (Fly.root 998244353 false 2) false 2 x 1 = 3 + 5 * Fly.root 998244353 false 2 := by
      simp [Fp.fw, Fp.sum, Fp.ex, Int.pow_succ, h0, h1]
    rw [e]
    exact (Fp.eqm.rfl.add (Fp.eqm.rfl.mul ht)).trans (by unfold Fp.eqm; decide)
theorem fac2 (k : Nat) (hk : k < 2) : Stp.stT 998244353 false 2 1 k = 1 := by
  unfold Stp.stT
  rw [if_neg (by simp), Nat.div_eq_of_lt hk, Nat.zero_mul, Fp.pw_zero, Fp.red_one (by decide)]
theorem exS_stL (k : Nat) (hk : k < 2) : Stp.stL 998244353 false 2 1 1 (nth [3, 5]) k = if k = 0 then 8 else 998244351 := by
  unfold Stp.stL
  rw [Nat.div_one, Nat.mod_eq_of_lt hk, fac2 k hk, Nat.div_eq_of_lt hk, Nat.mod_one]
  obtain ⟨a, b⟩ := fly2 (x := fun t => nth [3, 5] (0 + 1 * (0 + 1 * t))) rfl rfl
  have : k = 0 ∨ k = 1 := by omega
  rcases this with rfl | rfl
  · rw [a]; decide
  · rw [b]; decide
theorem exS_at (i : Nat) (hi : i < 2) : Stp.stpN 998244353 exB false exS [3, 5] i = if i = 0 then 8 else 998244351 := by
  have e1 : gI exB exS.ax.toNat = 1 := by decide
  have e2 : gL exB exS.ax.toNat = 2 := by decide
  have e4 : lnOf exB exS.ax.toNat [3, 5] (Sh.lnum 1 2 i) = [3, 5] := by
    have : i = 0 ∨ i = 1 := by omega
    rcases this with rfl | rfl <;> decide
  unfold Stp.stpN
  rw [e1, e2, e4]
  unfold Stp.lnS
  rw [if_neg (by decide)]
  unfold Stp.stLn
  rw [Nat.div_one, getD_range _ (Nat.mod_lt _ (by omega)), Nat.mod_eq_of_lt hi]
  exact exS_stL i hi
theorem exS_do : Stp.stp 998244353 exB false exS [3, 5] = [8, 998244351] := by
  unfold Stp.stp
  exact list_eq_range rfl fun k hk => by
    have hk : k < 2 := hk
    rw [exS_at k hk]
    have : k = 0 ∨ k = 1 := by omega
    rcases this with rfl | rfl <;> rfl
theorem exB_reads (w : World) (t : TypeId) : ReadsA (w.alloc (.cells #[.int .i64 2, .bool false] t)) (w.heap.size + 1) (some ⟨w.heap.size, 0, none⟩) exB := fun _ =>
  ⟨w.heap.size, 0, rfl, Nat.lt_succ_self _, fun j hj => by
    obtain rfl : j = 0 := by simp [exB] at hj; omega
    simp [exB]⟩

end Go.Proofs.YtlbfllaaabginaaDoor

/-!   Slices of steps, read as lists; one step as a block of its own; steps put behind a row of steps that the call made for itself.
-/

namespace Go.Proofs.YtlbfllaaabginaaDoor
open Go.RowKit

def noSp : Sp := ⟨0, false, noSt⟩
def spc (s : Sp) : List Value := [.int .i64 s.ax, .bool s.tw, .int .i64 s.st.r, .int .i64 s.st.l, .int .i64 s.st.m]
def spO (s : Sp) : Obj := .cells #[.int .i64 s.ax, .bool s.tw, .int .i64 s.st.r, .int .i64 s.st.l, .int .i64 s.st.m] 49

/-- The five cells at offset o of block b are the step s. -/
def SpOf (w : World) (b o : Nat) (s : Sp) : Prop :=
  w.cell? ⟨b, o, none⟩ = some (.int .i64 s.ax) ∧ w.cell? ⟨b, o + 1, none⟩ = some (.bool s.tw) ∧ w.cell? ⟨b, o + 2, none⟩ = some (.int .i64 s.st.r) ∧ w.cell? ⟨b, o + 3, none⟩ = some (.int .i64 s.st.l) ∧ w.cell? ⟨b, o + 4, none⟩ = some (.int .i64 s.st.m)
theorem SpOf.keep {w w' : World} {b o B : Nat} {s : Sp} (h : SpOf w b o s) (hb : b < B) (hk : ∀ p : Addr, p.block < B → w'.cell? p = w.cell? p) : SpOf w' b o s :=
  ⟨(hk _ hb).trans h.1, (hk _ hb).trans h.2.1, (hk _ hb).trans h.2.2.1, (hk _ hb).trans h.2.2.2.1, (hk _ hb).trans h.2.2.2.2⟩

/-- The address x holds the steps ss, in blocks below B (asked only if there are any). -/
def ReadsP (w : World) (B : Nat) (x : Option Addr) (ss : List Sp) : Prop :=
  0 < ss.length → ∃ b off, x = some ⟨b, off, none⟩ ∧ b < B ∧ ∀ j, j < ss.length → SpOf w b (off + j * 5) (ss.getD j noSp)
section
variable {w w' : World} {B B' : Nat} {x : Option Addr} {ss : List Sp}
theorem ReadsP.keep (h : ReadsP w B x ss) (hk : ∀ p : Addr, p.block < B → w'.cell? p = w.cell? p) : ReadsP w' B x ss := fun hn => by
  obtain ⟨b, off, e, hb, hc⟩ := h hn
  exact ⟨b, off, e, hb, fun j hj => (hc j hj).keep hb hk⟩
theorem ReadsP.more (h : ReadsP w B x ss) (hB : B ≤ B') : ReadsP w B' x ss := fun hn => by
  obtain ⟨b, off, e, hb, hc⟩ := h hn
  exact ⟨b, off, e, by omega, hc⟩
theorem ReadsP.below (h : ReadsP w B x ss) (hb : Below B w w') : ReadsP w' B x ss := h.keep fun _ hp => hb.cell hp
end

/-- The value v is a slice of the steps ss in a row that lies at or beyond block base, and nobody else's. -/
def OwnsP (w : World) (base : Nat) (v : Value) (ss : List Sp) : Prop := w.ownsRow base 49 5 v ss.length (ss.flatMap spc)

theorem flatP_get : ∀ (ss : List Sp) (j : Nat), j < ss.length → ∀ c, c < 5 → (ss.flatMap spc)[j * 5 + c]? = (spc (ss.getD j noSp))[c]?
  | [], j, h, _, _ => by simp at h
  | s :: ss, 0, _, c, hc => by
    rw [List.flatMap_cons, List.getElem?_append_left (by simp [spc]; omega)]
    simp
  | s :: ss, j + 1, h, c, hc => by
    have := flatP_get ss j (by simpa using h) c hc
    rw [List.flatMap_cons, List.getElem?_append_right (by simp [spc]; omega)]
    rw [show (j + 1) * 5 + c - (spc s).length = j * 5 + c by simp [spc]; omega, this]
    simp
theorem flatP_len (ss : List Sp) : (ss.flatMap spc).length = ss.length * 5 := by
  induction ss with
  | nil => rfl
  | cons s ss ih => rw [List.flatMap_cons, List.length_append, ih]; simp [spc]; omega
theorem spc_one (s : Sp) : ∀ v ∈ spc s, v.oneCell' = true := by
  intro v hv
  simp [spc] at hv
  rcases hv with rfl | rfl | rfl | rfl | rfl <;> rfl

section
variable {w w' : World} {base base' : Nat} {v : Value} {ss : List Sp}
theorem OwnsP.nil : OwnsP w base (.slice none 0 0) [] := World.ownsRow_nil _ _ _ _
theorem OwnsP.draws (h : OwnsP w base v ss) (n : Nat) : OwnsP (w.drewN n) base v ss := h
theorem OwnsP.still (h : OwnsP w base v ss) (hk : ∀ g, v.ownBlock = some g → w'.heap[g]? = w.heap[g]?) : OwnsP w' base v ss := by
  refine ⟨h.1, ?_⟩
  rcases h.2 with h2 | ⟨g, cap, cur, e1, e2, e3, e4⟩
  · exact .inl h2
  · exact .inr ⟨g, cap, cur, e1, e2, (hk g (by rw [e1]; rfl)).trans e3, e4⟩
theorem OwnsP.inside (h : OwnsP w base v ss) {g : Nat} (hg : v.ownBlock = some g) : base ≤ g ∧ g < w.heap.size := World.ownsRow.lt h g hg
theorem OwnsP.below (h : OwnsP w base v ss) (hb : Below w.heap.size w w') : OwnsP w' base v ss := h.still fun g e => hb.block g (h.inside e).2
theorem OwnsP.alloc (h : OwnsP w base v ss) (o : Obj) : OwnsP (w.alloc o) base v ss := World.ownsRow.alloc h o
theorem OwnsP.form (h : OwnsP w base v ss) : ∃ x cap, v = .slice x ss.length cap ∧ ss.length ≤ cap ∧ cap ≤ maxLen ∧ ReadsP w w.heap.size x ss := by
  rcases h.2 with ⟨e1, e2⟩ | ⟨g, cap, cur, e1, e2, e3, e4, e5, e6, e7⟩
  · exact ⟨none, 0, by rw [e1, e2], by omega, by unfold maxLen; omega, fun hn => by omega⟩
  · have hg : g < w.heap.size := by
      rcases Nat.lt_or_ge g w.heap.size with hlt | hge
      · exact hlt
      · rw [Array.getElem?_eq_none hge] at e3; cases e3
    refine ⟨some ⟨g, 0, none⟩, cap, e1, e4, e5, fun hn => ⟨g, 0, rfl, hg, fun j hj => ?_⟩⟩
    subst e1
    have hl := flatP_len ss
    have each : ∀ c, c < 5 → w.cell? ⟨g, 0 + j * 5 + c, none⟩ = (spc (ss.getD j noSp))[c]? := fun c hc => by
      rw [Nat.zero_add, World.ownsRow.cellAt h (j * 5 + c) (by omega), flatP_get ss j hj c hc]
    exact ⟨each 0 (by omega), each 1 (by omega), each 2 (by omega), each 3 (by omega), each 4 (by omega)⟩
end

theorem info_sp : (Tryd.prog.info? 49).map (fun i => (i.zero, i.size, i.bytes)) = some (some (.agg #[.int .i64 0, .bool false, .int .i64 0, .int .i64 0, .int .i64 0]), 5, 40) := by kernel_rfl

theorem cell_sp_new (w : World) (s : Sp) : ∀ j u, (spc s)[j]? = some u → (w.alloc (spO s)).cell? ((⟨w.heap.size, 0, none⟩ : Addr).add j) = some u := by
  unfold spO
  intro j u hj
  match j, hj with
  | 0, hj => simp [spc] at hj; subst hj; simp [Addr.add]
  | 1, hj => simp [spc] at hj; subst hj; simp [Addr.add]
  | 2, hj => simp [spc] at hj; subst hj; simp [Addr.add]
  | 3, hj => simp [spc] at hj; subst hj; simp [Addr.add]
  | 4, hj => simp [spc] at hj; subst hj; simp [Addr.add]
  | n + 5, hj => simp [spc] at hj

/-- One step put behind a row of steps of the call's own. -/
theorem wpList_append_sp {w : World} {ops : Array Oper} {rest : List Oper} {o : Oper} {a : Act} {Q : Exit → Act → World → Prop} (hgd : o.guard = none) (s x : Operand)
    (ho : o.op = .call { callee := .builtin .append, args := #[s, x], argTypes := #[26, 26] }) (base : Nat)
    (v : Value) (ss : List Sp) (hs : a.eval s = v) (hown : OwnsP w base v ss) (ad : Addr) (cap : Nat) (y : Sp) (hx : a.eval x = .slice (some ad) 1 cap) (hsrc : ∀ j u, (spc y)[j]? = some u → w.cell? (ad.add j) = some u) (hb : ss.length + 1 ≤ 1000000) (hbase : base ≤ w.heap.size)
    (h : ∀ v' w', OwnsP w' base v' (ss ++ [y]) → w.grownBy w' v.ownBlock → wpList Tryd.prog ops Q rest (a.put o.dst v') w') : wpList Tryd.prog ops Q (o :: rest) a w := by
  obtain ⟨i0, hi, hz0, hz1, hz2⟩ := info_parts info_sp
  refine wpList_append_lies w hgd s x _ ho base 49 i0 (.agg #[.int .i64 0, .bool false, .int .i64 0, .int .i64 0, .int .i64 0]) 5 40 Tryd.underlying26 hi hz0 hz1 hz2 rfl (by decide) v ss.length (ss.flatMap spc) hs hown ad 1 cap (spc y) hx rfl hsrc (spc_one y) (by omega) (by unfold maxLen; omega) (by omega) hbase _ rfl ?_
  intro g cp w' hown' hg hat _
  refine h _ w' ?_ hg
  unfold OwnsP
  rw [List.length_append, List.flatMap_append]
  simpa using hown'

end Go.Proofs.YtlbfllaaabginaaDoor

/-!   Slices of stages, read as lists; the comparisons of two such slices and of two slices of integers.
-/

namespace Go.Proofs.YtlbfllaaabginaaDoor
open Go.RowKit

def scells (s : Fac.Stg) : List Value := [.int .i64 s.r, .int .i64 s.l, .int .i64 s.m]
def noStg : Fac.Stg := ⟨0, 0, 0⟩

/-- The address x holds the stages ss, in blocks below B (asked only if there are any). -/
def ReadsS (w : World) (B : Nat) (x : Option Addr) (ss : List Fac.Stg) : Prop :=
  0 < ss.length → ∃ b off, x = some ⟨b, off, none⟩ ∧ b < B ∧ ∀ j, j < ss.length →
    w.cell? ⟨b, off + j * 3, none⟩ = some (.int .i64 (ss.getD j noStg).r) ∧ w.cell? ⟨b, off + j * 3 + 1, none⟩ = some (.int .i64 (ss.getD j noStg).l) ∧ w.cell? ⟨b, off + j * 3 + 2, none⟩ = some (.int .i64 (ss.getD j noStg).m)

section
variable {w w' : World} {B B' : Nat} {x : Option Addr} {ss : List Fac.Stg}
theorem ReadsS.nil : ReadsS w B x [] := fun h => absurd h (by simp)
theorem ReadsS.keep (h : ReadsS w B x ss) (hk : ∀ p : Addr, p.block < B → w'.cell? p = w.cell? p) : ReadsS w' B x ss := fun hn => by
  obtain ⟨b, off, e, hb, hc⟩ := h hn
  exact ⟨b, off, e, hb, fun j hj => ⟨(hk _ (by exact hb)).trans (hc j hj).1, (hk _ (by exact hb)).trans (hc j hj).2.1, (hk _ (by exact hb)).trans (hc j hj).2.2⟩⟩
theorem ReadsS.more (h : ReadsS w B x ss) (hB : B ≤ B') : ReadsS w B' x ss := fun hn => by
  obtain ⟨b, off, e, hb, hc⟩ := h hn
  exact ⟨b, off, e, by omega, hc⟩
theorem ReadsS.below (h : ReadsS w B x ss) (hb : Below B w w') : ReadsS w' B x ss := h.keep fun _ hp => hb.cell hp
theorem ReadsS.draws (h : ReadsS w B x ss) (n : Nat) : ReadsS (w.drewN n) B x ss := h
end

theorem stg_guard : Tryd.prog.eqGuardType Tryd.prog.depth 47 = false := by kernel_rfl

theorem stg_held : Tryd.prog.stoodInHeld 47 = false := by kernel_rfl

theorem neq_stg (a b c d e f : Int) (w : World) :
    (binOp .neq 47 (.agg #[.int .i64 a, .int .i64 b, .int .i64 c]) (.agg #[.int .i64 d, .int .i64 e, .int .i64 f])).run Tryd.prog w = .ok (.bool (!decide ((⟨a, b, c⟩ : Fac.Stg) = ⟨d, e, f⟩))) w := by
  rw [run_neq_struct, run_equalIn_struct w 9999 _ _ _ (by simp [Program.fieldsOf, Tryd.underlying47]) stg_held]
  simp [Program.fieldsOf, Tryd.underlying47, Op.eqFields, go_sem]
  by_cases h1 : a = d <;> by_cases h2 : b = e <;> by_cases h3 : c = f <;> simp [h1, h2, h3]

/-- The value v is a slice of the stages ss in a row that lies at or beyond block base, and nobody else's. -/
def OwnsS (w : World) (base : Nat) (v : Value) (ss : List Fac.Stg) : Prop := w.ownsRow base 47 3 v ss.length (ss.flatMap scells)

theorem flat_get : ∀ (ss : List Fac.Stg) (j : Nat), j < ss.length → (ss.flatMap scells)[j * 3]? = some (.int .i64 (ss.getD j noStg).r) ∧ (ss.flatMap scells)[j * 3 + 1]? = some (.int .i64 (ss.getD j noStg).l) ∧ (ss.flatMap scells)[j * 3 + 2]? = some (.int .i64 (ss.getD j noStg).m)
  | [], j, h => by simp at h
  | s :: ss, 0, _ => by simp [scells]
  | s :: ss, j + 1, h => by
    have := flat_get ss j (by simpa using h)
    have e : ∀ c, ((s :: ss).flatMap scells)[(j + 1) * 3 + c]? = (ss.flatMap scells)[j * 3 + c]? := by
      intro c
      rw [List.flatMap_cons, List.getElem?_append_right (by simp [scells]; omega)]
      congr 1
      simp [scells]; omega
    refine ⟨?_, ?_, ?_⟩
    · have h0 := e 0; simp only [Nat.add_zero] at h0; rw [h0, this.1]; simp
    · rw [e 1, this.2.1]; simp
    · rw [e 2, this.2.2]; simp
theorem stgs_len (ss : List Fac.Stg) : (ss.flatMap scells).length = ss.length * 3 := by
  induction ss with
  | nil => rfl
  | cons s ss ih => rw [List.flatMap_cons, List.length_append, ih]; simp [scells]; omega

section
variable {w w' : World} {base base' : Nat} {v : Value} {ss : List Fac.Stg}
theorem OwnsS.nil : OwnsS w base (.slice none 0 0) [] := World.ownsRow_nil _ _ _ _
theorem OwnsS.mono (h : OwnsS w base v ss) (hb : base' ≤ base) : OwnsS w base' v ss := World.ownsRow.mono h hb
theorem OwnsS.draws (h : OwnsS w base v ss) (n : Nat) : OwnsS (w.drewN n) base v ss := h
theorem OwnsS.keep (h : OwnsS w base v ss) (hk : ∀ g, base ≤ g → g < w.heap.size → w'.heap[g]? = w.heap[g]?) : OwnsS w' base v ss := by
  refine ⟨h.1, ?_⟩
  rcases h.2 with h2 | ⟨g, cap, cur, e1, e2, e3, e4⟩
  · exact .inl h2
  · have hg : g < w.heap.size := by
      rcases Nat.lt_or_ge g w.heap.size with hlt | hge
      · exact hlt
      · rw [Array.getElem?_eq_none hge] at e3; cases e3
    exact .inr ⟨g, cap, cur, e1, e2, (hk g e2 hg).trans e3, e4⟩
theorem OwnsS.below (h : OwnsS w base v ss) (hb : Below w.heap.size w w') : OwnsS w' base v ss := h.keep fun g _ hg => hb.block g hg
theorem OwnsS.form (h : OwnsS w base v ss) : ∃ x cap, v = .slice x ss.length cap ∧ ss.length ≤ cap ∧ cap ≤ maxLen ∧ ReadsS w w.heap.size x ss := by
  rcases h.2 with ⟨e1, e2⟩ | ⟨g, cap, cur, e1, e2, e3, e4, e5, e6, e7⟩
  · exact ⟨none, 0, by rw [e1, e2], by omega, by unfold maxLen; omega, fun hn => by omega⟩
  · have hg : g < w.heap.size := by
      rcases Nat.lt_or_ge g w.heap.size with hlt | hge
      · exact hlt
      · rw [Array.getElem?_eq_none hge] at e3; cases e3
    refine ⟨some ⟨g, 0, none⟩, cap, e1, e4, e5, fun hn => ⟨g, 0, rfl, hg, fun j hj => ?_⟩⟩
    subst e1
    obtain ⟨f1, f2, f3⟩ := flat_get ss j hj
    have hl := stgs_len ss
    refine ⟨?_, ?_, ?_⟩
    · rw [Nat.zero_add, World.ownsRow.cellAt h (j * 3) (by omega), f1]
    · rw [Nat.zero_add, World.ownsRow.cellAt h (j * 3 + 1) (by omega), f2]
    · rw [Nat.zero_add, World.ownsRow.cellAt h (j * 3 + 2) (by omega), f3]
theorem OwnsS.push {s : Fac.Stg} (h : w.ownsRow base 47 3 v (ss.length + 1) (ss.flatMap scells ++ scells s)) : OwnsS w base v (ss ++ [s]) := by
  unfold OwnsS; rw [List.length_append, List.flatMap_append]; simpa using h
end

theorem info_stg : (Tryd.prog.info? 47).map (fun i => (i.zero, i.size, i.bytes)) = some (some (.agg #[.int .i64 0, .int .i64 0, .int .i64 0]), 3, 24) := by kernel_rfl

end Go.Proofs.YtlbfllaaabginaaDoor

/-!   What Stages and Check of package factor come to, over every input.
-/

namespace Go.Proofs.YtlbfllaaabginaaDoor
open Go.RowKit Go.Shelf

attribute [local go_sem] Oper.semAt_some

theorem stages_no (n : Int) (w : World) (h : Fac.sm n = false) :
    Calls Tryd.prog 29 #[.int .i64 n] w (RetB (.tuple #[.slice none 0 0, .int .i64 4]) w) := by
  have HS := Lib.hid (smooth_any n)
  rw [h] at HS
  clear h
  have D := Lib.hid ((Below.refl w.heap.size w).alloc (Nat.le_refl _) (.cells #[.int .i64 n] 3))
  go_enter Tryd.func29, Tryd.ntmps29
  go_wp2_with (go_at_call 61; refine (HS.out _).mono ?_; rintro e w' ⟨rfl, hb⟩)
  go_ret2
  exact ⟨rfl, D.out.trans (hb.mono (by simp))⟩

/-- Between two rounds of Stages: the boxes of the size, of the list, and of the product so far. -/
def StInv (n : Nat) (w : World) (B1 B2 : Nat) (pre : List Fac.Rad) (W : World) : Prop :=
  Boxed W w.heap.size 3 (.int .i64 (n : Int)) ∧ (∃ v, Boxed W B1 56 v ∧ OwnsS W w.heap.size v (Fac.stages n pre 1)) ∧ Boxed W B2 3 (.int .i64 (Fac.prod pre : Nat)) ∧ Below w.heap.size w W
theorem StInv.own {n : Nat} {w : World} {B1 B2 B : Nat} (hB : w.heap.size ≤ B) : OwnFrom B (StInv n w B1 B2) := by
  rintro js W W' row ⟨h0, ⟨v, h1, h2⟩, h3, h4⟩ hg hr
  exact ⟨boxed_stays h0 hg (fun r e => (hr r e).2), ⟨v, boxed_stays h1 hg (fun r e => (hr r e).2), owned_stays h2 hg (fun r e => (hr r e).2)⟩, boxed_stays h3 hg (fun r e => (hr r e).2), h4.grown hg h4.size (fun k e => Nat.le_trans hB (hr k e).1)⟩

theorem cell_three_new (w : World) (x y z : Value) (t : TypeId) : ∀ j u, [x, y, z][j]? = some u → (w.alloc (.cells #[x, y, z] t)).cell? ((⟨w.heap.size, 0, none⟩ : Addr).add j) = some u := by
  intro j u hj
  match j, hj with
  | 0, hj => simp at hj; subst hj; simp [Addr.add]
  | 1, hj => simp at hj; subst hj; simp [Addr.add]
  | 2, hj => simp at hj; subst hj; simp [Addr.add]

/-- What a round leaves. -/
theorem StInv.step {n : Nat} {w W w1 : World} {B1 B2 : Nat} {pre : List Fac.Rad} {r : Fac.Rad} {v v' : Value} {p u q nq : Nat} {tmp : Obj}
    (hn : Boxed W w.heap.size 3 (.int .i64 (n : Int))) (hv : Boxed W B1 56 v) (hrow : OwnsS W w.heap.size v (Fac.stages n pre 1)) (hp : Boxed W B2 3 (.int .i64 (Fac.prod pre : Nat))) (hB : Below w.heap.size w W)
    (h1 : w.heap.size < B1) (h2 : B1 < B2) (ep : p = Fac.prod pre) (eu : u = Fac.prod (pre ++ [r])) (eq : q = n / u)
    (hown : w1.ownsRow w.heap.size 47 3 v' ((Fac.stages n pre 1).length + 1) ((Fac.stages n pre 1).flatMap scells ++ [.int .i64 (r.1 : Int), .int .i64 (p : Int), .int .i64 (q : Int)])) (hgrow : ((W.drewN nq).alloc tmp).grownBy w1 v.ownBlock) :
    Boxed w1 B1 56 v ∧ Boxed (w1.setCell ⟨B1, 0, none⟩ v') B2 3 (.int .i64 (p : Int)) ∧
    KeepsOthers W ((w1.setCell ⟨B1, 0, none⟩ v').setCell ⟨B2, 0, none⟩ (.int .i64 (u : Int))) ∧ StInv n w B1 B2 (pre ++ [r]) ((w1.setCell ⟨B1, 0, none⟩ v').setCell ⟨B2, 0, none⟩ (.int .i64 (u : Int))) := by
  obtain ⟨hv1, hv2, hr2, hk2, hb2⟩ := Boxed.appended (W := W.drewN nq) hv (by decide) hrow hB.size (by omega) hown hgrow
  have p1 : Boxed w1 B2 3 (.int .i64 (Fac.prod pre : Nat)) := (Boxed.alloc (W := W.drewN nq) hp tmp).kept hgrow (Boxed.not_row (W := W.drewN nq) hp (by decide) hrow)
  have n1 : Boxed w1 w.heap.size 3 (.int .i64 (n : Int)) := (Boxed.alloc (W := W.drewN nq) hn tmp).kept hgrow (Boxed.not_row (W := W.drewN nq) hn (by decide) hrow)
  have p2 := boxed_set p1 (a := ⟨B1, 0, none⟩) v' (by show B2 ≠ B1; omega)
  have n2 := boxed_set n1 (a := ⟨B1, 0, none⟩) v' (by show w.heap.size ≠ B1; omega)
  refine ⟨hv1, by rw [ep]; exact p2, ((keeps_draws W nq).trans hk2).trans (KeepsOthers.setCell _ _ _), boxed_set n2 (a := ⟨B2, 0, none⟩) _ (by show w.heap.size ≠ B2; omega), ⟨v', boxed_set hv2 (a := ⟨B2, 0, none⟩) _ (by show B1 ≠ B2; omega), ?_⟩, ?_, ?_⟩
  · rw [Fac.stages_snoc]
    have e : (⟨(r.1 : Int), ((1 * Fac.prod pre : Nat) : Int), ((n / (1 * Fac.prod pre * r.1) : Nat) : Int)⟩ : Fac.Stg) = ⟨(r.1 : Int), (p : Int), (q : Int)⟩ := by
      rw [Nat.one_mul, ep, eq, eu, Fac.prod_append, Fac.prod_one]
    rw [e]
    refine OwnsS.push ?_
    exact hr2.kept (grownBy_setCell' _ B2 _) (.inr (p2.not_row (by decide) hr2).symm)
  · rw [← eu]; exact p2.set _
  · exact ((below_draws hB nq).trans hb2).setCell (p := ⟨B2, 0, none⟩) (by show _ ≤ B2; omega) _

set_option maxRecDepth 100000 in
set_option maxHeartbeats 2000000 in
theorem stages_yes (n : Nat) (w : World) (h : Fac.sm (n : Int) = true) :
    Calls Tryd.prog 29 #[.int .i64 (n : Int)] w fun e w' =>
      ∃ v, e = .returned (.tuple #[v, .int .i64 0]) ∧ OwnsS w' w.heap.size v (Fac.stages n (Fac.rads n) 1) ∧ Below w.heap.size w w' := by
  obtain ⟨h1, h2, _⟩ := Fac.sm_of h
  have HS := Lib.hid (smooth_any (n : Int))
  rw [h] at HS
  clear h
  obtain ⟨i0, hi, hz0, hz1, hz2⟩ := info_parts info_stg
  refine (callsIn_wide (n := 3)).1 ?_
  refine callsIn_of_wp_marks Tryd.func29 rfl trivial ?_ rfl
  simp only [Tryd.ntmps29, List.size_toArray, List.length_cons, List.length_nil, Nat.reduceAdd, Nat.reduceSub, Array.replicate_succ, Array.replicate_zero, List.push_toArray, List.append_toArray, List.nil_append, List.cons_append]
  have b0 := Boxed.new w 3 (.int .i64 (n : Int))
  have hB0 := (Below.refl w.heap.size w).alloc (Nat.le_refl _) (.cells #[.int .i64 (n : Int)] 3)
  gi_wp2_with (first
    | (refine ⟨trivial, ?_⟩; gi_at_call 61; refine (callsIn_wide.2 (HS.out _)).mono ?_; rintro e w1 ⟨rfl, hb1⟩; have b1 : Boxed w1 w.heap.size 3 (.int .i64 (n : Int)) := (hb1.block w.heap.size (by simp)).trans b0; have c1 := b1.cell; have s1 := b1.lt)
    | (refine ⟨trivial, ?_⟩; gi_at_call 64; refine (callsIn_wide.2 (radices_any _ _)).mono ?_; rintro e w' ⟨rfl, rfl⟩))
  obtain ⟨W1, hW1⟩ : ∃ W1, (w1.alloc (.cells #[.slice none 0 0] 56)).alloc (.cells #[.int .i64 1] 3) = W1 := ⟨_, rfl⟩
  have hs1 : W1.heap.size = w1.heap.size + 2 := by rw [← hW1]; simp
  have hI0 : StInv n w w1.heap.size (w1.heap.size + 1) [] W1 := by
    rw [← hW1]
    have hB1 : Below w.heap.size w w1 := hB0.trans (hb1.mono (by simp))
    refine ⟨(b1.alloc _).alloc _, ⟨_, (Boxed.new w1 _ _).alloc _, OwnsS.nil⟩, ?_, below_al (below_al hB1 _) _⟩
    have := Boxed.new (w1.alloc (.cells #[.slice none 0 0] 56)) 3 (.int .i64 1)
    rw [World.size_alloc] at this
    exact this
  rw [hW1]
  have bN := Boxed.new W1 3 (.int .i64 (n : Int))
  rw [hs1] at bN
  have hI1 : StInv n w w1.heap.size (w1.heap.size + 1) [] (W1.alloc (.cells #[.int .i64 (n : Int)] 3)) := (StInv.own (B := w.heap.size) (Nat.le_refl _)).alloc _ hI0
  clear hW1 hI0 b0 hB0 c1 b1 hb1
  refine wpIn_rangeFunc_ownG rfl (by omega) (gf := 88) (lb := #[.pointer (some ⟨w1.heap.size + 2, 0, none⟩)]) rfl trivial (enters_of Tryd.func88 (by kernel_rfl) rfl)
    (rads_stops 2 (by omega) (w1.heap.size + 2) n (by omega) (by omega) _ (by simp [hs1]) bN.cell) (fun _ _ => trivial) (fun _ _ _ _ _ _ _ _ => trivial) (Below.refl _ _) (fun _ => rfl)
    (StInv n w w1.heap.size (w1.heap.size + 1)) (fun _ _ _ => False) (StInv.own (by simp; omega)) (fun _ _ _ _ _ hs _ _ => hs) hI1 ?a1 ?assign ?body ?done ?stop
  case assign =>
    intro l j W K hK
    gi_wp2
    exact hK
  case body =>
    rintro l pre r W hJ hl
    have hJ' := hJ
    obtain ⟨hn, ⟨v, hv, hrow⟩, hp, hB⟩ := hJ'
    have cN := hn.cell
    have cV := hv.cell
    have fV := hv.frozen
    have cP := hp.cell
    have fP := hp.frozen
    obtain ⟨p, hp'⟩ : ∃ p, p = Fac.prod pre := ⟨_, rfl⟩
    have p1 : 1 ≤ p := by rw [hp']; exact Fac.prod_pos _
    obtain ⟨u, hu⟩ : ∃ u, u = Fac.prod (pre ++ [r]) := ⟨_, rfl⟩
    have u1 : 1 ≤ u := by rw [hu]; exact Fac.prod_pos _
    have hm : u ≤ 244140625 := by rw [hu]; exact Fac.prod_short (by simp; omega)
    have hz : (p : Int) * (r.1 : Int) = (u : Int) := by rw [hp', hu, Fac.prod_append, Fac.prod_one, Int.natCast_mul]
    obtain ⟨q, hq⟩ : ∃ q, q = n / u := ⟨_, rfl⟩
    have hd : (n : Int) / (u : Int) = (q : Int) := by rw [hq]; exact cast_div n u
    have hq1 : q ≤ 4096 := by rw [hq]; exact Nat.le_trans (Nat.div_le_self n u) (by omega)
    have hu0 : (u : Int) ≠ 0 := by omega
    rw [← hp'] at cP
    have HU := Lib.hid (And.intro hp' (And.intro hu hq))
    clear hI1 bN hp' hu hq
    have hmx : Tryd.prog.follows .mixedOrders = true := by kernel_rfl
    gi_wp2
    refine regionIn_late (l1 := [_, _, _, _, _, _, _, _]) v (.slice (some ⟨W.heap.size, 0, none⟩) 1 1) (.cells #[.int .i64 (r.1 : Int), .int .i64 (p : Int), .int .i64 (q : Int)] 47) hmx (by kernel_rfl) (by kernel_rfl) (fun ⟨_, _, h⟩ => h) (by kernel_rfl) ?_ ?_ ?_
    · intro k; go_simp
    · intro k
      have cV2 := (Boxed.alloc (W := W.drewN k) hv (.cells #[.int .i64 (r.1 : Int), .int .i64 (p : Int), .int .i64 (q : Int)] 47)).cell
      go_simp
    simp only [List.cons_append, List.nil_append, Act.put, List.setIfInBounds_toArray, List.set_cons_succ, List.set_cons_zero]
    repeat (first | go_big_quiet_step (fail) | quiet_step (fail))
    refine wpQuiet_nil ?_
    refine ⟨by kernel_rfl, fun k => ?_, fun nq => ?_⟩
    · go_simp
    have hsl := Lib.hid (Fac.stages_len n pre 1)
    go_wp2_with (at_builtin; refine wpList_append_own _ rfl _ _ 56 rfl w.heap.size 47 i0 (.agg #[.int .i64 0, .int .i64 0, .int .i64 0]) 3 24 Tryd.underlying56 hi hz0 hz1 hz2 rfl (by decide) _ _ _ rfl (World.ownsRow.alloc (w := W.drewN nq) hrow _) ⟨W.heap.size, 0, none⟩ 1 1 [.int .i64 (r.1 : Int), .int .i64 (p : Int), .int .i64 (q : Int)] rfl rfl (cell_three_new (W.drewN nq) _ _ _ _) (by simp [Value.oneCell']) (by have := hsl.out; unfold maxLen; omega) (by have := hsl.out; omega) (by have := hB.size; simp; omega) ?_; intro v' w2 hown' hgrow _; obtain ⟨g', cap', rfl⟩ := ownsRow_succ hown'; obtain ⟨x1, x2, x3, x4⟩ := StInv.step hn hv hrow hp hB s1 (Nat.lt_succ_self _) HU.out.1 HU.out.2.1 HU.out.2.2 hown' hgrow; have hc1 := x1.cell; have hf1 := x1.frozen; have hc2 := x2.cell; have hf2 := x2.frozen)
    gi_wp2
    exact ⟨x3.from _, trivial, x4⟩
  case done =>
    rintro D ys W hD rfl ⟨hn, ⟨v, hv, hrow⟩, hp, hB⟩ hK
    have hcv := hv.cell
    gi_wp2
    refine ⟨by simp, .inl ⟨_, _, rfl, run_takeDeferred hK, ?_⟩⟩
    exact ⟨_, results_tmp2 (t := 2) (u := 3) rfl _ _ _, v, rfl, ownsRow_putObj hrow _ hK rfl, hB.trans (belowK_b (w := w) (Nat.le_refl _) W D _ _ (by simp at hD; omega) hK rfl rfl)⟩
  case stop =>
    rintro D c pre W _ _ h _
    exact h.elim

end Go.Proofs.YtlbfllaaabginaaDoor

/-!   What step.Check comes to: whether a stage is one of an axis (slices.Contains), over every input.
-/

namespace Go.Proofs.YtlbfllaaabginaaDoor
open Go.RowKit Go.Shelf

/-- A stage as a value. -/
def stV (s : Fac.Stg) : Value := .agg #[.int .i64 s.r, .int .i64 s.l, .int .i64 s.m]

theorem eql_stg (s t : Fac.Stg) (w : World) : (binOp .eql 47 (stV s) (stV t)).run Tryd.prog w = .ok (.bool (decide (s = t))) w := by
  obtain ⟨a, b, c⟩ := s
  obtain ⟨d, e, f⟩ := t
  unfold stV
  rw [run_eql_struct, run_equalIn_struct w 9999 _ _ _ (by simp [Program.fieldsOf, Tryd.underlying47]) stg_held]
  simp [Program.fieldsOf, Tryd.underlying47, Op.eqFields, go_sem]
  by_cases h1 : a = d <;> by_cases h2 : b = e <;> by_cases h3 : c = f <;> simp [h1, h2, h3]

theorem getD_memS {ss : List Fac.Stg} {k : Nat} (h : k < ss.length) : ss.getD k noStg ∈ ss := by
  rw [List.getD_eq_getElem?_getD, List.getElem?_eq_getElem h]
  exact List.getElem_mem h
theorem mem_getD {ss : List Fac.Stg} {s : Fac.Stg} (h : s ∈ ss) : ∃ k, k < ss.length ∧ ss.getD k noStg = s := by
  obtain ⟨k, hk, rfl⟩ := List.mem_iff_getElem.1 h
  exact ⟨k, hk, by rw [List.getD_eq_getElem?_getD, List.getElem?_eq_getElem hk]; rfl⟩

def IdxRet (w : World) (ss : List Fac.Stg) (s : Fac.Stg) (e : Ending) (w' : World) : Prop := ∃ i : Int, e = .returned (.int .i64 i) ∧ (0 ≤ i ↔ s ∈ ss) ∧ -1 ≤ i ∧ i < 9223372036854775808 ∧ Below w.heap.size w w'

set_option maxHeartbeats 1000000 in
theorem indexStg_any (x : Option Addr) (n cap : Nat) (ss : List Fac.Stg) (s : Fac.Stg) (w : World) (hx : ReadsS w w.heap.size x ss) (hn : ss.length = n) (hl : n ≤ maxLen) :
    Calls Tryd.prog 117 #[.slice x n cap, stV s] w (IdxRet w ss s) := by
  subst hn
  have hl' : (ss.length : Int) ≤ 9223372036854775807 := by unfold maxLen at hl; omega
  obtain ⟨s1, s2, s3⟩ := s
  obtain ⟨s, hs⟩ : ∃ s : Fac.Stg, s = ⟨s1, s2, s3⟩ := ⟨_, rfl⟩
  have hsv : stV ⟨s1, s2, s3⟩ = .agg #[.int .i64 s1, .int .i64 s2, .int .i64 s3] := rfl
  rw [hsv]
  have HX := Lib.hid (fun W (hB : Below w.heap.size w W) => hx.below hB)
  have g1 := run_eqGuard_agg (P := Tryd.prog) (hm := stg_guard)
  have hb0 := Lib.hid ((Below.refl w.heap.size w).alloc (Nat.le_refl _) (.cells #[.int .i64 s1, .int .i64 s2, .int .i64 s3] 47))
  rw [← hs]
  have HS := Lib.hid hs
  clear hs hx hl hsv
  go_enter Tryd.func117, Tryd.ntmps117
  go_wp2
  obtain ⟨W0, hW0⟩ : ∃ W0, W0 = w.alloc (.cells #[.int .i64 s1, .int .i64 s2, .int .i64 s3] 47) := ⟨_, rfl⟩
  have k0 : W0.cell? ⟨w.heap.size, 0, none⟩ = some (.int .i64 s1) := by rw [hW0]; simp
  have k1 : W0.cell? ⟨w.heap.size, 1, none⟩ = some (.int .i64 s2) := by rw [hW0]; simp
  have k2 : W0.cell? ⟨w.heap.size, 2, none⟩ = some (.int .i64 s3) := by rw [hW0]; simp
  rw [← hW0] at hb0 ⊢
  clear hW0
  go_loopw [8] (fun i wr => ∃ k q : Nat, k ≤ ss.length ∧ i = .int .i64 (k : Int) ∧ wr = W0.drewN q ∧ Hid (∀ j, j < k → ss.getD j noStg ≠ s)) (fun i _ => ss.length - (intOf i).toNat)
  case atStart => exact ⟨0, 0, Nat.zero_le _, rfl, rfl, Lib.hid (fun j hj => by omega)⟩
  case round =>
    obtain ⟨k, q, hk, rfl, rfl, HA⟩ := hrel
    by_cases hlt : k < ss.length
    · have hdk : decide (k < ss.length) = true := by simpa using hlt
      have hW := below_draws hb0.out q
      obtain ⟨b, off, rfl, hb, hc⟩ := (HX.out _ hb0.out) (by omega)
      obtain ⟨c1, c2, c3⟩ := hc k hlt
      obtain ⟨u, hu⟩ : ∃ u, u = ss.getD k noStg := ⟨_, rfl⟩
      rw [← hu] at c1 c2 c3
      obtain ⟨u1, u2, u3⟩ := u
      dsimp only at c1 c2 c3
      have HW := Lib.hid hW
      clear hc HX hW
      have g3 : ∀ W, (binOp .eql 47 (.agg #[.int .i64 s1, .int .i64 s2, .int .i64 s3]) (.agg #[.int .i64 u1, .int .i64 u2, .int .i64 u3])).run Tryd.prog W = .ok (.bool (decide ((⟨s1, s2, s3⟩ : Fac.Stg) = ⟨u1, u2, u3⟩))) W := fun W => eql_stg ⟨s1, s2, s3⟩ ⟨u1, u2, u3⟩ W
      by_cases he : (⟨s1, s2, s3⟩ : Fac.Stg) = ⟨u1, u2, u3⟩
      · rw [decide_eq_true he] at g3
        have HM : Hid (s ∈ ss) := Lib.hid (by rw [HS.out, he, hu]; exact getD_memS hlt)
        clear he hu
        go_wp2
        go_quiet (fail)
        go_wp2
        go_ret
        exact ⟨_, rfl, ⟨fun _ => HM.out, fun _ => by omega⟩, by omega, by omega, below_draws HW.out _⟩
      · rw [decide_eq_false he] at g3
        have HA' : Hid (∀ j, j < k + 1 → ss.getD j noStg ≠ s) := Lib.hid (fun j hj => by
          by_cases e : j = k
          · rw [e, ← hu, HS.out]; exact fun e => he e.symm
          · exact HA.out j (by omega))
        clear he hu
        go_wp2
        go_quiet (fail)
        go_wp2
        go_roundw
        case rel => exact ⟨k + 1, _, by omega, by go_num, rfl, HA'⟩
        case measure => simp [intOf]; omega
    · obtain rfl : k = ss.length := by omega
      have HN : Hid (s ∉ ss) := Lib.hid (fun hm => by
        obtain ⟨j, hj, e⟩ := mem_getD hm
        exact HA.out j hj e)
      have HW := Lib.hid (below_draws hb0.out q)
      clear HX HA
      go_wp2
      go_ret
      exact ⟨_, rfl, ⟨fun h => by omega, fun h => absurd h HN.out⟩, by omega, by omega, HW.out⟩

theorem containsStg_any (x : Option Addr) (n cap : Nat) (ss : List Fac.Stg) (s : Fac.Stg) (w : World) (hx : ReadsS w w.heap.size x ss) (hn : ss.length = n) (hl : n ≤ maxLen) :
    Calls Tryd.prog 102 #[.slice x n cap, stV s] w (RetB (.bool (decide (s ∈ ss))) w) := by
  obtain ⟨s1, s2, s3⟩ := s
  have hb0 := (Below.refl w.heap.size w).alloc (Nat.le_refl _) (.cells #[.int .i64 s1, .int .i64 s2, .int .i64 s3] 47)
  have HI := Lib.hid (indexStg_any x n cap ss ⟨s1, s2, s3⟩ _ ((hx.below hb0).more hb0.size) hn hl)
  have HB := Lib.hid hb0
  show Calls Tryd.prog _ #[.slice x n cap, .agg #[.int .i64 s1, .int .i64 s2, .int .i64 s3]] w _
  have e : stV ⟨s1, s2, s3⟩ = .agg #[.int .i64 s1, .int .i64 s2, .int .i64 s3] := rfl
  rw [e] at HI
  obtain ⟨res, hres⟩ : ∃ r, r = decide ((⟨s1, s2, s3⟩ : Fac.Stg) ∈ ss) := ⟨_, rfl⟩
  rw [← hres]
  have HR : Hid (∀ i : Int, (0 ≤ i ↔ (⟨s1, s2, s3⟩ : Fac.Stg) ∈ ss) → decide (0 ≤ i) = res) := Lib.hid (fun i h => by rw [hres]; exact decide_eq_decide.2 h)
  clear hx hn hl e hb0 hres
  go_enter Tryd.func102, Tryd.ntmps102
  go_wp2_with (go_at_call 117; refine HI.out.mono ?_; rintro e w1 ⟨i, rfl, hi, h1, h2, hB⟩; have hd := HR.out i hi; clear hi)
  go_ret
  exact ⟨rfl, HB.out.trans (hB.mono HB.out.size)⟩

set_option maxHeartbeats 1000000 in
theorem isOf_any (n : Nat) (s : Sp) (w : World) (hn : Fac.sm (n : Int) = true) :
    Calls Tryd.prog 81 #[.int .i64 (n : Int), spV s] w (RetB (.bool (decide (s.tw = true ∧ s.st = noSt ∨ s.tw = false ∧ s.st ∈ Stp.stgs n))) w) := by
  obtain ⟨ax, tw, s1, s2, s3⟩ := s
  have hb0 := (Below.refl w.heap.size w).alloc (Nat.le_refl _) (.cells #[.int .i64 ax, .bool tw, .int .i64 s1, .int .i64 s2, .int .i64 s3] 49)
  have HB := Lib.hid hb0
  have HST := Lib.hid (fun W => stages_yes n W hn)
  have HL := Lib.hid (Fac.stages_len n (Fac.rads n) 1)
  have HE : Hid (Fac.stages n (Fac.rads n) 1 = Stp.stgs n) := Lib.hid rfl
  have g1 := run_eqGuard_agg (P := Tryd.prog) (hm := stg_guard)
  unfold spV
  dsimp only
  clear hn hb0
  cases tw
  · have e : decide ((false = true ∧ (⟨s1, s2, s3⟩ : Fac.Stg) = noSt) ∨ (false = false ∧ (⟨s1, s2, s3⟩ : Fac.Stg) ∈ Stp.stgs n)) = decide ((⟨s1, s2, s3⟩ : Fac.Stg) ∈ Stp.stgs n) := decide_eq_decide.2 ⟨fun h => h.elim (fun h => by cases h.1) (fun h => h.2), fun h => .inr ⟨rfl, h⟩⟩
    rw [e]
    have HC := Lib.hid (fun (x : Option Addr) (c : Nat) (W : World) (hr : ReadsS W W.heap.size x (Stp.stgs n)) (hm : (Stp.stgs n).length ≤ maxLen) => containsStg_any x (Stp.stgs n).length c (Stp.stgs n) ⟨s1, s2, s3⟩ W hr rfl hm)
    have e2 : stV ⟨s1, s2, s3⟩ = .agg #[.int .i64 s1, .int .i64 s2, .int .i64 s3] := rfl
    rw [e2] at HC
    generalize decide ((⟨s1, s2, s3⟩ : Fac.Stg) ∈ Stp.stgs n) = res at HC ⊢
    rw [HE.out] at HST
    generalize Stp.stgs n = ss at HC HST
    clear e e2 HL HE
    go_enter Tryd.func81, Tryd.ntmps81
    go_wp2_with (first
      | (go_at_call 29; refine (HST.out _).mono ?_; rintro e w1 ⟨v, rfl, hO, hB⟩; obtain ⟨x, c, rfl, hc1, hc2, hr⟩ := hO.form; have HC1 := Lib.hid (HC.out x c w1 hr (by omega)); have B1 := Lib.hid (HB.out.trans (hB.mono HB.out.size)); have c2' := (hB.cell (p := ⟨w.heap.size, 2, none⟩) (by simp)); have c3' := (hB.cell (p := ⟨w.heap.size, 3, none⟩) (by simp)); have c4' := (hB.cell (p := ⟨w.heap.size, 4, none⟩) (by simp)); simp at c2' c3' c4'; clear hO hB hr)
      | (go_at_call 102; refine HC1.out.mono ?_; rintro e w2 ⟨rfl, hB2⟩))
    go_ret
    exact ⟨rfl, below_then B1.out hB2⟩
  · have e : decide ((true = true ∧ (⟨s1, s2, s3⟩ : Fac.Stg) = noSt) ∨ (true = false ∧ (⟨s1, s2, s3⟩ : Fac.Stg) ∈ Stp.stgs n)) = decide ((⟨s1, s2, s3⟩ : Fac.Stg) = ⟨0, 0, 0⟩) := decide_eq_decide.2 ⟨fun h => h.elim (fun h => h.2) (fun h => by cases h.1), fun h => .inl ⟨rfl, h⟩⟩
    rw [e]
    have g3 : ∀ W, (binOp .eql 47 (.agg #[.int .i64 s1, .int .i64 s2, .int .i64 s3]) (.agg #[.int .i64 0, .int .i64 0, .int .i64 0])).run Tryd.prog W = .ok (.bool (decide ((⟨s1, s2, s3⟩ : Fac.Stg) = ⟨0, 0, 0⟩))) W := fun W => eql_stg ⟨s1, s2, s3⟩ ⟨0, 0, 0⟩ W
    generalize decide ((⟨s1, s2, s3⟩ : Fac.Stg) = ⟨0, 0, 0⟩) = res at g3 ⊢
    clear e HL HE HST
    go_enter Tryd.func81, Tryd.ntmps81
    go_wp2
    go_ret
    exact ⟨rfl, HB.out⟩

set_option maxRecDepth 100000 in
set_option maxHeartbeats 2000000 in
theorem check16_any (p : Int) (x : Option Addr) (n cap : Nat) (xa : List Ax) (s : Sp) (w : World) (hG : Gl w) (hx : ReadsA w w.heap.size x xa) (hn : xa.length = n) (hl : n ≤ 8796093022208) :
    Calls Tryd.prog 57 #[.int .u64 p, .slice x n cap, spV s] w (RetB (.int .i64 (Stp.stepE p xa s)) w) := by
  subst hn
  obtain ⟨ax, tw, s1, s2, s3⟩ := s
  have hb0 := (Below.refl w.heap.size w).alloc (Nat.le_refl _) (.cells #[.int .i64 ax, .bool tw, .int .i64 s1, .int .i64 s2, .int .i64 s3] 49)
  have HB := Lib.hid hb0
  have HC := Lib.hid (check7_any p x xa.length cap xa _ (hG.then hb0) ((hx.below hb0).more hb0.size) rfl hl)
  have hcs := Stp.stepE_cases p xa ⟨ax, tw, ⟨s1, s2, s3⟩⟩
  generalize Stp.stepE p xa ⟨ax, tw, ⟨s1, s2, s3⟩⟩ = er at hcs ⊢
  unfold spV
  dsimp only at hcs ⊢
  by_cases hg : gridE p xa = 0
  · rw [hg] at HC
    have CE : Hid (∀ W, Below (w.alloc (.cells #[.int .i64 ax, .bool tw, .int .i64 s1, .int .i64 s2, .int .i64 s3] 49)).heap.size (w.alloc (.cells #[.int .i64 ax, .bool tw, .int .i64 s1, .int .i64 s2, .int .i64 s3] 49)) W → SpAt W w.heap.size ⟨ax, tw, ⟨s1, s2, s3⟩⟩) :=
      Lib.hid (fun W hW => (SpAt.new w 49 ⟨ax, tw, ⟨s1, s2, s3⟩⟩).then hW)
    by_cases h0 : ax < 0
    · have d1 : decide (ax < 0) = true := decide_eq_true h0
      obtain rfl : er = 1 := by rcases hcs with h | h | h | h | h <;> first | omega | (have := h.1.lo; dsimp only at this; omega) | exact absurd hg h.1
      clear hcs hg hx hG hb0
      go_enter Tryd.func57, Tryd.ntmps57
      go_wp2_with (go_at_call 28; refine HC.out.mono ?_; rintro e w1 ⟨rfl, b1⟩; obtain ⟨k0, k1, k2, k3, k4⟩ := CE.out w1 b1; have B1 := Lib.hid (HB.out.trans (b1.mono HB.out.size)); clear b1)
      have t0 := fun s : Since w1 => s.cell k0
      refine wp_region_since (by kernel_rfl) (by kernel_rfl) ?_
      repeat (go_big_quiet_step (fail))
      refine wpQuiet_nil ?_
      rintro _ ⟨s, rfl⟩
      have BS := Lib.hid (below_then B1.out s.below)
      clear t0 k0 k1 k2 k3 k4
      go_wp2
      go_ret
      exact ⟨rfl, BS.out⟩
    · have d1 : decide (ax < 0) = false := decide_eq_false h0
      by_cases h1 : (xa.length : Int) ≤ ax
      · have d2 : decide ((xa.length : Int) ≤ ax) = true := decide_eq_true h1
        obtain rfl : er = 1 := by rcases hcs with h | h | h | h | h <;> first | omega | (have := h.1.hi; dsimp only at this; omega) | exact absurd hg h.1
        clear hcs hg hx hG hb0
        go_enter Tryd.func57, Tryd.ntmps57
        go_wp2_with (go_at_call 28; refine HC.out.mono ?_; rintro e w1 ⟨rfl, b1⟩; obtain ⟨k0, k1, k2, k3, k4⟩ := CE.out w1 b1; have B1 := Lib.hid (HB.out.trans (b1.mono HB.out.size)); clear b1)
        have t0 := fun s : Since w1 => s.cell k0
        refine wp_region_since (by kernel_rfl) (by kernel_rfl) ?_
        repeat (go_big_quiet_step (fail))
        refine wpQuiet_nil ?_
        rintro _ ⟨s, rfl⟩
        have BS := Lib.hid (below_then B1.out s.below)
        clear t0 k0 k1 k2 k3 k4
        go_wp2
        go_ret
        exact ⟨rfl, BS.out⟩
      · have d2 : decide ((xa.length : Int) ≤ ax) = false := decide_eq_false h1
        obtain ⟨a, rfl⟩ : ∃ a : Nat, ax = (a : Int) := ⟨ax.toNat, by omega⟩
        have ha : a < xa.length := by omega
        have hax := gridE_zero hg
        have d2' : decide (xa.length ≤ a) = false := decide_eq_false (by omega)
        obtain ⟨b, off, rfl, hb, hc⟩ := hx (by omega)
        obtain ⟨c0, c1⟩ := hc a ha
        rw [hax.int ha] at c0
        have HI := Lib.hid (fun W => isOf_any (gL xa a) ⟨(a : Int), tw, ⟨s1, s2, s3⟩⟩ W (hax.sm' ha))
        unfold spV at HI
        dsimp only at HI
        rw [Int.toNat_natCast] at hcs
        obtain ⟨res, hres⟩ : ∃ r, r = decide (tw = true ∧ (⟨s1, s2, s3⟩ : Fac.Stg) = noSt ∨ tw = false ∧ (⟨s1, s2, s3⟩ : Fac.Stg) ∈ Stp.stgs (gL xa a)) := ⟨_, rfl⟩
        rw [← hres] at HI
        have her : er = if res then 0 else 1 := by
          rw [hres]
          rcases hcs with h | h | h | h | h
          · exact absurd hg h.1
          · omega
          · rw [decide_eq_false (fun h' => h'.elim (fun h' => h.2.2.2.2.1 h'.2) (fun h' => absurd (h.2.2.2.1.symm.trans h'.1) (by decide))), if_neg (by simp)]; exact h.2.2.2.2.2
          · rw [decide_eq_false (fun h' => h'.elim (fun h' => absurd (h.2.2.2.1.symm.trans h'.1) (by decide)) (fun h' => h.2.2.2.2.1 h'.2)), if_neg (by simp)]; exact h.2.2.2.2.2
          · have := h.1.is
            dsimp only at this
            rw [Int.toNat_natCast] at this
            rw [decide_eq_true this, if_pos rfl]; exact h.2
        obtain ⟨L, hL⟩ : ∃ L, L = gL xa a := ⟨_, rfl⟩
        rw [← hL] at c0 HI
        have C0 := Lib.hid (fun W (hB : Below w.heap.size w W) => (hB.cell (p := ⟨b, off + a * 2, none⟩) hb).trans c0)
        cases res
        all_goals
          simp only [if_true, if_false, Bool.false_eq_true] at her
          subst her
          clear hcs hg hx hG hb0 hax hL hc hres c0 c1
          go_enter Tryd.func57, Tryd.ntmps57
          go_wp2_with (go_at_call 28; refine HC.out.mono ?_; rintro e w1 ⟨rfl, b1⟩; obtain ⟨k0, k1, k2, k3, k4⟩ := CE.out w1 b1; have B1 := Lib.hid (HB.out.trans (b1.mono HB.out.size)); clear b1)
          have t0 := fun s : Since w1 => s.cell k0
          have t1 := fun s : Since w1 => s.cell k1
          have t2 := fun s : Since w1 => s.cell k2
          have t3 := fun s : Since w1 => s.cell k3
          have t4 := fun s : Since w1 => s.cell k4
          have t5 := fun s : Since w1 => C0.out _ (below_then B1.out s.below)
          refine wp_region_since (by kernel_rfl) (by kernel_rfl) ?_
          repeat (go_big_quiet_step (first
            | (go_at_call 81; rename_i s; exact since_call s (HI.out _))))
          refine wpQuiet_nil ?_
          rintro _ ⟨s, rfl⟩
          have BS := Lib.hid (below_then B1.out s.below)
          clear t0 t1 t2 t3 t4 t5 k0 k1 k2 k3 k4
          go_wp2
          go_ret
          exact ⟨rfl, BS.out⟩
  · obtain rfl : er = gridE p xa := by rcases hcs with h | h | h | h | h <;> first | exact h.2 | exact absurd h.1 hg | exact absurd h.1.ax.zero hg
    have t := ne_of_bne hg
    generalize gridE p xa = er at HC t ⊢
    clear hcs hg hx hG hb0
    go_enter Tryd.func57, Tryd.ntmps57
    go_wp2_with (go_at_call 28; refine HC.out.mono ?_; rintro e w1 ⟨rfl, b1⟩)
    go_ret
    exact ⟨rfl, HB.out.trans (b1.mono HB.out.size)⟩

end Go.Proofs.YtlbfllaaabginaaDoor

/-!   What step.Table comes to: the factors of a twist and of a stage, over every input.
-/

namespace Go.Proofs.YtlbfllaaabginaaDoor
open Go.RowKit Go.Shelf

theorem rootOf16_any (p r : Int) (inv : Bool) (w : World) (hG : Gl w) (hr : -9223372036854775808 ≤ r ∧ r < 9223372036854775808) :
    Calls Tryd.prog 82 #[.int .u64 p, .int .i64 r, .bool inv] w (RetB (.tuple #[.int .u64 (if inv then backN p r else rootN p r), .int .i64 (rootE p r)]) w) := by
  have HR := Lib.hid (root_any p r w hG hr)
  have HK := Lib.hid (back_any p r w hG hr)
  clear hG
  cases inv
  · rw [if_neg (by simp)]
    go_enter Tryd.func82, Tryd.ntmps82
    go_wp2_with (go_at_call 62; refine HR.out.mono ?_; rintro e w1 ⟨rfl, hB⟩)
    go_ret2
    exact ⟨rfl, hB⟩
  · rw [if_pos rfl]
    go_enter Tryd.func82, Tryd.ntmps82
    go_wp2_with (go_at_call 103; refine HK.out.mono ?_; rintro e w1 ⟨rfl, hB⟩)
    go_ret2
    exact ⟨rfl, hB⟩

/-- The root, where there is one. -/
theorem rootE_of {p : Int} {n : Nat} (h : Fp.kn p = true) (h1 : 1 ≤ n) (h2 : n ≤ 8192) (hd : (p - 1) % (n : Int) = 0) : rootE p (n : Int) = 0 := by
  rcases rootE_cases p (n : Int) with ⟨h', -⟩ | ⟨-, h', -⟩ | ⟨-, -, -, h', -⟩ | ⟨-, -, -, -, h'⟩
  · rw [h] at h'; cases h'
  · omega
  · exact absurd hd h'
  · exact h'
theorem root_rte {p : Int} {n : Nat} (h : rootE p (n : Int) = 0) (inv : Bool) : (if inv then backN p (n : Int) else rootN p (n : Int)) = Stp.rte p inv n := by
  unfold backN rootN Stp.rte
  rw [if_pos h, if_pos h, Int.toNat_natCast]
theorem rootOf16_yes (p : Int) (n : Nat) (inv : Bool) (w : World) (hG : Gl w) (h : Fp.kn p = true) (h1 : 1 ≤ n) (h2 : n ≤ 8192) (hd : (p - 1) % (n : Int) = 0) :
    Calls Tryd.prog 82 #[.int .u64 p, .int .i64 (n : Int), .bool inv] w (RetB (.tuple #[.int .u64 (Stp.rte p inv n), .int .i64 0]) w) := by
  have := rootOf16_any p (n : Int) inv w hG (by omega)
  rwa [root_rte (rootE_of h h1 h2 hd), rootE_of h h1 h2 hd] at this

/-- A list in memory of its own, with the address of its row. -/
theorem LineRet.open {xs : List Int} {n : Nat} {w w' : World} {er : Int} {e : Ending} (h : LineRet w xs er e w') (hn : xs.length = n) (h0 : 0 < n) :
    ∃ g cap, e = .returned (.tuple #[.slice (some ⟨g, 0, none⟩) n cap, .int .i64 er]) ∧ w.heap.size ≤ g ∧ g < w'.heap.size ∧ n ≤ cap ∧ cap ≤ maxLen ∧ Owns .u64 22 w' w.heap.size (.slice (some ⟨g, 0, none⟩) n cap) xs ∧ Below w.heap.size w w' := by
  subst hn
  obtain ⟨v, rfl, hO, hB⟩ := h
  obtain ⟨x, cap, rfl, h1, h2, h3, h4⟩ := hO.form
  obtain ⟨g, rfl, h5, h6⟩ := h4 h0
  exact ⟨g, cap, rfl, h5, h6, h1, h2, hO, hB⟩
theorem line_of_list {w w' : World} {xs : List Int} {e : Ending} (h : ListRet w xs e w') : LineRet w xs 0 e w' := h

set_option maxHeartbeats 1000000 in
theorem twist_there (p : Int) (L : Nat) (neg : Bool) (w : World) (hG : Gl w) (h : Fp.kn p = true) (l1 : 1 ≤ L) (l2 : L ≤ 4096) (hd : (p - 1) % ((Fp.od neg L : Nat) : Int) = 0) :
    Calls Tryd.prog 58 #[.int .u64 p, .agg #[.int .i64 (L : Int), .bool neg], .bool false] w (LineRet w ((List.range L).map (Stp.twT p neg false L)) 0) := by
  have hW : Below w.heap.size w (w.alloc (.cells #[.int .i64 (L : Int), .bool neg] 53)) := below_al (Below.refl _ _) _
  have HW := Lib.hid hW
  have hP := Fp.kn_bd h
  obtain ⟨b0, b1⟩ := Stp.twW_bd h neg false L
  have HP := Lib.hid (fun W => powers_yes p (Stp.twW p neg false L) L W h b0 (by omega) (by omega))
  have HE : Hid (pws p (Stp.twW p neg false L) L = (List.range L).map (Stp.twT p neg false L)) := Lib.hid (List.map_congr_left fun k _ => (Stp.twT_there h neg L k).symm)
  rw [HE.out] at HP
  generalize (List.range L).map (Stp.twT p neg false L) = res at HP ⊢
  cases neg
  · have e : Stp.twW p false false L = 1 := rfl
    rw [e] at HP
    clear hW hG h hd HE b0 b1 e hP
    go_enter Tryd.func58, Tryd.ntmps58
    go_wp2_with (go_at_call 83; refine (HP.out _).mono ?_; rintro e w2 ⟨v, rfl, hO, hB⟩)
    go_ret2
    exact ⟨_, rfl, hO.mono (by simp), HW.out.trans (hB.mono HW.out.size)⟩
  · have e : Stp.twW p true false L = Stp.rte p false (2 * L) := rfl
    have hod : Fp.od true L = 2 * L := by simp [Fp.od]
    rw [hod] at hd
    have HR := Lib.hid (rootOf16_yes p (2 * L) false _ (hG.then hW) h (by omega) (by omega) hd)
    rw [e] at HP
    generalize Stp.rte p false (2 * L) = rt at HP HR
    have hz : (2 : Int) * (L : Int) = ((2 * L : Nat) : Int) := by simp
    obtain ⟨u, hu⟩ : ∃ u : Nat, u = 2 * L := ⟨_, rfl⟩
    rw [← hu] at hz HR
    have hub : u ≤ 8192 := by omega
    clear hW hG h hd HE b0 b1 e hP hod hu
    go_enter Tryd.func58, Tryd.ntmps58
    go_wp2_with (first
      | (go_at_call 82; refine HR.out.mono ?_; rintro e w1 ⟨rfl, hB1⟩; have hB1' := hB1.mono (Nat.le_of_eq (World.size_alloc w (.cells #[.int .i64 (L : Int), .bool true] 53)).symm); have hbx := box_cells hB1'; obtain ⟨k0, k1⟩ := hbx; have B1 := Lib.hid (HW.out.trans (hB1.mono HW.out.size)); clear hB1 hB1')
      | (go_at_call 83; go_loud (refine (HP.out _).mono ?_; rintro e w2 ⟨v, rfl, hO, hB⟩)))
    go_ret2
    exact ⟨_, rfl, hO.mono B1.out.size, below_then B1.out hB⟩

/-- What has been made of the first j of n numbers. -/
theorem mixed_here (f g : Nat → Int) {n i : Nat} (hi : i < n) : (mixed f g n i).getD i 0 = g i := by
  rw [mixed_get f g n i i hi, if_neg (by omega)]

set_option maxRecDepth 100000 in
set_option maxHeartbeats 2000000 in
theorem twist_back16 (p : Int) (L : Nat) (neg : Bool) (w : World) (hG : Gl w) (h : Fp.kn p = true) (l1 : 1 ≤ L) (l2 : L ≤ 4096) (hd : (p - 1) % ((Fp.od neg L : Nat) : Int) = 0) :
    Calls Tryd.prog 58 #[.int .u64 p, .agg #[.int .i64 (L : Int), .bool neg], .bool true] w (LineRet w ((List.range L).map (Stp.twT p neg true L)) 0) := by
  have hW : Below w.heap.size w (w.alloc (.cells #[.int .i64 (L : Int), .bool neg] 53)) := below_al (Below.refl _ _) _
  have HW := Lib.hid hW
  have hP := Fp.kn_bd h
  obtain ⟨b0, b1⟩ := Stp.twW_bd h neg true L
  have HP := Lib.hid (fun W => powers_yes p (Stp.twW p neg true L) L W h b0 (by omega) (by omega))
  have hne : Fp.red p (L : Int) ≠ 0 := by
    rw [Fp.red_kn _ h, Int.emod_eq_of_lt (by omega) (by omega)]
    omega
  have HI := Lib.hid (fun W => inv_yes p (L : Int) W h (by omega) (by omega) hne)
  obtain ⟨i0, i1, i2⟩ := Fp.inv_bd p (L : Int)
  have HL : Hid ((pws p (Stp.twW p neg true L) L).length = L) := Lib.hid (pws_len _ _ _)
  have HM : Hid (∀ k, Fp.mul p (Fp.pw p (Stp.twW p neg true L) k) (Fp.inv p (L : Int)) = Stp.twT p neg true L k) := Lib.hid (fun k => (Stp.twT_back h neg L k).symm)
  have HQ : Hid (∀ k, 0 ≤ Fp.pw p (Stp.twW p neg true L) k ∧ Fp.pw p (Stp.twW p neg true L) k < 18446744073709551616) := Lib.hid (fun k => by have := Fp.pw_bd p (Stp.twW p neg true L) k; omega)
  have HT : Hid (∀ k, 0 ≤ Stp.twT p neg true L k ∧ Stp.twT p neg true L k < 18446744073709551616) := Lib.hid (fun k => by have := Stp.twT_bd h neg true L k; omega)
  have HS0 : Hid (mixed (Stp.twT p neg true L) (Fp.pw p (Stp.twW p neg true L)) L 0 = pws p (Stp.twW p neg true L) L) := Lib.hid (mixed_zero _ _ _)
  have HS1 : Hid (mixed (Stp.twT p neg true L) (Fp.pw p (Stp.twW p neg true L)) L L = (List.range L).map (Stp.twT p neg true L)) := Lib.hid (mixed_all _ _ _)
  have hR : ∀ W, Below w.heap.size w W → neg = true → Calls Tryd.prog 82 #[.int .u64 p, .int .i64 ((2 * L : Nat) : Int), .bool true] W (RetB (.tuple #[.int .u64 (Stp.twW p neg true L), .int .i64 0]) W) := fun W hB hn => by
    subst hn
    have hod : Fp.od true L = 2 * L := by simp [Fp.od]
    rw [hod] at hd
    exact rootOf16_yes p (2 * L) true W (hG.then hB) h (by omega) (by omega) hd
  have HR := Lib.hid (hR _ hW)
  have hz : (2 : Int) * (L : Int) = ((2 * L : Nat) : Int) := by simp
  obtain ⟨u, hu⟩ : ∃ u : Nat, u = 2 * L := ⟨_, rfl⟩
  rw [← hu] at hz HR
  have hub : u ≤ 8192 := by omega
  clear hu
  have w1 : neg = false → Stp.twW p neg true L = 1 := fun e => by subst e; rfl
  have W1 := Lib.hid w1
  clear w1
  generalize (List.range L).map (Stp.twT p neg true L) = res at HS1 ⊢
  generalize pws p (Stp.twW p neg true L) L = ps at HP HL HS0
  generalize Stp.twT p neg true L = tf at HM HT HS0 HS1
  generalize Fp.pw p (Stp.twW p neg true L) = pf at HM HQ HS0 HS1
  generalize Stp.twW p neg true L = rt at HP HR W1
  generalize Fp.inv p (L : Int) = un at HI HM i0 i1 i2
  have hK := Lib.hid h
  clear hW hG hd h hne hR b0 b1 hP
  have hA0 : Below (w.heap.size + 1) (w.alloc (.cells #[.int .i64 (L : Int), .bool neg] 53)) (w.alloc (.cells #[.int .i64 (L : Int), .bool neg] 53)) := Below.refl _ _
  have A0 := Lib.hid hA0
  have HSz : Hid (w.heap.size + 1 ≤ (w.alloc (.cells #[.int .i64 (L : Int), .bool neg] 53)).heap.size) := Lib.hid (Nat.le_of_eq (World.size_alloc w _).symm)
  have hsx : w.heap.size ≤ w.heap.size + 1 := Nat.le_succ _
  clear hA0
  cases neg
  · obtain rfl := W1.out rfl
    go_enter Tryd.func58, Tryd.ntmps58
    go_wp2_with (first
      | (go_at_call 83; refine (HP.out _).mono ?_; intro e w2 hr; obtain ⟨g, cp, rfl, hg1, hg2, hcp1, hcp2, hO, hB2⟩ := LineRet.open (line_of_list hr) HL.out l1; have hs := HSz.out; have A2 := Lib.hid (A0.out.trans (hB2.mono hs)); obtain ⟨k0, k1⟩ := box_cells A2.out; have O2 := Lib.hid (hO.mono hs); have hgg := Nat.le_trans hs hg1; clear hr hO hB2)
      | (go_at_call 84; refine (HI.out _).mono ?_; rintro e w' ⟨rfl, nq, rfl⟩))
    clear HP HR HI HL W1 k0 k1 hg1 hs
    go_loopw [60] (fun i wr => ∃ k : Nat, k ≤ L ∧ i = .int .i64 (k : Int) ∧ Owns .u64 22 wr (w.heap.size + 1) (.slice (some ⟨g, 0, none⟩) L cp) (mixed tf pf L k) ∧ Below (w.heap.size + 1) (w.alloc (.cells #[.int .i64 (L : Int), .bool false] 53)) wr) (fun i _ => L - (intOf i).toNat)
    case atStart => exact ⟨0, Nat.zero_le _, rfl, by rw [HS0.out]; exact O2.out.draws _, below_draws A2.out _⟩
    case round =>
      clear O2 A2 hg2
      obtain ⟨k, hk, rfl, hO, hB⟩ := hrel
      by_cases hlt : k < L
      · have c0 := hO.num (mixed_len _ _ _ _) hlt
        rw [mixed_here _ _ hlt] at c0
        have f0 := hO.melt (mixed_len _ _ _ _) k
        have hp := hO.put (mixed_len _ _ _ _) k (tf k)
        rw [mixed_set] at hp
        have hg3 := (hO.inside rfl).2
        have HP := Lib.hid hp
        have HBs := Lib.hid (hB.setCell (p := ⟨g, k, none⟩) hgg (.int .u64 (tf k)))
        have hMk := HM.out k
        obtain ⟨q0, q1⟩ := HQ.out k
        obtain ⟨u, hu⟩ : ∃ u, u = pf k := ⟨_, rfl⟩
        rw [← hu] at c0 hMk q0 q1
        have HMk := Lib.hid hMk
        clear hO hB hp hMk hu
        go_wp2_with (go_at_call 56; refine (mul_any _ _ _ _ (by omega) (by omega) (by omega) (by omega)).mono ?_; rintro e w' ⟨rfl, nd, rfl⟩; rw [HMk.out])
        go_roundw
        case rel => exact ⟨k + 1, hlt, by go_num, HP.out.draws _, below_draws HBs.out _⟩
        case measure => simp [intOf]; omega
      · obtain rfl : k = L := by omega
        have hR : LineRet w res 0 (.returned (.tuple #[.slice (some ⟨g, 0, none⟩) k cp, .int .i64 0])) wr := ⟨_, rfl, by rw [← HS1.out]; exact hO.mono hsx, HW.out.trans (hB.mono hsx)⟩
        clear hO hB
        go_wp2
        go_ret2
        exact hR
  · have R1 := Lib.hid (HR.out rfl)
    go_enter Tryd.func58, Tryd.ntmps58
    go_wp2_with (first
      | (go_at_call 82; refine R1.out.mono ?_; rintro e w1 ⟨rfl, hB1⟩; have A1 := Lib.hid (hB1.mono HSz.out); obtain ⟨k0, k1⟩ := box_cells A1.out; have hz1 := Nat.le_trans HSz.out hB1.size; clear hB1)
      | (go_at_call 83; refine (HP.out _).mono ?_; intro e w2 hr; clear k0 k1; obtain ⟨g, cp, rfl, hg1, hg2, hcp1, hcp2, hO, hB2⟩ := LineRet.open (line_of_list hr) HL.out l1; have A2 := Lib.hid (A1.out.trans (hB2.mono hz1)); obtain ⟨k0, k1⟩ := box_cells A2.out; have O2 := Lib.hid (hO.mono hz1); have hgg := Nat.le_trans hz1 hg1; clear hr hO hB2)
      | (go_at_call 84; refine (HI.out _).mono ?_; rintro e w' ⟨rfl, nq, rfl⟩))
    clear HP HR R1 HI HL W1 k0 k1 hg1 A1 hz1 hub hz
    go_loopw [60] (fun i wr => ∃ k : Nat, k ≤ L ∧ i = .int .i64 (k : Int) ∧ Owns .u64 22 wr (w.heap.size + 1) (.slice (some ⟨g, 0, none⟩) L cp) (mixed tf pf L k) ∧ Below (w.heap.size + 1) (w.alloc (.cells #[.int .i64 (L : Int), .bool true] 53)) wr) (fun i _ => L - (intOf i).toNat)
    case atStart => exact ⟨0, Nat.zero_le _, rfl, by rw [HS0.out]; exact O2.out.draws _, below_draws A2.out _⟩
    case round =>
      clear O2 A2 hg2
      obtain ⟨k, hk, rfl, hO, hB⟩ := hrel
      by_cases hlt : k < L
      · have c0 := hO.num (mixed_len _ _ _ _) hlt
        rw [mixed_here _ _ hlt] at c0
        have f0 := hO.melt (mixed_len _ _ _ _) k
        have hp := hO.put (mixed_len _ _ _ _) k (tf k)
        rw [mixed_set] at hp
        have hg3 := (hO.inside rfl).2
        have HP := Lib.hid hp
        have HBs := Lib.hid (hB.setCell (p := ⟨g, k, none⟩) hgg (.int .u64 (tf k)))
        have hMk := HM.out k
        obtain ⟨q0, q1⟩ := HQ.out k
        obtain ⟨u, hu⟩ : ∃ u, u = pf k := ⟨_, rfl⟩
        rw [← hu] at c0 hMk q0 q1
        have HMk := Lib.hid hMk
        clear hO hB hp hMk hu
        go_wp2_with (go_at_call 56; refine (mul_any _ _ _ _ (by omega) (by omega) (by omega) (by omega)).mono ?_; rintro e w' ⟨rfl, nd, rfl⟩; rw [HMk.out])
        go_roundw
        case rel => exact ⟨k + 1, hlt, by go_num, HP.out.draws _, below_draws HBs.out _⟩
        case measure => simp [intOf]; omega
      · obtain rfl : k = L := by omega
        have hR : LineRet w res 0 (.returned (.tuple #[.slice (some ⟨g, 0, none⟩) k cp, .int .i64 0])) wr := ⟨_, rfl, by rw [← HS1.out]; exact hO.mono hsx, HW.out.trans (hB.mono hsx)⟩
        clear hO hB
        go_wp2
        go_ret2
        exact hR

/-- Cells of a step's box, when something was called. -/
theorem sp_call {w W : World} {s : Sp} (h : Below (w.heap.size + 1) (w.alloc (.cells #[.int .i64 s.ax, .bool s.tw, .int .i64 s.st.r, .int .i64 s.st.l, .int .i64 s.st.m] 49)) W) : SpAt W w.heap.size s :=
  (SpAt.new w 49 s).below (Nat.lt_succ_self _) h

set_option maxRecDepth 100000 in
set_option maxHeartbeats 4000000 in
theorem stage_tab16 (p : Int) (inv : Bool) (ax : Int) (tw : Bool) (R M : Nat) (l : Int) (w : World) (hG : Gl w) (h : Fp.kn p = true) (r1 : 1 ≤ R) (m1 : 1 ≤ M) (hn : R * M ≤ 4096) (hd : (p - 1) % ((R * M : Nat) : Int) = 0) :
    Calls Tryd.prog 59 #[.int .u64 p, .bool inv, .agg #[.int .i64 ax, .bool tw, .int .i64 (R : Int), .int .i64 l, .int .i64 (M : Int)]] w (LineRet w ((List.range (M * R)).map (Stp.stT p inv R M)) 0) := by
  have hP := Fp.kn_bd h
  have hW : Below w.heap.size w (w.alloc (.cells #[.int .i64 ax, .bool tw, .int .i64 (R : Int), .int .i64 l, .int .i64 (M : Int)] 49)) := below_al (Below.refl _ _) _
  have HW := Lib.hid hW
  have hN1 : 1 ≤ R * M := Nat.mul_pos r1 m1
  obtain ⟨b0, b1⟩ := Stp.rte_bd h inv (R * M)
  have HR := Lib.hid (rootOf16_yes p (R * M) inv _ (hG.then hW) h hN1 (by omega) hd)
  have HP := Lib.hid (fun W => powers_yes p (Stp.rte p inv (R * M)) (R * M) W h b0 (by omega) (by omega))
  have HL : Hid ((pws p (Stp.rte p inv (R * M)) (R * M)).length = R * M) := Lib.hid (pws_len _ _ _)
  have HF : Hid (∀ a u, u < R → Fp.pw p (Stp.rte p inv (R * M)) (a * u) = Stp.stT p inv R M (a * R + u)) := Lib.hid (fun a u hu => by
    rw [Stp.stT_pw h, Nat.mul_comm a R, Nat.mul_add_div (by omega), Nat.mul_add_mod, Nat.div_eq_of_lt hu, Nat.mod_eq_of_lt hu, Nat.add_zero])
  have HX : Hid (∀ a u, a < M → u < R → a * u < R * M) := Lib.hid (fun a u ha hu => by
    have h1 : a * u ≤ a * R := Nat.mul_le_mul_left a (by omega)
    have h2 : (a + 1) * R ≤ M * R := Nat.mul_le_mul_right R ha
    rw [Nat.succ_mul, Nat.mul_comm M R] at h2
    omega)
  have HG : Hid (∀ k, k < R * M → (pws p (Stp.rte p inv (R * M)) (R * M)).getD k 0 = Fp.pw p (Stp.rte p inv (R * M)) k) := Lib.hid (fun k hk => by unfold pws; exact getD_range _ hk)
  have HQ : Hid (∀ a, a < M → a * R + R ≤ R * M) := Lib.hid (fun a ha => by
    have h2 : (a + 1) * R ≤ M * R := Nat.mul_le_mul_right R ha
    rw [Nat.succ_mul, Nat.mul_comm M R] at h2
    exact h2)
  have HN : Hid (R * M = M * R) := Lib.hid (Nat.mul_comm _ _)
  have rb : R ≤ R * M := Nat.le_mul_of_pos_right R m1
  have mb : M ≤ R * M := Nat.le_mul_of_pos_left M r1
  have hz : (R : Int) * (M : Int) = ((R * M : Nat) : Int) := by simp
  obtain ⟨N, hN⟩ : ∃ N : Nat, N = R * M := ⟨_, rfl⟩
  rw [← hN] at HR HP HL HF HX HG HQ HN hz hN1 hn rb mb b0 b1
  generalize Stp.rte p inv N = rt at HR HP HL HF HG b0 b1
  generalize pws p rt N = ps at HP HL HG
  generalize Stp.stT p inv R M = f at HF ⊢
  generalize Fp.pw p rt = pf at HF HG
  have hsx : w.heap.size ≤ w.heap.size + 1 := Nat.le_succ _
  have hA0 : Below (w.heap.size + 1) (w.alloc (.cells #[.int .i64 ax, .bool tw, .int .i64 (R : Int), .int .i64 l, .int .i64 (M : Int)] 49)) (w.alloc (.cells #[.int .i64 ax, .bool tw, .int .i64 (R : Int), .int .i64 l, .int .i64 (M : Int)] 49)) := Below.refl _ _
  have A0 := Lib.hid hA0
  have HSz : Hid (w.heap.size + 1 ≤ (w.alloc (.cells #[.int .i64 ax, .bool tw, .int .i64 (R : Int), .int .i64 l, .int .i64 (M : Int)] 49)).heap.size) := Lib.hid (Nat.le_of_eq (World.size_alloc w _).symm)
  have HC : Hid (∀ W, Below (w.heap.size + 1) (w.alloc (.cells #[.int .i64 ax, .bool tw, .int .i64 (R : Int), .int .i64 l, .int .i64 (M : Int)] 49)) W → W.cell? ⟨w.heap.size, 2, none⟩ = some (.int .i64 (R : Int)) ∧ W.cell? ⟨w.heap.size, 4, none⟩ = some (.int .i64 (M : Int)) ∧ Below w.heap.size w W) := Lib.hid (fun W hW' => by
    have := sp_call (s := ⟨ax, tw, ⟨R, l, M⟩⟩) hW'
    exact ⟨this.c2, this.c4, HW.out.trans (hW'.mono hsx)⟩)
  obtain ⟨i0, hi, hz0, hz1, hz2⟩ := info_parts info_u64
  have HZ2 := Lib.hid hz2
  clear hW hG h hd hP hN hA0
  go_enter Tryd.func59, Tryd.ntmps59
  go_wp2_with (first
    | (go_at_call 82; refine HR.out.mono ?_; rintro e w1 ⟨rfl, hB1⟩; have A1 := Lib.hid (hB1.mono HSz.out); obtain ⟨k0, k1, -⟩ := HC.out _ A1.out; have hz1' := Nat.le_trans HSz.out hB1.size; clear hB1)
    | (go_at_call 83; refine (HP.out _).mono ?_; intro e w2 hr; clear k0 k1; obtain ⟨g, cp, rfl, hg1, hg2, hcp1, hcp2, hO, hB2⟩ := LineRet.open (line_of_list hr) HL.out hN1; have A2 := Lib.hid (A1.out.trans (hB2.mono hz1')); obtain ⟨k0, k1, -⟩ := HC.out _ A2.out; have O2 := Lib.hid (hO.mono hz1'); have hz3 := Nat.le_trans hz1' hB2.size; clear hr hO hB2)
    | (at_make; refine wpList_make_own _ rfl _ _ 37 rfl w2.heap.size 22 i0 (.int .u64 0) 1 Tryd.underlying37 hi hz0 hz1 .i64 .i64 _ N rfl rfl (by omega) (by rw [HZ2.out]; omega) (by unfold maxLen; omega) (Nat.le_refl _) ?_; intro w3 hO3 hg3; have B3 := Lib.hid ((Below.refl w2.heap.size w2).grown hg3 (Nat.le_refl _) (fun g e => by cases e)); obtain ⟨k2, k3, -⟩ := HC.out _ (A2.out.trans (B3.out.mono hz3))))
  have O3 : Hid (Owns .u64 22 w3 w2.heap.size (.slice (some ⟨w2.heap.size, 0, none⟩) 0 N) []) := Lib.hid hO3
  have HS : Hid (∀ k, (List.range (k + 1)).map f = (List.range k).map f ++ [f k]) := Lib.hid (fun k => range_snoc f k)
  clear hO3 hg3 HR HP k0 k1 A1 hz1'
  go_loopw [11, 57] (fun v i wr => ∃ (a : Nat) (o : Value), a ≤ M ∧ i = .int .i64 (a : Int) ∧ o = v ∧ Owns .u64 22 wr w2.heap.size o ((List.range (a * R)).map f) ∧ Below w2.heap.size w2 wr) (fun _ i _ => M - (intOf i).toNat)
  case atStart => exact ⟨0, _, Nat.zero_le _, rfl, rfl, by rw [Nat.zero_mul]; exact O3.out, B3.out⟩
  case round =>
    clear O3 B3 k2 k3
    obtain ⟨a, o, ha, rfl, rfl, hO, hB⟩ := hrel
    obtain ⟨k0, k1, hBw⟩ := HC.out _ (A2.out.trans (hB.mono hz3))
    by_cases hlt : a < M
    · have hda : decide (a < M) = true := by simpa using hlt
      have HO := Lib.hid hO
      have HB := Lib.hid hB
      have haR := HQ.out a hlt
      clear hO hB hBw
      go_wp2
      clear k0 k1
      go_loopw [11, 63] (fun v i wi => ∃ (u : Nat) (o' : Value), u ≤ R ∧ i = .int .i64 (u : Int) ∧ o' = v ∧ Owns .u64 22 wi w2.heap.size o' ((List.range (a * R + u)).map f) ∧ Below w2.heap.size w2 wi) (fun _ i _ => R - (intOf i).toNat)
      case atStart => exact ⟨0, _, Nat.zero_le _, rfl, rfl, HO.out, HB.out⟩
      case round =>
        clear HO HB
        obtain ⟨u, o', hu, rfl, rfl, hO, hB⟩ := hrel
        obtain ⟨k0, k1, hBw⟩ := HC.out _ (A2.out.trans (hB.mono hz3))
        by_cases hlu : u < R
        · have hdu : decide (u < R) = true := by simpa using hlu
          have he := HX.out a u hlt hlu
          have c0 := (hB.cell (p := ⟨g, a * u, none⟩) hg2).trans (O2.out.num HL.out he)
          rw [HG.out _ he, HF.out a u hlu] at c0
          have hza : (a : Int) * (u : Int) = ((a * u : Nat) : Int) := by simp
          have hS := HS.out (a * R + u)
          have hL : ((List.range (a * R + u)).map f).length = a * R + u := by simp
          obtain ⟨e, hee⟩ : ∃ e : Nat, e = a * u := ⟨_, rfl⟩
          rw [← hee] at he c0 hza
          obtain ⟨q, hq⟩ : ∃ q : Nat, q = a * R + u := ⟨_, rfl⟩
          have hqb : q < N := by omega
          have hq1 : a * R + (u + 1) = q + 1 := by omega
          have HQ1 := Lib.hid hq1
          rw [← hq] at c0 hS hL hO
          obtain ⟨z, hzz⟩ : ∃ z : Int, z = f q := ⟨_, rfl⟩
          rw [← hzz] at c0 hS
          generalize hxs : (List.range q).map f = xs at hO hS hL
          have HO := Lib.hid hO
          have HB := Lib.hid hB
          have HSS := Lib.hid hS
          have HLL := Lib.hid hL
          have hsw : w2.heap.size ≤ wr.heap.size := hB.size
          clear hO hB hBw hS hL hxs hzz hee hq hq1
          go_wp2_with (at_builtin; refine wpList_append_num rfl _ _ 37 rfl w2.heap.size 22 i0 .u64 8 Tryd.underlying37 hi hz0 hz1 hz2 o' _ rfl (HO.out.alloc _) ⟨wr.heap.size, 0, none⟩ 1 1 [z] rfl (src_one _ _ _ _) (by omega) (by rw [HLL.out]; unfold maxLen; omega) (by rw [HLL.out]; omega) (by simp; omega) ?_; intro v' w6 hown' hgrow hat)
          go_roundw
          case rel =>
            refine ⟨u + 1, _, hlu, by go_num, rfl, ?_, ?_⟩
            · rw [HQ1.out, HSS.out]; exact hown'
            · exact (below_al HB.out _).grown hgrow (by simp; omega) (fun k e => (HO.out.inside e).1)
          case measure => simp [intOf]; omega
        · obtain rfl : u = R := by omega
          have hS : a * u + u = (a + 1) * u := by rw [Nat.succ_mul]
          have HO := Lib.hid hO
          have HB := Lib.hid hB
          have HSS := Lib.hid hS
          clear hO hB hBw hS
          go_wp2
          go_roundw
          case rel => exact ⟨a + 1, _, hlt, by go_num, rfl, by rw [← HSS.out]; exact HO.out, HB.out⟩
          case measure => simp [intOf]; omega
    · obtain rfl : a = M := by omega
      have hR : LineRet w ((List.range (a * R)).map f) 0 (.returned (.tuple #[o, .int .i64 0])) wr := ⟨_, rfl, hO.mono (by omega), hBw⟩
      clear hO hB hBw
      go_wp2
      go_ret2
      exact hR

end Go.Proofs.YtlbfllaaabginaaDoor

/-!   What step.Table comes to, over every input.
-/

namespace Go.Proofs.YtlbfllaaabginaaDoor
open Go.RowKit Go.Shelf

theorem twist_tab16 (p : Int) (L : Nat) (neg inv : Bool) (w : World) (hG : Gl w) (h : Fp.kn p = true) (l1 : 1 ≤ L) (l2 : L ≤ 4096) (hd : (p - 1) % ((Fp.od neg L : Nat) : Int) = 0) :
    Calls Tryd.prog 58 #[.int .u64 p, .agg #[.int .i64 (L : Int), .bool neg], .bool inv] w (LineRet w ((List.range L).map (Stp.twT p neg inv L)) 0) := by
  cases inv
  · exact twist_there p L neg w hG h l1 l2 hd
  · exact twist_back16 p L neg w hG h l1 l2 hd

/-- The numbers of a stage, as the program has them. -/
theorem sok_st {p : Int} {xa : List Ax} {ax : Int} {tw : Bool} {t : Fac.Stg} (h : Stp.Sok p xa ⟨ax, tw, t⟩) (ht : tw = false) : ∃ R L M : Nat, t = ⟨(R : Int), (L : Int), (M : Int)⟩ ∧ Stp.Three (gL xa ax.toNat) R L M ∧ R * M ≤ 4096 ∧ R * M ∣ p.toNat - 1 := by
  obtain ⟨n1, n2, n3⟩ := h.nat
  have h3 := h.three ht
  have hd := Stp.stage_dvd h ht
  dsimp only at n1 n2 n3 h3 hd
  have hle := h.ax.L_le h.hi
  dsimp only at hle
  obtain ⟨r, l, m⟩ := t
  dsimp only at n1 n2 n3 h3 hd
  refine ⟨r.toNat, l.toNat, m.toNat, ?_, h3, ?_, hd⟩
  · rw [Int.toNat_of_nonneg n1, Int.toNat_of_nonneg n2, Int.toNat_of_nonneg n3]
  · have := h3.all
    have hl := h3.l1
    have : r.toNat * m.toNat ≤ l.toNat * (r.toNat * m.toNat) := Nat.le_mul_of_pos_left _ hl
    omega
theorem emod_of_dvd {p : Int} {n : Nat} (h : Fp.kn p = true) (hd : n ∣ p.toNat - 1) : (p - 1) % (n : Int) = 0 := by
  have hb := Fp.kn_bd h
  have := Int.natCast_dvd_natCast.2 hd
  rw [show ((p.toNat - 1 : Nat) : Int) = p - 1 by omega] at this
  exact Int.emod_eq_zero_of_dvd this

set_option maxRecDepth 100000 in
set_option maxHeartbeats 2000000 in
theorem table16_any (p : Int) (x : Option Addr) (n cap : Nat) (xa : List Ax) (inv : Bool) (s : Sp) (w : World) (hG : Gl w) (hx : ReadsA w w.heap.size x xa) (hn : xa.length = n) (hl : n ≤ 8796093022208) :
    Calls Tryd.prog 27 #[.int .u64 p, .slice x n cap, .bool inv, spV s] w (LineRet w (Stp.tabL p xa inv s) (Stp.stepE p xa s)) := by
  subst hn
  obtain ⟨ax, tw, t⟩ := s
  have hb0 := (Below.refl w.heap.size w).alloc (Nat.le_refl _) (.cells #[.int .i64 ax, .bool tw, .int .i64 t.r, .int .i64 t.l, .int .i64 t.m] 49)
  have HB := Lib.hid hb0
  have HC := Lib.hid (check16_any p x xa.length cap xa ⟨ax, tw, t⟩ _ (hG.then hb0) ((hx.below hb0).more hb0.size) rfl hl)
  have CE : Hid (∀ W, Below (w.alloc (.cells #[.int .i64 ax, .bool tw, .int .i64 t.r, .int .i64 t.l, .int .i64 t.m] 49)).heap.size (w.alloc (.cells #[.int .i64 ax, .bool tw, .int .i64 t.r, .int .i64 t.l, .int .i64 t.m] 49)) W → SpAt W w.heap.size ⟨ax, tw, t⟩) :=
    Lib.hid (fun W hW => (SpAt.new w 49 ⟨ax, tw, t⟩).then hW)
  by_cases hE : Stp.stepE p xa ⟨ax, tw, t⟩ = 0
  · have hs := Stp.stepE_zero hE
    rw [hs.tab, hE]
    rw [hE] at HC
    have hlo := hs.lo
    have hhi := hs.hi
    dsimp only at hlo hhi
    obtain ⟨a, rfl⟩ : ∃ a : Nat, ax = (a : Int) := ⟨ax.toNat, by omega⟩
    rw [Int.toNat_natCast] at hhi
    have hk := hs.ax.kn
    cases tw
    · obtain ⟨R, L, M, rfl, h3, hle, hd⟩ := sok_st hs rfl
      have hT := fun W hW => stage_tab16 p inv (a : Int) false R M (L : Int) W (hG.then hW) hk (by have := h3.r2; omega) h3.m1 hle (emod_of_dvd hk hd)
      have HT := Lib.hid hT
      have e1 : (List.range (Stp.tabn xa ⟨(a : Int), false, ⟨(R : Int), (L : Int), (M : Int)⟩⟩)).map (Stp.tabN p xa inv ⟨(a : Int), false, ⟨(R : Int), (L : Int), (M : Int)⟩⟩) = (List.range (M * R)).map (Stp.stT p inv R M) := by
        unfold Stp.tabn
        rw [if_neg (by simp)]
        dsimp only
        rw [Int.toNat_natCast, Int.toNat_natCast]
        refine List.map_congr_left fun k _ => ?_
        unfold Stp.tabN
        rw [if_neg (by simp)]
        dsimp only
        rw [Int.toNat_natCast, Int.toNat_natCast]
      rw [e1]
      generalize (List.range (M * R)).map (Stp.stT p inv R M) = res at HT ⊢
      unfold spV at HC ⊢
      dsimp only at HC HB CE ⊢
      clear hs hk hG hx hb0 hE hT e1 h3 hle hd
      go_enter Tryd.func27, Tryd.ntmps27
      go_wp2_with (first
        | (go_at_call 57; refine HC.out.mono ?_; rintro e w1 ⟨rfl, b1⟩; obtain ⟨k0, k1, k2, k3, k4⟩ := CE.out w1 b1; dsimp only at k0 k1 k2 k3 k4; have B1 := Lib.hid (HB.out.trans (b1.mono HB.out.size)); clear b1)
        | (go_at_call 59; refine (HT.out _ B1.out).mono ?_; rintro e w2 ⟨v, rfl, hO, b2⟩))
      go_ret2
      exact ⟨_, rfl, hO.mono B1.out.size, below_then B1.out b2⟩
    · have hz : t = noSt := by
        rcases hs.is with h | h
        · exact h.2
        · cases h.1
      obtain ⟨b, off, rfl, hb, hc⟩ := hx (by omega)
      obtain ⟨c0, c1⟩ := hc a hhi
      rw [hs.ax.int hhi] at c0
      have l1 := hs.ax.L hhi
      have l2 := hs.ax.L_le hhi
      have hd := hs.ax.dvd' hhi
      obtain ⟨neg, hneg⟩ : ∃ neg, neg = (xa.getD a noAx).neg := ⟨_, rfl⟩
      have hneg' : gN xa a = neg := by rw [hneg]; rfl
      rw [← hneg] at c1
      rw [hneg'] at hd
      have hT := fun W hW => twist_tab16 p (gL xa a) neg inv W (hG.then hW) hk l1 l2 hd
      have e1 : (List.range (Stp.tabn xa ⟨(a : Int), true, t⟩)).map (Stp.tabN p xa inv ⟨(a : Int), true, t⟩) = (List.range (gL xa a)).map (Stp.twT p neg inv (gL xa a)) := by
        unfold Stp.tabn
        rw [if_pos rfl]
        dsimp only
        rw [Int.toNat_natCast]
        refine List.map_congr_left fun k _ => ?_
        unfold Stp.tabN
        rw [if_pos rfl]
        dsimp only
        rw [Int.toNat_natCast, hneg']
      rw [e1]
      have HT := Lib.hid hT
      obtain ⟨L, hL⟩ : ∃ L, L = gL xa a := ⟨_, rfl⟩
      rw [← hL] at c0 HT l1 l2 ⊢
      generalize (List.range L).map (Stp.twT p neg inv L) = res at HT ⊢
      have C0 := Lib.hid (fun W (hB : Below w.heap.size w W) => And.intro ((hB.cell (p := ⟨b, off + a * 2, none⟩) hb).trans c0) ((hB.cell (p := ⟨b, off + a * 2 + 1, none⟩) hb).trans c1))
      unfold spV at HC ⊢
      dsimp only at HC HB CE ⊢
      clear hs hk hG hb0 hE hT e1 hc c0 c1 hneg hneg' hd hL hz
      go_enter Tryd.func27, Tryd.ntmps27
      go_wp2_with (first
        | (go_at_call 57; refine HC.out.mono ?_; rintro e w1 ⟨rfl, b1⟩; obtain ⟨k0, k1, k2, k3, k4⟩ := CE.out w1 b1; dsimp only at k0 k1 k2 k3 k4; have B1 := Lib.hid (HB.out.trans (b1.mono HB.out.size)); obtain ⟨c0, c1⟩ := C0.out w1 B1.out; clear b1)
        | (go_at_call 58; refine (HT.out _ B1.out).mono ?_; rintro e w2 ⟨v, rfl, hO, b2⟩))
      go_ret2
      exact ⟨_, rfl, hO.mono B1.out.size, below_then B1.out b2⟩
  · have e : Stp.tabL p xa inv ⟨ax, tw, t⟩ = [] := by unfold Stp.tabL; rw [if_neg hE]
    rw [e]
    have tt := ne_of_bne hE
    generalize Stp.stepE p xa ⟨ax, tw, t⟩ = er at HC tt ⊢
    unfold spV at HC ⊢
    dsimp only at HC HB CE ⊢
    clear hG hx hb0 hE e
    go_enter Tryd.func27, Tryd.ntmps27
    go_wp2_with (go_at_call 57; refine HC.out.mono ?_; rintro e w1 ⟨rfl, b1⟩)
    go_ret2
    exact ⟨_, rfl, Owns.nil, HB.out.trans (b1.mono HB.out.size)⟩

end Go.Proofs.YtlbfllaaabginaaDoor

/-!   A step of axes in which nothing is wrong is one whose numbers are ints.
-/

namespace Go.Proofs.YtlbfllaaabginaaDoor.Stp
open Go.RowKit

theorem Sok.in' {p : Int} {xa : List Ax} {s : Sp} (h : Sok p xa s) (h4 : xa.length ≤ 4) : SpIn s := by
  have h0 := h.lo
  have h1 := h.hi
  rcases h.is with ⟨_, h2⟩ | ⟨ht, h2⟩
  · refine ⟨by omega, ?_, ?_, ?_⟩ <;> rw [h2] <;> decide
  · obtain ⟨h3, h4', h5, h6⟩ := stgs_three (h.ax.sm' h.hi) h2
    have hL := h.ax.L_le h.hi
    have hm := h3.m1
    have hl := h3.l1
    have hr := h3.r5
    have e := h3.all
    have e1 : s.st.l.toNat ≤ gL xa s.ax.toNat := by rw [← e]; exact Nat.le_mul_of_pos_right _ (Nat.mul_pos (by have := h3.r2; omega) hm)
    have e2 : s.st.m.toNat ≤ gL xa s.ax.toNat := by
      rw [← e]
      exact Nat.le_trans (Nat.le_mul_of_pos_left _ (show 0 < s.st.r.toNat by have := h3.r2; omega)) (Nat.le_mul_of_pos_left _ hl)
    exact ⟨by omega, by omega, by omega, by omega⟩

end Go.Proofs.YtlbfllaaabginaaDoor.Stp
