/-
  What the laws of layer 17 ask of plan's functions, in one word.
-/
import Derived.Test.YtlbfllaaabginaaDoorStepA
import Derived.Test.YtlbfllaaabginaaDoorStepMath
import Derived.Test.YtlbfllaaabginaaDoorReq
import Derived.Test.YtlbfllaaabginaaDoorRegions
import Derived.Laws.Rows
import Derived.Laws.ResultCell
namespace Go.Proofs.YtlbfllaaabginaaDoor
open Go.RowKit

/-- What a call returns that tells steps, or why not. -/
def RetSs (w : World) (ss : List Sp) (er : Int) (e : Ending) (w' : World) : Prop := ∃ v, e = .returned (.tuple #[v, .int .i64 er]) ∧ OwnsP w' w.heap.size v ss ∧ Below w.heap.size w w'
/-- A plan as the program has it. -/
def plV (n t ws : Int) (v : Value) : Value := .agg #[.int .i64 n, .int .i64 t, .int .i64 ws, v]
/-- What a call returns that tells a plan, or why not. -/
def RetPn (w : World) (n t ws : Int) (ss : List Sp) (er : Int) (e : Ending) (w' : World) : Prop := ∃ v, e = .returned (.tuple #[plV n t ws v, .int .i64 er]) ∧ OwnsP w' w.heap.size v ss ∧ Below w.heap.size w w'

/-- How many words, factors, and words of memory a plan has. -/
def plN (p : Int) (xa : List Ax) : Nat := if gridE p xa = 0 then Sh.prod (szs xa) else 0
def plT (p : Int) (xa : List Ax) (inv : Bool) : Nat := Stp.most xa (Stp.plL p xa inv)
def plW (p : Int) (xa : List Ax) (inv : Bool) : Nat := if gridE p xa = 0 then 2 * (Sh.prod (szs xa) + 6) + plT p xa inv else 0

/-- A plan in a block. -/
structure Pl4 (w : World) (g : Nat) (a b c : Int) (v : Value) : Prop where
  is : w.heap[g]? = some (.cells #[.int .i64 a, .int .i64 b, .int .i64 c, v] 31)
section
variable {w w' : World} {g : Nat} {a b c : Int} {v : Value}
theorem Pl4.c0 (h : Pl4 w g a b c v) : w.cell? ⟨g, 0, none⟩ = some (.int .i64 a) := by rw [cell_of_row w g 0 _ _ _ h.is]; rfl
theorem Pl4.c1 (h : Pl4 w g a b c v) : w.cell? ⟨g, 1, none⟩ = some (.int .i64 b) := by rw [cell_of_row w g 1 _ _ _ h.is]; rfl
theorem Pl4.c2 (h : Pl4 w g a b c v) : w.cell? ⟨g, 2, none⟩ = some (.int .i64 c) := by rw [cell_of_row w g 2 _ _ _ h.is]; rfl
theorem Pl4.c3 (h : Pl4 w g a b c v) : w.cell? ⟨g, 3, none⟩ = some v := by rw [cell_of_row w g 3 _ _ _ h.is]; rfl
theorem Pl4.fr (h : Pl4 w g a b c v) (j : Nat) : w.frozen? ⟨g, j, none⟩ = false := frozen_of_row w g j _ _ h.is
theorem Pl4.lt (h : Pl4 w g a b c v) : g < w.heap.size := by
  rcases Nat.lt_or_ge g w.heap.size with hlt | hge
  · exact hlt
  · have := h.is; rw [Array.getElem?_eq_none hge] at this; cases this
theorem Pl4.below {B : Nat} (h : Pl4 w g a b c v) (hb : Below B w w') (hg : g < B) : Pl4 w' g a b c v := ⟨(hb.block g hg).trans h.is⟩
theorem Pl4.then (h : Pl4 w g a b c v) (hb : Below w.heap.size w w') : Pl4 w' g a b c v := h.below hb h.lt
theorem Pl4.new (w : World) (a b c : Int) (v : Value) : Pl4 (w.alloc (.cells #[.int .i64 a, .int .i64 b, .int .i64 c, v] 31)) w.heap.size a b c v := ⟨heap_alloc_new _ _⟩
theorem Pl4.set (h : Pl4 w g a b c v) (a' b' c' : Int) (v' : Value) : Pl4 ((((w.setCell ⟨g, 0, none⟩ (.int .i64 a')).setCell ⟨g, 1, none⟩ (.int .i64 b')).setCell ⟨g, 2, none⟩ (.int .i64 c')).setCell ⟨g, 3, none⟩ v') g a' b' c' v' :=
  ⟨heap_setCell_same _ g 3 _ _ _ (heap_setCell_same _ g 2 _ _ _ (heap_setCell_same _ g 1 _ _ _ (heap_setCell_same _ g 0 _ _ _ h.is)))⟩
theorem below_pl4 {B : Nat} {w w' : World} {g : Nat} (h : Below B w w') (hg : B ≤ g) (a b c d : Value) : Below B w ((((w'.setCell ⟨g, 0, none⟩ a).setCell ⟨g, 1, none⟩ b).setCell ⟨g, 2, none⟩ c).setCell ⟨g, 3, none⟩ d) :=
  (((h.setCell (p := ⟨g, 0, none⟩) hg a).setCell (p := ⟨g, 1, none⟩) hg b).setCell (p := ⟨g, 2, none⟩) hg c).setCell (p := ⟨g, 3, none⟩) hg d
theorem OwnsP.pl4 {W : World} {base : Nat} {u : Value} {ss : List Sp} (h : OwnsP W base u ss) (hg : u.ownBlock ≠ some g) (a b c d : Value) : OwnsP ((((W.setCell ⟨g, 0, none⟩ a).setCell ⟨g, 1, none⟩ b).setCell ⟨g, 2, none⟩ c).setCell ⟨g, 3, none⟩ d) base u ss := by
  refine h.still fun k e => ?_
  have hk : k ≠ g := fun c => hg (by rw [e, c])
  rw [Below.heap_setCell _ _ _ _ hk, Below.heap_setCell _ _ _ _ hk, Below.heap_setCell _ _ _ _ hk, Below.heap_setCell _ _ _ _ hk]
end

theorem OwnsP.mono {w : World} {base base' : Nat} {v : Value} {ss : List Sp} (h : OwnsP w base v ss) (hb : base' ≤ base) : OwnsP w base' v ss := World.ownsRow.mono h hb

theorem cells_plan : (Tryd.prog.info? 31).map (·.size) = some 4 := by kernel_rfl

/-- The result of a function that tells a plan and an error. -/
theorem results_pl {fn : Func} {p u : Tmp} (h : fn.results = #[.cell p 31, .tmp u]) (tmps : Array Value) (w : World) (g : Nat) (a b c : Int) (v : Value)
    (hp : tmps.getD p undef = .pointer (some ⟨g, 0, none⟩)) (hg : Pl4 w g a b c v) : (results fn tmps).run Tryd.prog w = .ok (.tuple #[plV a b c v, tmps.getD u undef]) w := by
  rw [results_cell_tmp h, hp]
  simp [asAddr, run_loadVar_row w g _ _ _ _ _ hg.is Tryd.underlying31 rfl cells_plan, plV]

/-- What plan's functions come to, in a world in which G holds. -/
structure PlanHas (G : World → Prop) : Prop where
  keep : ∀ {w w' : World}, G w → Below w.heap.size w w' → G w'
  steps : ∀ (p : Int) (x : Option Addr) (n cap : Nat) (xa : List Ax) (inv : Bool) (w : World), G w → ReadsA w w.heap.size x xa → xa.length = n → n ≤ 8796093022208 →
    Calls Tryd.prog 13 #[.int .u64 p, .slice x n cap, .bool inv] w (RetSs w (Stp.plL p xa inv) (gridE p xa))
  make : ∀ (p : Int) (x : Option Addr) (n cap : Nat) (xa : List Ax) (inv : Bool) (w : World), G w → ReadsA w w.heap.size x xa → xa.length = n → n ≤ 8796093022208 →
    Calls Tryd.prog 15 #[.int .u64 p, .slice x n cap, .bool inv] w (RetPn w (plN p xa) (plT p xa inv) (plW p xa inv) (Stp.plL p xa inv) (gridE p xa))
  check : ∀ (q : Rq) (w : World), G w → RqIn w w.heap.size q → Calls Tryd.prog 23 #[rqV q] w (RetB (.int .i64 (chkE q)) w)
  item : ∀ (q : Rq) (i : Int) (w : World), G w → RqIn w w.heap.size q → -9223372036854775808 ≤ i ∧ i < 9223372036854775808 →
    Calls Tryd.prog 20 #[rqV q, .int .i64 i] w (LineRet w (itL q i) (itE q i))

/-- A row has grown, from the value v to v': nothing but its own blocks has changed. -/
def Gro (v v' : Value) (w w' : World) : Prop := But (fun k => v.ownBlock = some k) w w' ∧ ∀ k, v'.ownBlock = some k → v.ownBlock = some k ∨ w.heap.size ≤ k
section
variable {v v' v'' : Value} {w w' w'' : World}
theorem Gro.refl (v : Value) (w : World) : Gro v v w w := ⟨But.refl _ _, fun _ h => .inl h⟩
theorem Gro.trans (h : Gro v v' w w') (h' : Gro v' v'' w' w'') : Gro v v'' w w'' := by
  have hs := h.1.size
  refine ⟨h.1.trans h'.1 (fun k hk hf => (h.2 k hf).elim id (fun c => by omega)), fun k hk => ?_⟩
  rcases h'.2 k hk with c | c
  · exact h.2 k c
  · exact .inr (by omega)
theorem Gro.of_below (v : Value) (h : Below w.heap.size w w') : Gro v v w w' := ⟨But.of_below h, fun _ c => .inl c⟩
theorem Gro.cell (h : Gro v v' w w') {p : Addr} (hp : p.block < w.heap.size) (hn : v.ownBlock ≠ some p.block) : w'.cell? p = w.cell? p :=
  (World.cell?_of_block (h.1.block p.block hp hn))
theorem SpAt.gro {g : Nat} {s : Sp} (h : SpAt w g s) (hg : Gro v v' w w') (hn : v.ownBlock ≠ some g) : SpAt w' g s :=
  ⟨(hg.cell (p := ⟨g, 0, none⟩) h.lt hn).trans h.c0, (hg.cell (p := ⟨g, 1, none⟩) h.lt hn).trans h.c1, (hg.cell (p := ⟨g, 2, none⟩) h.lt hn).trans h.c2, (hg.cell (p := ⟨g, 3, none⟩) h.lt hn).trans h.c3, (hg.cell (p := ⟨g, 4, none⟩) h.lt hn).trans h.c4⟩
theorem Gro.below (h : Gro v v' w w') {n : Nat} (hn : n ≤ w.heap.size) (hv : ∀ k, v.ownBlock = some k → n ≤ k) : Below n w w' := h.1.below hn hv
end

/-- Once more: one step put behind a row of steps of the call's own, and where the row lies then. -/
theorem wpList_append_sp2 {w : World} {ops : Array Oper} {rest : List Oper} {o : Oper} {a : Act} {Q : Exit → Act → World → Prop} (hgd : o.guard = none) (s x : Operand)
    (ho : o.op = .call { callee := .builtin .append, args := #[s, x], argTypes := #[26, 26] }) (base : Nat)
    (v : Value) (ss : List Sp) (hs : a.eval s = v) (W0 : World) (obj : Obj) (hW : W0.alloc obj = w) (hown : OwnsP W0 base v ss) (ad : Addr) (cap : Nat) (y : Sp) (hx : a.eval x = .slice (some ad) 1 cap) (hsrc : ∀ j u, (spc y)[j]? = some u → w.cell? (ad.add j) = some u) (hb : ss.length + 1 ≤ 1000000) (hbase : base ≤ W0.heap.size)
    (h : ∀ v' w', OwnsP w' base v' (ss ++ [y]) → Gro v v' W0 w' → wpList Tryd.prog ops Q rest (a.put o.dst v') w') : wpList Tryd.prog ops Q (o :: rest) a w := by
  obtain ⟨i0, hi, hz0, hz1, hz2⟩ := info_parts info_sp
  have hB := below_al (Below.refl W0.heap.size W0) obj
  have hsz : w.heap.size = W0.heap.size + 1 := by rw [← hW, World.size_alloc]
  rw [hW] at hB
  have hown1 : OwnsP w base v ss := hown.below hB
  refine wpList_append_lies w hgd s x _ ho base 49 i0 (.agg #[.int .i64 0, .bool false, .int .i64 0, .int .i64 0, .int .i64 0]) 5 40 Tryd.underlying26 hi hz0 hz1 hz2 rfl (by decide) v ss.length (ss.flatMap spc) hs hown1 ad 1 cap (spc y) hx rfl hsrc (spc_one y) (by omega) (by unfold maxLen; omega) (by omega) (by omega) _ rfl ?_
  intro g cp w' hown' hg hat _
  refine h _ w' ?_ ((Gro.of_below v hB).trans ⟨But.of_grown hg, fun k e => ?_⟩)
  · unfold OwnsP
    rw [List.length_append, List.flatMap_append]
    simpa using hown'
  · have : g = k := by simpa [Value.ownBlock] using e
    subst this
    exact hat.imp id fun c => by omega

/-- Where a row of stages lies. -/
theorem OwnsS.lies {w : World} {base : Nat} {v : Value} {ss : List Fac.Stg} (h : OwnsS w base v ss) : ∃ x cap, v = .slice x ss.length cap ∧ ss.length ≤ cap ∧ cap ≤ maxLen ∧ (0 < ss.length → ∃ b off, x = some ⟨b, off, none⟩ ∧ base ≤ b ∧ b < w.heap.size ∧ ∀ j, j < ss.length →
    w.cell? ⟨b, off + j * 3, none⟩ = some (.int .i64 (ss.getD j noStg).r) ∧ w.cell? ⟨b, off + j * 3 + 1, none⟩ = some (.int .i64 (ss.getD j noStg).l) ∧ w.cell? ⟨b, off + j * 3 + 2, none⟩ = some (.int .i64 (ss.getD j noStg).m)) := by
  obtain ⟨x, cap, rfl, h1, h2, h3⟩ := h.form
  refine ⟨x, cap, rfl, h1, h2, fun hn => ?_⟩
  obtain ⟨b, off, rfl, hb, hc⟩ := h3 hn
  exact ⟨b, off, rfl, (World.ownsRow.lt h b rfl).1, hb, hc⟩

end Go.Proofs.YtlbfllaaabginaaDoor
