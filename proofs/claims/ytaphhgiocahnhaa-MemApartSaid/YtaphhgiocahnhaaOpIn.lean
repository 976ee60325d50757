/-
  What is done with a memory (brackenlaw12.Op), as a list of such: a slice of structs, each with a slice of events of its own, that came in.
-/
import Derived.Test.YtaphhgiocahnhaaEvent
import Derived.Deep.Fields23
namespace Go.Proofs.Ytaphhgiocahnhaa
open Go.RowKit Go.Deep Go.ChangeShapes

/-- Something that is done: its kind, its place, its word, and the slice of its events. -/
structure OpV where
  kd : Int
  ad : Int
  wd : Int
  x : Option Addr
  n : Nat
  cap : Nat
  es : List Ev

def noOp : OpV := ⟨0, 0, 0, none, 0, 0, []⟩
instance : Inhabited OpV := ⟨noOp⟩

/-- Its numbers are what they are; its events came in. -/
def OpOk (w : World) (o : OpV) : Prop := (0 ≤ o.kd ∧ o.kd < 256) ∧ (-9223372036854775808 ≤ o.ad ∧ o.ad < 9223372036854775808) ∧ (0 ≤ o.wd ∧ o.wd < 18446744073709551616) ∧ EventIn w o.x o.n o.cap o.es

/-- The four cells at offset f of block b are o. -/
def OpAt (w : World) (b f : Nat) (o : OpV) : Prop :=
  w.cell? ⟨b, f, none⟩ = some (.int .u8 o.kd) ∧ w.cell? ⟨b, f + 1, none⟩ = some (.int .i64 o.ad) ∧ w.cell? ⟨b, f + 2, none⟩ = some (.int .u64 o.wd) ∧ w.cell? ⟨b, f + 3, none⟩ = some (.slice o.x o.n o.cap)
theorem OpAt.keep {w w' : World} {b f B : Nat} {o : OpV} (h : OpAt w b f o) (hb : b < B) (hk : ∀ p : Addr, p.block < B → w'.cell? p = w.cell? p) : OpAt w' b f o := by
  obtain ⟨h0, h1, h2, h3⟩ := h
  exact ⟨(hk _ hb).trans h0, (hk _ hb).trans h1, (hk _ hb).trans h2, (hk _ hb).trans h3⟩

/-- The address x holds what is done, in blocks below B (asked only if there is any). -/
def ReadsO (w : World) (B : Nat) (x : Option Addr) (os : List OpV) : Prop :=
  0 < os.length → ∃ b off, x = some ⟨b, off, none⟩ ∧ b < B ∧ ∀ j, j < os.length → OpAt w b (off + j * 4) (os.getD j noOp)
theorem ReadsO.below {w w' : World} {B : Nat} {x : Option Addr} {os : List OpV} (h : ReadsO w B x os) (hb : Below B w w') : ReadsO w' B x os := fun hn => by
  obtain ⟨b, off, e, h1, h2⟩ := h hn
  exact ⟨b, off, e, h1, fun j hj => (h2 j hj).keep h1 fun _ hp => hb.cell hp⟩

/-- A slice of what is done, that came in. -/
def OpIn (w : World) (a : Option Addr) (len cap : Nat) (os : List OpV) : Prop := os.length = len ∧ (len ≤ cap ∧ (a = none → len = 0 ∧ cap = 0)) ∧ cap ≤ maxLen ∧ ReadsO w w.heap.size a os ∧ ∀ o ∈ os, OpOk w o

theorem cells_op : Try.prog.cellsOf 35 = 4 := by kernel_rfl
theorem cells_u8O : Try.prog.cellsOf 5 = 1 := by kernel_rfl
theorem cells_evsO : Try.prog.cellsOf 22 = 1 := by kernel_rfl

theorem trod_struct4' {H : Type} {enc : TypeId × Value → H} {P : Program} {w : World} {base : Nat} {spare : Nat → Bool} {held : Bool} {t : TypeId} {f0 f1 f2 f3 : Field} {fuel : Nat} {cs : List Value} {x : DataW H × List MemPlace} (ht : P.underlying t = some (.struct #[f0, f1, f2, f3])) (h : DataW.trod enc P w base spare held fuel t cs = some x) :
    ∃ y0 y1 y2 y3 n, DataW.trod enc P w base spare held n f0.type ((cs.drop f0.offset).take (P.cellsOf f0.type)) = some y0 ∧
      DataW.trod enc P w base spare held n f1.type ((cs.drop f1.offset).take (P.cellsOf f1.type)) = some y1 ∧ DataW.trod enc P w base spare held n f2.type ((cs.drop f2.offset).take (P.cellsOf f2.type)) = some y2 ∧
      DataW.trod enc P w base spare held n f3.type ((cs.drop f3.offset).take (P.cellsOf f3.type)) = some y3 := by
  obtain ⟨xs, n, _, rfl, hl, hlen, hf⟩ := DataW.trod_struct ht h
  match xs, hlen with
  | [y0, y1, y2, y3], _ => exact ⟨y0, y1, y2, y3, n, by simpa using hf 0 f0 rfl, by simpa using hf 1 f1 rfl, by simpa using hf 2 f2 rfl, by simpa using hf 3 f3 rfl⟩
theorem four_of {α : Type} {cs : List α} (h : cs.length = 4) : ∃ a b c d, cs = [a, b, c, d] := by
  match cs, h with
  | [a, b, c, d], _ => exact ⟨a, b, c, d, rfl⟩

/-- A slice of events in a cell: its form, and that it came in. -/
theorem open_events {H : Type} {enc : TypeId × Value → H} {w : World} {base : Nat} {spare : Nat → Bool} {held : Bool} {fuel : Nat} {v : Value} {x : DataW H × List MemPlace}
    (h : DataW.trod enc Try.prog w base spare held fuel 22 [v] = some x) : ∃ a len cap es, v = .slice a len cap ∧ EventIn w a len cap es := by
  rcases open_slice Try.underlying22 h with ⟨e, _⟩ | ⟨ad, l, c, m, n, D, Pl, e, _⟩
  · simp at e
    obtain ⟨es, hes⟩ := open_Event h (by rw [e])
    exact ⟨_, _, _, es, e, hes⟩
  · simp at e
    obtain ⟨es, hes⟩ := open_Event h (by rw [e])
    exact ⟨_, _, _, es, e, hes⟩

set_option maxRecDepth 100000 in
theorem open_Op {H : Type} {enc : TypeId × Value → H} {w : World} {base : Nat} {spare : Nat → Bool} {held : Bool} {fuel : Nat} {cs : List Value} {x : DataW H × List MemPlace} {a : Option Addr} {len cap : Nat}
    (h : DataW.trod enc Try.prog w base spare held fuel 23 cs = some x) (hcs : cs = [.slice a len cap]) : ∃ os, OpIn w a len cap os := by
  rcases open_slice Try.underlying23 h with ⟨e, _⟩ | ⟨ad, l, c, m, n, D, Pl, e, _, hl, hm, hmm, _, hx⟩
  · rw [hcs] at e
    simp at e
    obtain ⟨rfl, rfl, rfl⟩ := e
    exact ⟨[], rfl, ⟨Nat.le_refl _, fun _ => ⟨rfl, rfl⟩⟩, by unfold maxLen; omega, fun h => absurd h (by simp), fun s hs => by cases hs⟩
  · rw [hcs] at e
    simp at e
    obtain ⟨rfl, rfl, rfl⟩ := e
    have hlm : len ≤ m := by rw [hmm]; split <;> omega
    have each : ∀ i, i < m → ∃ o : OpV, OpOk w o ∧ w.cell? (ad.add (i * 4)) = some (.int .u8 o.kd) ∧ w.cell? (ad.add (i * 4 + 1)) = some (.int .i64 o.ad) ∧ w.cell? (ad.add (i * 4 + 2)) = some (.int .u64 o.wd) ∧
        w.cell? (ad.add (i * 4 + 3)) = some (.slice o.x o.n o.cap) := by
      intro i hi
      obtain ⟨cs', h1, h2⟩ := hx i hi
      rw [cells_op] at h1
      obtain ⟨_, hlen, hcell⟩ := World.cells?_some h1
      obtain ⟨y0, y1, y2, y3, k, g0, g1, g2, g3⟩ := trod_struct4' Try.underlying35 h2
      obtain ⟨v0, v1, v2, v3, rfl⟩ := four_of hlen
      dsimp only at g0 g1 g2 g3
      rw [cells_u8O] at g0
      rw [cells_intE] at g1
      rw [cells_u64E] at g2
      rw [cells_evsO] at g3
      obtain ⟨n0, e0, _, w0⟩ := DataW.trod_int Try.underlying5 g0
      obtain ⟨n1, e1, _, w1⟩ := DataW.trod_int Try.underlying3 g1
      obtain ⟨n2, e2, _, w2⟩ := DataW.trod_int Try.underlying33 g2
      obtain ⟨a3, l3, c3, es, e3, hes⟩ := open_events (v := v3) (by simpa using g3)
      simp at e0 e1 e2
      have c0 := hcell 0 (by omega)
      have c1 := hcell 1 (by omega)
      have c2 := hcell 2 (by omega)
      have c3' := hcell 3 (by omega)
      rw [add_add] at c0 c1 c2 c3'
      have b2 := bounds_u64 w2
      exact ⟨⟨n0, n1, n2, a3, l3, c3, es⟩, ⟨u8_of w0, i64_of w1, by dsimp only; omega, hes⟩, by simpa [e0] using c0, by simpa [e1] using c1, by simpa [e2] using c2, by simpa [e3] using c3'⟩
    obtain ⟨q, hq⟩ := choose_lt each
    refine ⟨(List.range len).map q, by simp, ⟨hl, fun e => by cases e⟩, hm, fun hn => ?_, fun s hs => ?_⟩
    · simp at hn
      obtain ⟨b, off, spot⟩ := ad
      have hspot : spot = none := by simpa [Addr.add] using World.cell?_spot (hq 0 (by omega)).2.1
      subst hspot
      refine ⟨b, off, rfl, World.block_lt_of_cell? _ _ (by simpa [Addr.add] using (hq 0 (by omega)).2.1), fun j hj => ?_⟩
      simp at hj
      obtain ⟨_, c0, c1, c2, c3⟩ := hq j (by omega)
      rw [Go.WideShapes.add_plain] at c0 c1 c2 c3
      have eg : ((List.range len).map q).getD j noOp = q j := by simp [hj]
      rw [eg]
      exact ⟨c0, c1, c2, c3⟩
    · obtain ⟨j, hj, rfl⟩ := List.mem_map.1 hs
      exact (hq j (by have := List.mem_range.1 hj; omega)).1

end Go.Proofs.Ytaphhgiocahnhaa
