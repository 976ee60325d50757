/-
  Slices of events, read as lists: such a slice that came in, and one that a call made for itself.
-/
import Derived.Test.YtaphhgiocahnhaaRow
import Derived.Test.YtaphhgiocahnhaaSince
import Derived.Test.YtaphhgiocahnhaaInts
import Derived.Deep.Slices
import Derived.Deep.Strs
import Derived.ChangeSame
import Derived.SizedLaws
import Derived.Laws.StructEq
namespace Go.Proofs.Ytaphhgiocahnhaa
open Go.RowKit Go.Deep Go.ChangeShapes

theorem below_on {w w' w'' : World} (h : Below w.heap.size w w') (h' : Below w'.heap.size w' w'') : Below w.heap.size w w'' := h.trans (h'.mono h.size)

/-- An event. -/
structure Ev where
  it : Int
  tr : Int
  wn : Int
  tk : Int
  ad : Int
  msk : Int
  deriving DecidableEq

def noEv : Ev := ⟨0, 0, 0, 0, 0, 0⟩
instance : Inhabited Ev := ⟨noEv⟩
def evc (s : Ev) : List Value := [.int .i64 s.it, .int .i64 s.tr, .int .i64 s.wn, .int .i64 s.tk, .int .i64 s.ad, .int .u64 s.msk]

/-- Its numbers are ints, and a word. -/
def EvOk (s : Ev) : Prop := (-9223372036854775808 ≤ s.it ∧ s.it < 9223372036854775808) ∧ (-9223372036854775808 ≤ s.tr ∧ s.tr < 9223372036854775808) ∧ (-9223372036854775808 ≤ s.wn ∧ s.wn < 9223372036854775808) ∧
  (-9223372036854775808 ≤ s.tk ∧ s.tk < 9223372036854775808) ∧ (-9223372036854775808 ≤ s.ad ∧ s.ad < 9223372036854775808) ∧ (0 ≤ s.msk ∧ s.msk < 18446744073709551616)
theorem noEv_ok : EvOk noEv := by unfold EvOk noEv; dsimp only; omega
def EvsOk (es : List Ev) : Prop := ∀ s ∈ es, EvOk s
theorem EvsOk.at {es : List Ev} (h : EvsOk es) (j : Nat) : EvOk (es.getD j noEv) := by
  by_cases hj : j < es.length
  · rw [List.getD_eq_getElem?_getD, List.getElem?_eq_getElem hj]; exact h _ (List.getElem_mem hj)
  · rw [List.getD_eq_getElem?_getD, List.getElem?_eq_none (by omega)]; exact noEv_ok

/-- The six cells at offset o of block b are the event s. -/
def EvAt (w : World) (b o : Nat) (s : Ev) : Prop :=
  w.cell? ⟨b, o, none⟩ = some (.int .i64 s.it) ∧ w.cell? ⟨b, o + 1, none⟩ = some (.int .i64 s.tr) ∧ w.cell? ⟨b, o + 2, none⟩ = some (.int .i64 s.wn) ∧
  w.cell? ⟨b, o + 3, none⟩ = some (.int .i64 s.tk) ∧ w.cell? ⟨b, o + 4, none⟩ = some (.int .i64 s.ad) ∧ w.cell? ⟨b, o + 5, none⟩ = some (.int .u64 s.msk)
theorem EvAt.keep {w w' : World} {b o B : Nat} {s : Ev} (h : EvAt w b o s) (hb : b < B) (hk : ∀ p : Addr, p.block < B → w'.cell? p = w.cell? p) : EvAt w' b o s := by
  obtain ⟨h0, h1, h2, h3, h4, h5⟩ := h
  exact ⟨(hk _ hb).trans h0, (hk _ hb).trans h1, (hk _ hb).trans h2, (hk _ hb).trans h3, (hk _ hb).trans h4, (hk _ hb).trans h5⟩
theorem EvAt.lt {w : World} {b o : Nat} {s : Ev} (h : EvAt w b o s) : b < w.heap.size := World.block_lt_of_cell? _ _ h.1
theorem EvAt.below {w w' : World} {b o : Nat} {s : Ev} (h : EvAt w b o s) (hb : Below w.heap.size w w') : EvAt w' b o s := h.keep h.lt fun _ hp => hb.cell hp
theorem EvAt.new (w : World) (s : Ev) (t : TypeId) : EvAt (w.alloc (.cells #[.int .i64 s.it, .int .i64 s.tr, .int .i64 s.wn, .int .i64 s.tk, .int .i64 s.ad, .int .u64 s.msk] t)) w.heap.size 0 s := by
  refine ⟨?_, ?_, ?_, ?_, ?_, ?_⟩ <;> simp

/-- The address x holds the events es, in blocks below B (asked only if there are any). -/
def ReadsE (w : World) (B : Nat) (x : Option Addr) (es : List Ev) : Prop :=
  0 < es.length → ∃ b off, x = some ⟨b, off, none⟩ ∧ b < B ∧ ∀ j, j < es.length → EvAt w b (off + j * 6) (es.getD j noEv)

section
variable {w w' : World} {B B' : Nat} {x : Option Addr} {es : List Ev}
theorem ReadsE.nil : ReadsE w B x [] := fun h => absurd h (by simp)
theorem ReadsE.keep (h : ReadsE w B x es) (hk : ∀ p : Addr, p.block < B → w'.cell? p = w.cell? p) : ReadsE w' B x es := fun hn => by
  obtain ⟨b, off, e, hb, hc⟩ := h hn
  exact ⟨b, off, e, hb, fun j hj => (hc j hj).keep hb hk⟩
theorem ReadsE.more (h : ReadsE w B x es) (hB : B ≤ B') : ReadsE w B' x es := fun hn => by
  obtain ⟨b, off, e, hb, hc⟩ := h hn
  exact ⟨b, off, e, by omega, hc⟩
theorem ReadsE.below (h : ReadsE w B x es) (hb : Below B w w') : ReadsE w' B x es := h.keep fun _ hp => hb.cell hp
theorem ReadsE.since (h : ReadsE w w.heap.size x es) (hb : Below w.heap.size w w') : ReadsE w' w'.heap.size x es := (h.below hb).more hb.size
theorem ReadsE.draws (h : ReadsE w B x es) (n : Nat) : ReadsE (w.drewN n) B x es := h
theorem ReadsE.same (h : ReadsE w B x es) {es' : List Ev} (e : es' = es) : ReadsE w B x es' := e ▸ h
end

/-- A slice of events that came in. -/
def EventIn (w : World) (a : Option Addr) (len cap : Nat) (es : List Ev) : Prop := es.length = len ∧ (len ≤ cap ∧ (a = none → len = 0 ∧ cap = 0)) ∧ cap ≤ maxLen ∧ ReadsE w w.heap.size a es ∧ EvsOk es

theorem cells_ev : Try.prog.cellsOf 47 = 6 := by kernel_rfl
theorem cells_intE : Try.prog.cellsOf 3 = 1 := by kernel_rfl
theorem cells_u64E : Try.prog.cellsOf 33 = 1 := by kernel_rfl
theorem bytes_ev : Try.prog.bytesOf 47 = 48 := by kernel_rfl
theorem info_ev : (Try.prog.info? 47).map (fun i => (i.zero, i.size, i.bytes)) = some (some (.agg #[.int .i64 0, .int .i64 0, .int .i64 0, .int .i64 0, .int .i64 0, .int .u64 0]), 6, 48) := by kernel_rfl

theorem trod_struct6 {H : Type} {enc : TypeId × Value → H} {P : Program} {w : World} {base : Nat} {spare : Nat → Bool} {held : Bool} {t : TypeId} {f0 f1 f2 f3 f4 f5 : Field} {fuel : Nat} {cs : List Value} {x : DataW H × List MemPlace} (ht : P.underlying t = some (.struct #[f0, f1, f2, f3, f4, f5])) (h : DataW.trod enc P w base spare held fuel t cs = some x) :
    ∃ y0 y1 y2 y3 y4 y5 n, DataW.trod enc P w base spare held n f0.type ((cs.drop f0.offset).take (P.cellsOf f0.type)) = some y0 ∧
      DataW.trod enc P w base spare held n f1.type ((cs.drop f1.offset).take (P.cellsOf f1.type)) = some y1 ∧ DataW.trod enc P w base spare held n f2.type ((cs.drop f2.offset).take (P.cellsOf f2.type)) = some y2 ∧
      DataW.trod enc P w base spare held n f3.type ((cs.drop f3.offset).take (P.cellsOf f3.type)) = some y3 ∧ DataW.trod enc P w base spare held n f4.type ((cs.drop f4.offset).take (P.cellsOf f4.type)) = some y4 ∧
      DataW.trod enc P w base spare held n f5.type ((cs.drop f5.offset).take (P.cellsOf f5.type)) = some y5 := by
  obtain ⟨xs, n, _, rfl, hl, hlen, hf⟩ := DataW.trod_struct ht h
  match xs, hlen with
  | [y0, y1, y2, y3, y4, y5], _ => exact ⟨y0, y1, y2, y3, y4, y5, n, by simpa using hf 0 f0 rfl, by simpa using hf 1 f1 rfl, by simpa using hf 2 f2 rfl, by simpa using hf 3 f3 rfl, by simpa using hf 4 f4 rfl, by simpa using hf 5 f5 rfl⟩
theorem six_of {α : Type} {cs : List α} (h : cs.length = 6) : ∃ a b c d e f, cs = [a, b, c, d, e, f] := by
  match cs, h with
  | [a, b, c, d, e, f], _ => exact ⟨a, b, c, d, e, f, rfl⟩

set_option maxRecDepth 100000 in
theorem open_Event {H : Type} {enc : TypeId × Value → H} {w : World} {base : Nat} {spare : Nat → Bool} {held : Bool} {fuel : Nat} {cs : List Value} {x : DataW H × List MemPlace} {a : Option Addr} {len cap : Nat}
    (h : DataW.trod enc Try.prog w base spare held fuel 22 cs = some x) (hcs : cs = [.slice a len cap]) : ∃ es, EventIn w a len cap es := by
  rcases open_slice Try.underlying22 h with ⟨e, _⟩ | ⟨ad, l, c, m, n, D, Pl, e, _, hl, hm, hmm, _, hx⟩
  · rw [hcs] at e
    simp at e
    obtain ⟨rfl, rfl, rfl⟩ := e
    exact ⟨[], rfl, ⟨Nat.le_refl _, fun _ => ⟨rfl, rfl⟩⟩, by unfold maxLen; omega, ReadsE.nil, fun s hs => by cases hs⟩
  · rw [hcs] at e
    simp at e
    obtain ⟨rfl, rfl, rfl⟩ := e
    have hlm : len ≤ m := by rw [hmm]; split <;> omega
    have each : ∀ i, i < m → ∃ s : Ev, EvOk s ∧ w.cell? (ad.add (i * 6)) = some (.int .i64 s.it) ∧ w.cell? (ad.add (i * 6 + 1)) = some (.int .i64 s.tr) ∧ w.cell? (ad.add (i * 6 + 2)) = some (.int .i64 s.wn) ∧
        w.cell? (ad.add (i * 6 + 3)) = some (.int .i64 s.tk) ∧ w.cell? (ad.add (i * 6 + 4)) = some (.int .i64 s.ad) ∧ w.cell? (ad.add (i * 6 + 5)) = some (.int .u64 s.msk) := by
      intro i hi
      obtain ⟨cs', h1, h2⟩ := hx i hi
      rw [cells_ev] at h1
      obtain ⟨_, hlen, hcell⟩ := World.cells?_some h1
      obtain ⟨y0, y1, y2, y3, y4, y5, k, g0, g1, g2, g3, g4, g5⟩ := trod_struct6 Try.underlying47 h2
      obtain ⟨v0, v1, v2, v3, v4, v5, rfl⟩ := six_of hlen
      dsimp only at g0 g1 g2 g3 g4 g5
      rw [cells_intE] at g0 g1 g2 g3 g4
      rw [cells_u64E] at g5
      obtain ⟨n0, e0, _, w0⟩ := DataW.trod_int Try.underlying3 g0
      obtain ⟨n1, e1, _, w1⟩ := DataW.trod_int Try.underlying3 g1
      obtain ⟨n2, e2, _, w2⟩ := DataW.trod_int Try.underlying3 g2
      obtain ⟨n3, e3, _, w3⟩ := DataW.trod_int Try.underlying3 g3
      obtain ⟨n4, e4, _, w4⟩ := DataW.trod_int Try.underlying3 g4
      obtain ⟨n5, e5, _, w5⟩ := DataW.trod_int Try.underlying33 g5
      simp at e0 e1 e2 e3 e4 e5
      have c0 := hcell 0 (by omega)
      have c1 := hcell 1 (by omega)
      have c2 := hcell 2 (by omega)
      have c3 := hcell 3 (by omega)
      have c4 := hcell 4 (by omega)
      have c5 := hcell 5 (by omega)
      rw [add_add] at c0 c1 c2 c3 c4 c5
      have b5 := bounds_u64 w5
      exact ⟨⟨n0, n1, n2, n3, n4, n5⟩, ⟨i64_of w0, i64_of w1, i64_of w2, i64_of w3, i64_of w4, by dsimp only; omega⟩, by simpa [e0] using c0, by simpa [e1] using c1, by simpa [e2] using c2, by simpa [e3] using c3, by simpa [e4] using c4, by simpa [e5] using c5⟩
    obtain ⟨q, hq⟩ := choose_lt each
    refine ⟨(List.range len).map q, by simp, ⟨hl, fun e => by cases e⟩, hm, fun hn => ?_, fun s hs => ?_⟩
    · simp at hn
      obtain ⟨b, off, spot⟩ := ad
      have hspot : spot = none := by simpa [Addr.add] using World.cell?_spot (hq 0 (by omega)).2.1
      subst hspot
      refine ⟨b, off, rfl, World.block_lt_of_cell? _ _ (by simpa [Addr.add] using (hq 0 (by omega)).2.1), fun j hj => ?_⟩
      simp at hj
      obtain ⟨_, c0, c1, c2, c3, c4, c5⟩ := hq j (by omega)
      rw [Go.WideShapes.add_plain] at c0 c1 c2 c3 c4 c5
      have eg : ((List.range len).map q).getD j noEv = q j := by simp [hj]
      rw [eg]
      exact ⟨c0, c1, c2, c3, c4, c5⟩
    · obtain ⟨j, hj, rfl⟩ := List.mem_map.1 hs
      exact (hq j (by have := List.mem_range.1 hj; omega)).1

/-- How many events the form's own reach lets come in. -/
theorem event_bound {H : Type} {enc : TypeId × Value → H} {w : World} {base : Nat} {spare : Nat → Bool} {held : Bool} {fuel : Nat} {cs : List Value} {x : DataW H × List MemPlace} {a : Option Addr} {len cap : Nat}
    (h : DataW.trod enc Try.prog w base spare held fuel 22 cs = some x) (hcs : cs = [.slice a len cap]) {ts : List TypeId} {ds : List (DataW H)} (hz : (DataW.weightsEach Try.prog ts ds).all (· ≤ reachBytes) = true) {j : Nat} (ht : ts[j]? = some 22) (hd : ds[j]? = some x.1) : len ≤ 2932031007403 := by
  rcases open_slice Try.underlying22 h with ⟨e, _⟩ | ⟨ad, l, c, m, n, D, Pl, e, _, hl, hm, hmm, hx, _⟩
  · rw [hcs] at e
    simp at e
    omega
  · rw [hcs] at e
    simp at e
    obtain ⟨rfl, rfl, rfl⟩ := e
    rw [hx] at hd
    have := sized_slice hz ht hd Try.underlying22
    rw [bytes_ev, List.length_map, List.length_range] at this
    have := reachBytes_lt
    omega

/-- The value v is a slice of the events es in a row that lies at or beyond block base, and nobody else's. -/
def OwnsE (w : World) (base : Nat) (v : Value) (es : List Ev) : Prop := w.ownsRow base 47 6 v es.length (es.flatMap evc)

theorem flatE_get : ∀ (es : List Ev) (j : Nat), j < es.length → ∀ c, c < 6 → (es.flatMap evc)[j * 6 + c]? = (evc (es.getD j noEv))[c]?
  | [], j, h, _, _ => by simp at h
  | s :: es, 0, _, c, hc => by
    rw [List.flatMap_cons, List.getElem?_append_left (by simp [evc]; omega)]
    simp
  | s :: es, j + 1, h, c, hc => by
    have := flatE_get es j (by simpa using h) c hc
    rw [List.flatMap_cons, List.getElem?_append_right (by simp [evc]; omega)]
    rw [show (j + 1) * 6 + c - (evc s).length = j * 6 + c by simp [evc]; omega, this]
    simp
theorem flatE_len (es : List Ev) : (es.flatMap evc).length = es.length * 6 := by
  induction es with
  | nil => rfl
  | cons s es ih => rw [List.flatMap_cons, List.length_append, ih]; simp [evc]; omega

section
variable {w w' : World} {base base' : Nat} {v : Value} {es : List Ev}
theorem OwnsE.nil : OwnsE w base (.slice none 0 0) [] := World.ownsRow_nil _ _ _ _
theorem OwnsE.mono (h : OwnsE w base v es) (hb : base' ≤ base) : OwnsE w base' v es := World.ownsRow.mono h hb
theorem OwnsE.draws (h : OwnsE w base v es) (n : Nat) : OwnsE (w.drewN n) base v es := h
theorem OwnsE.keep (h : OwnsE w base v es) (hk : ∀ g, base ≤ g → g < w.heap.size → w'.heap[g]? = w.heap[g]?) : OwnsE w' base v es := by
  refine ⟨h.1, ?_⟩
  rcases h.2 with h2 | ⟨g, cap, cur, e1, e2, e3, e4⟩
  · exact .inl h2
  · have hg : g < w.heap.size := by
      rcases Nat.lt_or_ge g w.heap.size with hlt | hge
      · exact hlt
      · rw [Array.getElem?_eq_none hge] at e3; cases e3
    exact .inr ⟨g, cap, cur, e1, e2, (hk g e2 hg).trans e3, e4⟩
theorem OwnsE.below (h : OwnsE w base v es) (hb : Below w.heap.size w w') : OwnsE w' base v es := h.keep fun g _ hg => hb.block g hg
theorem OwnsE.alloc (h : OwnsE w base v es) (o : Obj) : OwnsE (w.alloc o) base v es := World.ownsRow.alloc h o
theorem OwnsE.form (h : OwnsE w base v es) : ∃ x cap, v = .slice x es.length cap ∧ es.length ≤ cap ∧ cap ≤ maxLen ∧ ReadsE w w.heap.size x es ∧ (0 < es.length → ∃ g, x = some ⟨g, 0, none⟩ ∧ base ≤ g ∧ g < w.heap.size) := by
  rcases h.2 with ⟨e1, e2⟩ | ⟨g, cap, cur, e1, e2, e3, e4, e5, e6, e7⟩
  · exact ⟨none, 0, by rw [e1, e2], by omega, by unfold maxLen; omega, fun hn => by omega, fun hn => by omega⟩
  · have hg : g < w.heap.size := by
      rcases Nat.lt_or_ge g w.heap.size with hlt | hge
      · exact hlt
      · rw [Array.getElem?_eq_none hge] at e3; cases e3
    refine ⟨some ⟨g, 0, none⟩, cap, e1, e4, e5, fun hn => ⟨g, 0, rfl, hg, fun j hj => ?_⟩, fun _ => ⟨g, rfl, e2, hg⟩⟩
    subst e1
    have hl := flatE_len es
    have each : ∀ c, c < 6 → w.cell? ⟨g, 0 + j * 6 + c, none⟩ = (evc (es.getD j noEv))[c]? := fun c hc => by
      rw [Nat.zero_add, World.ownsRow.cellAt h (j * 6 + c) (by omega), flatE_get es j hj c hc]
    exact ⟨each 0 (by omega), each 1 (by omega), each 2 (by omega), each 3 (by omega), each 4 (by omega), each 5 (by omega)⟩
theorem OwnsE.push {s : Ev} (h : w.ownsRow base 47 6 v (es.length + 1) (es.flatMap evc ++ evc s)) : OwnsE w base v (es ++ [s]) := by
  unfold OwnsE; rw [List.length_append, List.flatMap_append]; simpa using h
theorem OwnsE.ownBlock (h : OwnsE w base v es) : ∀ g, v.ownBlock = some g → base ≤ g := fun g hg => (World.ownsRow.lt h g hg).1
end

end Go.Proofs.Ytaphhgiocahnhaa
