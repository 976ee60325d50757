/-
  The document's memory (brackenref12): in which blocks it lies; what strikes; an access, a load, a store.
-/
import Derived.Test.YtaphhgiocahnhaaMemEx
import Derived.Test.YtaphhgiocahnhaaAppAt
namespace Go.Proofs.Ytaphhgiocahnhaa
open Go.RowKit Go.Sort

/-- Its own block. -/
def RmB (w : World) (M : Nat) (v l : Value) (t a : Int) : Prop := w.heap[M]? = some (.cells #[v, l, .int .i64 t, .int .i64 a] 58 (0, 0))

section
variable {w w' : World} {M : Nat} {v l : Value} {t a : Int}
theorem RmB.lt (h : RmB w M v l t a) : M < w.heap.size := by
  rcases Nat.lt_or_ge M w.heap.size with c | c
  · exact c
  · unfold RmB at h; rw [Array.getElem?_eq_none c] at h; cases h
theorem RmB.c0 (h : RmB w M v l t a) : w.cell? ⟨M, 0, none⟩ = some v := by unfold RmB at h; simp [World.cell?, h]
theorem RmB.c1 (h : RmB w M v l t a) : w.cell? ⟨M, 1, none⟩ = some l := by unfold RmB at h; simp [World.cell?, h]
theorem RmB.c2 (h : RmB w M v l t a) : w.cell? ⟨M, 2, none⟩ = some (.int .i64 t) := by unfold RmB at h; simp [World.cell?, h]
theorem RmB.c3 (h : RmB w M v l t a) : w.cell? ⟨M, 3, none⟩ = some (.int .i64 a) := by unfold RmB at h; simp [World.cell?, h]
theorem RmB.fz (h : RmB w M v l t a) (o : Nat) : w.frozen? ⟨M, o, none⟩ = false := by unfold RmB at h; simp [World.frozen?, h]
theorem RmB.keep (h : RmB w M v l t a) (hk : w'.heap[M]? = w.heap[M]?) : RmB w' M v l t a := hk.trans h
theorem RmB.set0 (h : RmB w M v l t a) (u : Value) : RmB (w.setCell ⟨M, 0, none⟩ u) M u l t a := by unfold RmB at h ⊢; simp [World.setCell, Array.getElem?_modify, h]
theorem RmB.set1 (h : RmB w M v l t a) (u : Value) : RmB (w.setCell ⟨M, 1, none⟩ u) M v u t a := by unfold RmB at h ⊢; simp [World.setCell, Array.getElem?_modify, h]
theorem RmB.set2 (h : RmB w M v l t a) (u : Int) : RmB (w.setCell ⟨M, 2, none⟩ (.int .i64 u)) M v l u a := by unfold RmB at h ⊢; simp [World.setCell, Array.getElem?_modify, h]
theorem RmB.set3 (h : RmB w M v l t a) (u : Int) : RmB (w.setCell ⟨M, 3, none⟩ (.int .i64 u)) M v l t u := by unfold RmB at h ⊢; simp [World.setCell, Array.getElem?_modify, h]
end

/-- A row of events stays, if its block does. -/
theorem OwnsE.stay {w w' : World} {base : Nat} {v : Value} {es : List Ev} (h : OwnsE w base v es) (hk : ∀ g, v.ownBlock = some g → w'.heap[g]? = w.heap[g]?) : OwnsE w' base v es := by
  refine ⟨h.1, ?_⟩
  rcases h.2 with h2 | ⟨g, cap, cur, e1, e2, e3, e4⟩
  · exact .inl h2
  · exact .inr ⟨g, cap, cur, e1, e2, (hk g (by rw [e1]; rfl)).trans e3, e4⟩
theorem OwnsE.blockLt {w : World} {base : Nat} {v : Value} {es : List Ev} (h : OwnsE w base v es) {g : Nat} (hg : v.ownBlock = some g) : base ≤ g ∧ g < w.heap.size := World.ownsRow.lt h g hg

/-- The document's memory at M, in all its parts. -/
structure RAt (w : World) (F : Nat → Prop) (M : Nat) (v l : Value) (ws : List Int) (es : List Ev) (t a : Int) : Prop where
  own : RmB w M v l t a
  row : Owns .u64 33 w 0 v ws
  evs : OwnsE w 0 l es
  words : Words ws
  few : ws.length ≤ 16384
  ok : EvsOk es
  fewE : es.length ≤ 1024
  nv : v.ownBlock ≠ some M
  nl : l.ownBlock ≠ some M
  ne : ∀ g, v.ownBlock = some g → l.ownBlock ≠ some g
  fm : F M
  fv : ∀ g, v.ownBlock = some g → F g
  fl : ∀ g, l.ownBlock = some g → F g
  lt : ∀ k, F k → k < w.heap.size

section
variable {w w' : World} {F G : Nat → Prop} {M : Nat} {v l : Value} {ws : List Int} {es : List Ev} {t a : Int}
theorem RAt.keep (h : RAt w F M v l ws es t a) (hs : w.heap.size ≤ w'.heap.size) (hk : ∀ k, F k → w'.heap[k]? = w.heap[k]?) : RAt w' F M v l ws es t a :=
  ⟨h.own.keep (hk M h.fm), h.row.stay fun g e => hk g (h.fv g e), h.evs.stay fun g e => hk g (h.fl g e), h.words, h.few, h.ok, h.fewE, h.nv, h.nl, h.ne, h.fm, h.fv, h.fl, fun k c => Nat.lt_of_lt_of_le (h.lt k c) hs⟩
theorem RAt.more (h : RAt w F M v l ws es t a) (hF : ∀ k, F k → G k) (hG : ∀ k, G k → k < w.heap.size) : RAt w G M v l ws es t a :=
  ⟨h.own, h.row, h.evs, h.words, h.few, h.ok, h.fewE, h.nv, h.nl, h.ne, hF _ h.fm, fun g e => hF g (h.fv g e), fun g e => hF g (h.fl g e), hG⟩
theorem RAt.below (h : RAt w F M v l ws es t a) (hb : Below w.heap.size w w') : RAt w' F M v l ws es t a := h.keep hb.size fun k c => hb.block k (h.lt k c)
end

/-- The document's memory at M is s; all its blocks are of F. -/
def RM (w : World) (F : Nat → Prop) (M : Nat) (s : MS) : Prop := ∃ v l, RAt w F M v l s.ws s.es s.t s.a

section
variable {w w' w1 : World} {F G : Nat → Prop} {M : Nat} {s s2 : MS}
theorem RM.keep (h : RM w F M s) (hs : w.heap.size ≤ w'.heap.size) (hk : ∀ k, F k → w'.heap[k]? = w.heap[k]?) : RM w' F M s := by obtain ⟨v, l, h⟩ := h; exact ⟨v, l, h.keep hs hk⟩
theorem RM.lt (h : RM w F M s) : ∀ k, F k → k < w.heap.size := by obtain ⟨_, _, h⟩ := h; exact h.lt
theorem RM.but (h : RM w F M s) (hb : But G w w') (hd : Dis F G) : RM w' F M s := h.keep hb.size fun k c => hb.block k (h.lt k c) (hd k c)
theorem RM.below (h : RM w F M s) (hb : Below w.heap.size w w') : RM w' F M s := h.but (But.of_below (F := fun _ => False) hb) fun _ _ c => c
theorem RM.more (h : RM w F M s) (hF : ∀ k, F k → G k) (hG : ∀ k, G k → k < w.heap.size) : RM w G M s := by obtain ⟨v, l, h⟩ := h; exact ⟨v, l, h.more hF hG⟩
theorem RM.few (h : RM w F M s) : s.ws.length ≤ 16384 := by obtain ⟨_, _, h⟩ := h; exact h.few
theorem RM.open (h : RM w F M s) : ∃ x cap y cap', RAt w F M (.slice x s.ws.length cap) (.slice y s.es.length cap') s.ws s.es s.t s.a := by
  obtain ⟨v, l, h⟩ := h
  obtain ⟨x, cap, rfl, -⟩ := h.row.form
  obtain ⟨y, cap', rfl, -⟩ := h.evs.form
  exact ⟨x, cap, y, cap', h⟩

/-- What a call of it leaves. -/
def RStruck (w : World) (F : Nat → Prop) (M : Nat) (s : MS) (w' : World) : Prop := RM w' (Or2 F (Nw w w')) M s ∧ But F w w'
theorem RM.same (h : RM w F M s) : RStruck w F M s w := ⟨h.more (fun _ c => .inl c) fun k c => c.elim (h.lt k) fun c => by have := c.1; have := c.2; omega, But.refl _ _⟩
theorem RStruck.trans {w2 : World} (h : RStruck w F M s w1) (h2 : RStruck w1 (Or2 F (Nw w w1)) M s2 w2) : RStruck w F M s2 w2 := by
  have hs1 := h.2.size
  have hs2 := h2.2.size
  refine ⟨h2.1.more (fun k c => ?_) (fun k c => ?_), h.2.trans h2.2 fun k hk c => c.elim id fun c => by have := c.1; omega⟩
  · rcases c with (c | c) | c
    · exact .inl c
    · exact .inr ⟨c.1, by have := c.2; omega⟩
    · exact .inr ⟨by have := c.1; omega, c.2⟩
  · rcases c with c | c
    · exact h2.1.lt k (.inl (.inl c))
    · exact c.2
theorem RStruck.quiet (h : RStruck w F M s w1) (hb : Below w1.heap.size w1 w') : RStruck w F M s w' := h.trans ⟨(h.1.below hb).more (fun _ c => .inl c) (fun k c => c.elim (fun c => Nat.lt_of_lt_of_le (h.1.lt k c) hb.size) fun c => c.2), But.of_below hb⟩
theorem RStruck.later (hb : Below w.heap.size w w1) (h : RStruck w1 F M s w') : RStruck w F M s w' := by
  have h1 := hb.size
  have h2 := h.2.size
  refine ⟨h.1.more (fun k c => c.imp id fun c => ⟨by have := c.1; omega, c.2⟩) (fun k c => c.elim (fun c => h.1.lt k (.inl c)) fun c => c.2), (But.of_below hb).trans h.2 fun _ _ c => c⟩
end

/-- Something is stored in its own block, or all of it stays where it is. -/
theorem RAt.sets {w w' : World} {F : Nat → Prop} {M : Nat} {v l : Value} {ws : List Int} {es : List Ev} {t a t' a' : Int} (h : RAt w F M v l ws es t a) (hs : w'.heap.size = w.heap.size) (hk : ∀ k, k ≠ M → w'.heap[k]? = w.heap[k]?) (hB : RmB w' M v l t' a') : RAt w' F M v l ws es t' a' :=
  ⟨hB, h.row.stay fun g e => hk g (by rintro rfl; exact h.nv e), h.evs.stay fun g e => hk g (by rintro rfl; exact h.nl e), h.words, h.few, h.ok, h.fewE, h.nv, h.nl, h.ne, h.fm, h.fv, h.fl, fun k c => by rw [hs]; exact h.lt k c⟩
section
variable {w w' : World} {F : Nat → Prop} {M : Nat} {s : MS}
theorem RM.setT (h : RM w F M s) (u : Int) : RStruck w F M ⟨s.ws, s.es, u, s.a⟩ (w.setCell ⟨M, 2, none⟩ (.int .i64 u)) := by
  obtain ⟨v, l, h⟩ := h
  have h' := h.sets (by simp [World.setCell]) (fun k hk => Below.heap_setCell _ _ _ _ hk) (h.own.set2 u)
  exact ⟨⟨v, l, h'.more (fun k c => .inl c) fun k c => c.elim (h'.lt k) fun c => c.2⟩, (But.setCell w M 2 _).mono fun k _ c => by rw [c]; exact h.fm⟩
theorem RM.setA (h : RM w F M s) (u : Int) : RStruck w F M ⟨s.ws, s.es, s.t, u⟩ (w.setCell ⟨M, 3, none⟩ (.int .i64 u)) := by
  obtain ⟨v, l, h⟩ := h
  have h' := h.sets (by simp [World.setCell]) (fun k hk => Below.heap_setCell _ _ _ _ hk) (h.own.set3 u)
  exact ⟨⟨v, l, h'.more (fun k c => .inl c) fun k c => c.elim (h'.lt k) fun c => c.2⟩, (But.setCell w M 3 _).mono fun k _ c => by rw [c]; exact h.fm⟩
/-- A word is stored. -/
theorem RM.put (h : RM w F M s) {g n cap : Nat} (hc : w.cell? ⟨M, 0, none⟩ = some (.slice (some ⟨g, 0, none⟩) n cap)) (j : Nat) {u : Int} (hu : 0 ≤ u ∧ u < 18446744073709551616) :
    RStruck w F M ⟨s.ws.set j u, s.es, s.t, s.a⟩ (w.setCell ⟨g, j, none⟩ (.int .u64 u)) := by
  obtain ⟨v, l, h⟩ := h
  have e := h.own.c0
  rw [hc] at e
  simp only [Option.some.injEq] at e
  subst e
  have hg : ∀ k, k ≠ g → (w.setCell ⟨g, j, none⟩ (.int .u64 u)).heap[k]? = w.heap[k]? := fun k hk => Below.heap_setCell _ _ _ _ hk
  have hgM : g ≠ M := fun e => h.nv (by rw [e]; rfl)
  have hsz : (w.setCell ⟨g, j, none⟩ (.int .u64 u)).heap.size = w.heap.size := by simp [World.setCell]
  have hl : s.ws.length = n := by
    obtain ⟨x, c, e, -⟩ := h.row.form
    simp only [Value.slice.injEq] at e
    exact e.2.1.symm
  have h' : RAt (w.setCell ⟨g, j, none⟩ (.int .u64 u)) F M (.slice (some ⟨g, 0, none⟩) n cap) l (s.ws.set j u) s.es s.t s.a :=
    ⟨h.own.keep (hg M fun e => hgM e.symm), h.row.set hl j u, h.evs.stay fun k e => hg k (by rintro rfl; exact h.ne _ rfl e), h.words.set j hu.1 hu.2, by rw [List.length_set]; exact h.few, h.ok, h.fewE, h.nv, h.nl, h.ne, h.fm, h.fv, h.fl, fun k c => by rw [hsz]; exact h.lt k c⟩
  exact ⟨⟨_, _, h'.more (fun k c => .inl c) fun k c => c.elim (h'.lt k) fun c => c.2⟩, (But.setCell w g j _).mono fun k _ c => by rw [c]; exact h.fv g rfl⟩
end

/-- What strikes is put over the words, what is left takes the place of what waited. -/
theorem RAt.struck {w w1 w2 : World} {F : Nat → Prop} {M : Nat} {v l : Value} {ws : List Int} {es : List Ev} {t a : Int} (h : RAt w F M v l ws es t a) (hb : Below w.heap.size w w1) {v2 l2 : Value} {ws2 : List Int} {es2 : List Ev}
    (hL : OwnsE w1 w.heap.size l2 es2) (hO : Owns .u64 33 w2 w1.heap.size v2 ws2) (hB : Below w1.heap.size w1 w2) (hw : Words ws2) (hl : ws2.length ≤ 16384) (ho : EvsOk es2) (hle : es2.length ≤ 1024) :
    RStruck w F M ⟨ws2, es2, t, a⟩ ((w2.setCell ⟨M, 0, none⟩ v2).setCell ⟨M, 1, none⟩ l2) := by
  have hsz : ((w2.setCell ⟨M, 0, none⟩ v2).setCell ⟨M, 1, none⟩ l2).heap.size = w2.heap.size := by simp [World.setCell]
  have hs1 := hb.size
  have hs2 := hB.size
  have hM := h.own.lt
  have hv2 : ∀ g, v2.ownBlock = some g → w1.heap.size ≤ g ∧ g < w2.heap.size := fun g e => hO.blockLt e
  have hl2 : ∀ g, l2.ownBlock = some g → w.heap.size ≤ g ∧ g < w1.heap.size := fun g e => hL.blockLt e
  have hset : ∀ k, k ≠ M → ((w2.setCell ⟨M, 0, none⟩ v2).setCell ⟨M, 1, none⟩ l2).heap[k]? = w2.heap[k]? := fun k hk => (Below.heap_setCell _ _ _ _ hk).trans (Below.heap_setCell _ _ _ _ hk)
  have hk2 : ∀ k, k < w.heap.size → w2.heap[k]? = w.heap[k]? := fun k c => (hB.block k (by omega)).trans (hb.block k c)
  refine ⟨⟨v2, l2, ⟨((h.own.keep (hk2 M hM)).set0 v2).set1 l2, (hO.mono (Nat.zero_le _)).stay fun g e => hset g (by have := hv2 g e; omega), ((hL.mono (Nat.zero_le _)).below hB).stay fun g e => hset g (by have := hl2 g e; omega), hw, hl, ho, hle, ?_, ?_, fun g e e' => ?_, .inl h.fm, fun g e => .inr ⟨by have := hv2 g e; omega, by rw [hsz]; exact (hv2 g e).2⟩, fun g e => .inr ⟨(hl2 g e).1, by rw [hsz]; have := hl2 g e; omega⟩, fun k c => ?_⟩⟩, ?_⟩
  · intro e; have := hv2 M e; omega
  · intro e; have := hl2 M e; omega
  · have := hv2 g e; have := hl2 g e'; omega
  · rcases c with c | c
    · have := h.lt k c; rw [hsz]; omega
    · exact c.2
  · exact ((But.of_below (F := F) (below_on hb hB)).trans (But.setCell w2 M 0 v2) fun k _ c => by rw [c]; exact h.fm).trans (But.setCell _ M 1 l2) fun k _ c => by rw [c]; exact h.fm

theorem due_snoc (t : Int) (es : List Ev) (u : Ev) : due t (es ++ [u]) = if u.tk ≤ t then due t es ++ [u] else due t es := by
  unfold due
  rw [List.filter_append]
  by_cases c : u.tk ≤ t
  · rw [if_pos c]; simp [c]
  · rw [if_neg c]; simp; omega
theorem yet_snoc (t : Int) (es : List Ev) (u : Ev) : yet t (es ++ [u]) = if u.tk ≤ t then yet t es else yet t es ++ [u] := by
  unfold yet
  rw [List.filter_append]
  by_cases c : u.tk ≤ t
  · rw [if_pos c]; simp; omega
  · rw [if_neg c]; simp; omega

/-- Two rows that are built beside each other. -/
def Both (w wr : World) (v1 v2 : Value) (xs ys : List Ev) : Prop := OwnsE wr w.heap.size v1 xs ∧ OwnsE wr w.heap.size v2 ys ∧ (∀ g, v1.ownBlock = some g → v2.ownBlock ≠ some g) ∧ Below w.heap.size w wr
theorem Both.quiet {w wr w' : World} {v1 v2 : Value} {xs ys : List Ev} (h : Both w wr v1 v2 xs ys) (hb : Below wr.heap.size wr w') : Both w w' v1 v2 xs ys := ⟨h.1.below hb, h.2.1.below hb, h.2.2.1, below_on h.2.2.2 hb⟩
theorem Both.swap {w wr : World} {v1 v2 : Value} {xs ys : List Ev} (h : Both w wr v1 v2 xs ys) : Both w wr v2 v1 ys xs := ⟨h.2.1, h.1, fun g e1 e2 => h.2.2.1 g e2 e1, h.2.2.2⟩
theorem Both.push {w W w' : World} {v1 v2 v' : Value} {xs ys zs : List Ev} (h : Both w W v1 v2 xs ys) (hO : OwnsE w' w.heap.size v' zs) (hg : W.grownBy w' v1.ownBlock) (hat : ∀ g, v'.ownBlock = some g → v1.ownBlock = some g ∨ W.heap.size ≤ g) : Both w w' v' v2 zs ys := by
  have hb := But.of_grown hg
  refine ⟨hO, h.2.1.stay fun g e => hb.block g (h.2.1.blockLt e).2 fun c => h.2.2.1 g c e, fun g e1 e2 => ?_, h.2.2.2.trans (hb.below h.2.2.2.size fun k c => (h.1.blockLt c).1)⟩
  rcases hat g e1 with c | c
  · exact h.2.2.1 g c e2
  · have := (h.2.1.blockLt e2).2; omega

set_option maxRecDepth 100000 in
set_option maxHeartbeats 8000000 in
theorem rstr_any (F : Nat → Prop) (M : Nat) (s : MS) (T : Int) (w : World) (h : RM w F M s) :
    Calls Try.prog 31 #[.pointer (some ⟨M, 0, none⟩), .int .i64 T] w fun e w' => e = .returned (.tuple #[]) ∧ RStruck w F M ⟨strike (due T s.es) s.ws, yet T s.es, s.t, s.a⟩ w' := by
  obtain ⟨x, cap, y, cap', h⟩ := h.open
  obtain ⟨ws, es, t, a⟩ := s
  dsimp only at h ⊢
  have HH := Lib.hid h
  have HX := Lib.hid h.evs.reads
  have c1 := h.own.c1
  have hle := h.fewE
  have HS : Hid (∀ wr v1 v2, Both w wr v1 v2 (due T (es.take 0)) (yet T (es.take 0)) → True) := Lib.hid (fun _ _ _ _ => trivial)
  clear h
  go_enter Try.func31, Try.ntmps31
  go_wp2
  go_loopw [4, 5, 13] (fun u1 u2 i wr => ∃ (k : Nat) (v1 v2 : Value), k ≤ es.length ∧ i = .int .i64 k ∧ v1 = u1 ∧ v2 = u2 ∧ Hid (Both w wr v1 v2 (due T (es.take k)) (yet T (es.take k)))) (fun _ _ i _ => es.length - (intOf i).toNat)
  case atStart => exact ⟨0, _, _, Nat.zero_le _, rfl, rfl, rfl, Lib.hid ⟨OwnsE.nil, OwnsE.nil, (fun g e => by cases e), Below.refl _ _⟩⟩
  case round =>
    obtain ⟨k, v1, v2, hk, rfl, rfl, rfl, HI⟩ := hrel
    by_cases hlt : k < es.length
    · obtain ⟨b, off, rfl, hb, hc⟩ := (HX.out.below HI.out.2.2.2) (by omega)
      have hcu := hc k hlt
      have hT := take_getD es k hlt
      have hll : es.length ≤ 1024 := hle
      obtain ⟨u, hu⟩ : ∃ u, u = es.getD k noEv := ⟨_, rfl⟩
      rw [← hu] at hcu hT
      have HD := Lib.hid (due_snoc T (es.take k) u)
      have HY := Lib.hid (yet_snoc T (es.take k) u)
      rw [← hT] at HD HY
      have HL1 : Hid ((due T (es.take k)).length ≤ 1024 ∧ (yet T (es.take k)).length ≤ 1024) := Lib.hid (by have := due_len T (es.take k); have := yet_len T (es.take k); rw [List.length_take] at *; omega)
      have HB := Lib.hid ((HI.out.quiet (below_al (Below.refl _ wr) (evO u))).quiet (below_al (Below.refl _ _) (evO u)))
      have HSr : Hid (SrcE ((wr.alloc (evO u)).alloc (evO u)) (some ⟨wr.heap.size + 1, 0, none⟩) 1 1 [u]) := Lib.hid (by have := SrcE.one (wr.alloc (evO u)) u; rw [World.size_alloc] at this; exact this)
      generalize es.take k = es0 at HD HY HL1 HB HI
      obtain ⟨e1, e2, e3, e4, e5, e6⟩ := u
      obtain ⟨c0', c1', c2', c3', c4', c5'⟩ := hcu
      unfold evO at HB HSr
      dsimp only at HB HSr HD HY c0' c1' c2' c3' c4' c5'
      clear hc hu hT HI HX HH HS
      by_cases hcase : e4 ≤ T
      · have dc : decide (e4 ≤ T) = true := by simpa using hcase
        rw [if_pos hcase] at HD HY
        clear hcase
        go_wp2_with (at_builtin; refine wpList_append_at rfl _ _ rfl w.heap.size v1 _ rfl HB.out.1 ⟨wr.heap.size + 1, 0, none⟩ 1 ⟨e1, e2, e3, e4, e5, e6⟩ rfl HSr.out (by have := HL1.out; omega) HB.out.2.2.2.size ?_; intro v' w3 hO3 hg3 hat3; have H3 := Lib.hid (HB.out.push hO3 hg3 hat3); clear hO3 hg3 hat3)
        go_roundw
        case rel => exact ⟨k + 1, v', v2, by omega, by go_num, rfl, rfl, Lib.hid (by rw [HD.out, HY.out]; exact H3.out)⟩
        case measure => simp [intOf]; omega
      · have dc : decide (e4 ≤ T) = false := by simpa using hcase
        rw [if_neg hcase] at HD HY
        clear hcase
        go_wp2_with (at_builtin; refine wpList_append_at rfl _ _ rfl w.heap.size v2 _ rfl HB.out.2.1 ⟨wr.heap.size + 1, 0, none⟩ 1 ⟨e1, e2, e3, e4, e5, e6⟩ rfl HSr.out (by have := HL1.out; omega) HB.out.2.2.2.size ?_; intro v' w3 hO3 hg3 hat3; have H3 := Lib.hid (HB.out.swap.push hO3 hg3 hat3).swap; clear hO3 hg3 hat3)
        go_roundw
        case rel => exact ⟨k + 1, v1, v', by omega, by go_num, rfl, rfl, Lib.hid (by rw [HD.out, HY.out]; exact H3.out)⟩
        case measure => simp [intOf]; omega
    · have hke : es.take k = es := List.take_of_length_le (by omega)
      have hI := HI.out
      rw [hke] at hI
      obtain ⟨x1, k1, rfl, -, -, -, -⟩ := hI.1.form
      obtain ⟨x2, k2, rfl, -, -, -, -⟩ := hI.2.1.form
      have HI' := Lib.hid hI
      have c0 := (HH.out.own.keep (hI.2.2.2.block M HH.out.own.lt)).c0
      obtain ⟨x', cap0, e0, hsrc⟩ := (HH.out.row.stay (w' := wr) fun g e => hI.2.2.2.block g (HH.out.row.blockLt e).2).src
      simp only [Value.slice.injEq] at e0
      obtain ⟨rfl, -, rfl⟩ := e0
      have KS := Lib.hid (rStrike_ok x1 _ k1 (due T es) x ws.length cap ws wr hI.1.reads rfl (fun s hs => HH.out.ok s (List.mem_filter.1 hs).1) (by have := due_len T es; omega) hsrc HH.out.words HH.out.few)
      have HF := Lib.hid (fun w2 v2' (hO : Owns .u64 33 w2 wr.heap.size v2' (strike (due T es) ws)) (hB : Below wr.heap.size wr w2) => HH.out.struck hI.2.2.2 hI.2.1 hO hB (strike_words (fun s hs => HH.out.ok s (List.mem_filter.1 hs).1) HH.out.words) (by rw [strike_len]; exact HH.out.few) (fun s hs => HH.out.ok s (List.mem_filter.1 hs).1) (by have := yet_len T es; omega))
      have HM := Lib.hid (fun w2 (hB : Below wr.heap.size wr w2) => HH.out.own.keep ((hB.block M (by have := HH.out.own.lt; have := hI.2.2.2.size; omega)).trans (hI.2.2.2.block M HH.out.own.lt)))
      generalize hws2 : strike (due T es) ws = ws2 at KS HF
      have HW2 := Lib.hid hws2
      clear hws2
      clear HI HI' hI hsrc HX hke HS
      go_wp2_with (go_at_call 40; refine KS.out.mono ?_; clear KS; rintro e w2 ⟨vv, rfl, hO2, hB2⟩; have H2 := Lib.hid (HF.out w2 vv hO2 hB2); have m2 := HM.out w2 hB2; have q0 := m2.c0; have q1 := m2.c1; have f0 := m2.fz 0; have f1 := m2.fz 1; obtain ⟨xx, cc, rfl, -⟩ := hO2.form; clear hO2 hB2 m2)
      go_end0
      exact ⟨rfl, by rw [HW2.out]; exact H2.out⟩

end Go.Proofs.Ytaphhgiocahnhaa
