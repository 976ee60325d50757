/-
  Two memories that are the same but for the order of their events: what is done with both tells the same, and they are the same again.
-/
import Derived.Test.YtaphhgiocahnhaaMemEx
namespace Go.Proofs.Ytaphhgiocahnhaa
open Go.RowKit Go.Sort

structure Sim (s r : MS) : Prop where
  ws : s.ws = r.ws
  es : s.es.Perm r.es
  t : s.t = r.t
  a : s.a = r.a

section
variable {s r : MS}
theorem Sim.acc (h : Sim s r) : Sim (acc s) (acc r) := by
  obtain ⟨h1, h2, h3, h4⟩ := h
  refine ⟨?_, ?_, by unfold Go.Proofs.Ytaphhgiocahnhaa.acc; rw [h3], by unfold Go.Proofs.Ytaphhgiocahnhaa.acc; exact h4⟩
  · unfold Go.Proofs.Ytaphhgiocahnhaa.acc
    dsimp only
    rw [h1, h3]
    exact strike_perm (h2.filter _) _
  · unfold Go.Proofs.Ytaphhgiocahnhaa.acc
    dsimp only
    rw [h3]
    exact h2.filter _
theorem Sim.load (h : Sim s r) (ad : Int) : Sim (ldS s ad) (ldS r ad) ∧ ldV s ad = ldV r ad ∧ adE s ad = adE r ad := by
  unfold ldS ldV adE
  rw [h.ws]
  cases hp : hasP r.ws.length ad
  · exact ⟨h, rfl, rfl⟩
  · simp only [if_true]
    exact ⟨h.acc, by rw [h.acc.ws], trivial⟩
theorem Sim.store (h : Sim s r) (ad u : Int) : Sim (stS s ad u) (stS r ad u) ∧ adE s ad = adE r ad := by
  unfold stS adE
  rw [h.ws]
  cases hp : hasP r.ws.length ad
  · exact ⟨h, rfl⟩
  · simp only [if_true]
    exact ⟨⟨by dsimp only; rw [h.acc.ws], h.acc.es, h.acc.t, h.acc.a⟩, trivial⟩
theorem Sim.next (h : Sim s r) {ls ls' : List Ev} (hp : ls.Perm ls') : Sim (nxS s ls) (nxS r ls') := by
  unfold nxS
  rw [hp.length_eq]
  by_cases hl : ls'.length ≤ 1024
  · rw [if_pos hl, if_pos hl]
    refine ⟨?_, ((putAll_perm ls []).trans (by simpa using hp)).trans (putAll_perm ls' []).symm, rfl, by dsimp only; rw [h.t, h.a]⟩
    dsimp only
    rw [h.ws]
    exact strike_perm h.es _
  · rw [if_neg hl, if_neg hl]; exact h
theorem op_two {o : OpV} (s : MS) (h : o.kd % 4 = 2) : opS o s = stS s o.ad o.wd ∧ opT o s = 0 ∧ opE o s = adE s o.ad := by
  unfold opS opT opE
  rw [if_pos h, if_pos h, if_pos h]
  exact ⟨rfl, rfl, rfl⟩
theorem op_three {o : OpV} (s : MS) (h : o.kd % 4 = 3) : opS o s = nxS s o.es ∧ opT o s = 0 ∧ opE o s = nxR o.es := by
  have h2 : ¬ o.kd % 4 = 2 := by omega
  unfold opS opT opE
  rw [if_neg h2, if_neg h2, if_neg h2, if_pos h, if_pos h, if_pos h]
  exact ⟨rfl, rfl, rfl⟩
theorem op_load {o : OpV} (s : MS) (h2 : ¬ o.kd % 4 = 2) (h3 : ¬ o.kd % 4 = 3) : opS o s = ldS s o.ad ∧ opT o s = ldV s o.ad ∧ opE o s = adE s o.ad := by
  unfold opS opT opE
  rw [if_neg h2, if_neg h2, if_neg h2, if_neg h3, if_neg h3, if_neg h3]
  exact ⟨rfl, rfl, rfl⟩
theorem Sim.op (h : Sim s r) (o : OpV) : Sim (opS o s) (opS o r) ∧ opT o s = opT o r ∧ opE o s = opE o r := by
  by_cases h2 : o.kd % 4 = 2
  · obtain ⟨a1, a2, a3⟩ := op_two s h2
    obtain ⟨b1, b2, b3⟩ := op_two r h2
    rw [a1, a2, a3, b1, b2, b3]
    exact ⟨(h.store _ _).1, rfl, (h.store _ o.wd).2⟩
  · by_cases h3 : o.kd % 4 = 3
    · obtain ⟨a1, a2, a3⟩ := op_three s h3
      obtain ⟨b1, b2, b3⟩ := op_three r h3
      rw [a1, a2, a3, b1, b2, b3]
      exact ⟨h.next (List.Perm.refl _), rfl, rfl⟩
    · obtain ⟨a1, a2, a3⟩ := op_load s h2 h3
      obtain ⟨b1, b2, b3⟩ := op_load r h2 h3
      rw [a1, a2, a3, b1, b2, b3]
      exact h.load _
theorem Sim.made (n : Nat) {ls ls' : List Ev} (hp : ls.Perm ls') : Sim (newS n ls) (newS n ls') := ⟨rfl, ((putAll_perm ls []).trans (by simpa using hp)).trans (putAll_perm ls' []).symm, rfl, rfl⟩

/-- One without words. -/
theorem opS_raw {q : MS} (hw : q.ws = []) (ht : q.t = 0) (ha : q.a = 0) (o : OpV) : (opS o q).ws = [] ∧ (opS o q).t = 0 ∧ (opS o q).a = 0 ∧ opT o q = 0 ∧ opE o q = if o.kd % 4 = 3 then nxR o.es else 1 := by
  have hp : ∀ ad, hasP q.ws.length ad = false := fun ad => by
    rw [hw]
    unfold hasP
    by_cases c : 0 ≤ ad
    · have : ¬ ad < ((List.length ([] : List Int) : Nat) : Int) := by simp; omega
      rw [decide_eq_false this, Bool.and_false]
    · rw [decide_eq_false c, Bool.false_and]
  by_cases h2 : o.kd % 4 = 2
  · obtain ⟨a1, a2, a3⟩ := op_two q h2
    rw [a1, a2, a3, if_neg (by omega)]
    unfold stS adE
    rw [hp, if_neg (by simp), if_neg (by simp)]
    exact ⟨hw, ht, ha, rfl, rfl⟩
  · by_cases h3 : o.kd % 4 = 3
    · obtain ⟨a1, a2, a3⟩ := op_three q h3
      rw [a1, a2, a3, if_pos h3]
      have hl : (nxS q o.es).ws = [] := List.length_eq_zero_iff.1 (by rw [nxS_len, hw]; rfl)
      refine ⟨hl, ?_, ?_, rfl, rfl⟩
      · unfold nxS; split
        · rfl
        · exact ht
      · unfold nxS; split
        · dsimp only; omega
        · exact ha
    · obtain ⟨a1, a2, a3⟩ := op_load q h2 h3
      rw [a1, a2, a3, if_neg h3]
      unfold ldS ldV adE
      rw [hp, if_neg (by simp), if_neg (by simp), if_neg (by simp)]
      exact ⟨hw, ht, ha, rfl, rfl⟩
end

/-- Another memory, while something is done with one. -/
theorem At.beside {w0 w w' W : World} {F G : Nat → Prop} {M N k : Nat} {s' s2 : MS} (h : At w0 w G N s2 k) (hF : ∀ j, F j → w0.heap.size ≤ j) (hb : Below w.heap.size w W) (hT : Struck W F M s' w') (hd : Dis F G) : At w0 w' G N s2 k ∧ Dis (Or2 F (Nw W w')) G := by
  refine ⟨(h.quiet hb).but hT.2 hd.symm hF, fun j c d => ?_⟩
  rcases c with c | c
  · exact hd j c d
  · have := h.mem.lt j d; have := c.1; have := hb.size; omega

/-- Three memories, with no block in common; an op in a block of its own. -/
def Trio (w0 w : World) (M N R : Nat) (s r q : MS) (k : Nat) : Prop := ∃ F G H, At w0 w F M s k ∧ At w0 w G N r k ∧ At w0 w H R q k ∧ Dis F G ∧ Dis F H ∧ Dis G H
def Tri (w0 w : World) (X : Nat) (o : OpV) (M N R : Nat) (s r q : MS) (k : Nat) : Prop := ∃ F G H, (At w0 w F M s k ∧ At w0 w G N r k ∧ At w0 w H R q k ∧ Dis F G ∧ Dis F H ∧ Dis G H) ∧ (¬ F X ∧ ¬ G X ∧ ¬ H X) ∧ OpAt w X 0 o ∧ X < w.heap.size

section
variable {w0 w w' : World} {X M N R k : Nat} {o : OpV} {s r q : MS}
theorem Trio.below (h : Trio w0 w M N R s r q k) : Below w0.heap.size w0 w := by obtain ⟨F, G, H, h1, _⟩ := h; exact h1.below
theorem Trio.op (h : Trio w0 w M N R s r q k) (o : OpV) : Tri w0 (w.alloc (opO o)) w.heap.size o M N R s r q k := by
  obtain ⟨F, G, H, h1, h2, h3, d⟩ := h
  have hb := below_al (Below.refl _ w) (opO o)
  exact ⟨F, G, H, ⟨h1.quiet hb, h2.quiet hb, h3.quiet hb, d⟩, ⟨fun c => by have := h1.mem.lt _ c; omega, fun c => by have := h2.mem.lt _ c; omega, fun c => by have := h3.mem.lt _ c; omega⟩, OpAt.new w o, by simp⟩
theorem Tri.trio (h : Tri w0 w X o M N R s r q k) : Trio w0 w M N R s r q k := by obtain ⟨F, G, H, h, _⟩ := h; exact ⟨F, G, H, h⟩
theorem Tri.rot (h : Tri w0 w X o M N R s r q k) : Tri w0 w X o N R M r q s k := by
  obtain ⟨F, G, H, ⟨h1, h2, h3, d1, d2, d3⟩, ⟨x1, x2, x3⟩, h4⟩ := h
  exact ⟨G, H, F, ⟨h2, h3, h1, d3, d1.symm, d2.symm⟩, ⟨x2, x3, x1⟩, h4⟩
theorem Trio.rot (h : Trio w0 w M N R s r q k) : Trio w0 w N R M r q s k := by
  obtain ⟨F, G, H, h1, h2, h3, d1, d2, d3⟩ := h
  exact ⟨G, H, F, h2, h3, h1, d3, d1.symm, d2.symm⟩
theorem Tri.quiet (h : Tri w0 w X o M N R s r q k) (hb : Below w.heap.size w w') : Tri w0 w' X o M N R s r q k := by
  obtain ⟨F, G, H, ⟨h1, h2, h3, d⟩, hx, h4, h5⟩ := h
  exact ⟨F, G, H, ⟨h1.quiet hb, h2.quiet hb, h3.quiet hb, d⟩, hx, h4.block (hb.block X h5), Nat.lt_of_lt_of_le h5 hb.size⟩
theorem Trio.quiet (h : Trio w0 w M N R s r q k) (hb : Below w.heap.size w w') : Trio w0 w' M N R s r q k := by
  obtain ⟨F, G, H, h1, h2, h3, d⟩ := h
  exact ⟨F, G, H, h1.quiet hb, h2.quiet hb, h3.quiet hb, d⟩
theorem Tri.opAt (h : Tri w0 w X o M N R s r q k) : OpAt w X 0 o := by obtain ⟨F, G, H, _, _, h4, _⟩ := h; exact h4
theorem Trio.more {k' : Nat} (h : Trio w0 w M N R s r q k) (hk : k ≤ k') : Trio w0 w M N R s r q k' := by
  obtain ⟨F, G, H, h1, h2, h3, d⟩ := h
  exact ⟨F, G, H, h1.more hk, h2.more hk, h3.more hk, d⟩
/-- It is done with the first. -/
theorem Tri.first (h : Tri w0 w X o M N R s r q k) (hn : OpNum o) (hx : ReadsE w0 w0.heap.size o.x o.es) (hk : k ≤ 1000000) :
    Calls Try.prog 14 #[.pointer (some ⟨M, 0, none⟩), opA o] w fun e w' => e = .returned (.tuple #[.int .u64 (opT o s), .int .i64 (opE o s)]) ∧ Tri w0 w' X o M N R (opS o s) r q (k + 1) := by
  obtain ⟨F, G, H, ⟨h1, h2, h3, d1, d2, d3⟩, ⟨x1, x2, x3⟩, h4, h5⟩ := h
  refine (do_any F M s o w h1.mem hn ((hx.below h1.below).rdF h1.new) (h1.cnt hk)).mono ?_
  rintro e w' ⟨rfl, hT⟩
  have hb := Below.refl w.heap.size w
  obtain ⟨k2, e2⟩ := h2.beside h1.new hb hT d1
  obtain ⟨k3, e3⟩ := h3.beside h1.new hb hT d2
  refine ⟨rfl, Or2 F (Nw w w'), G, H, ⟨h1.did hb o hT, k2.more (by omega), k3.more (by omega), e2, e3, d3⟩, ⟨fun c => c.elim x1 fun c => by have := c.1; omega, x2, x3⟩, h4.block (hT.2.block X h5 x1), Nat.lt_of_lt_of_le h5 hT.2.size⟩
theorem Tri.second (h : Tri w0 w X o M N R s r q k) (hn : OpNum o) (hx : ReadsE w0 w0.heap.size o.x o.es) (hk : k ≤ 1000000) :
    Calls Try.prog 14 #[.pointer (some ⟨N, 0, none⟩), opA o] w fun e w' => e = .returned (.tuple #[.int .u64 (opT o r), .int .i64 (opE o r)]) ∧ Tri w0 w' X o M N R s (opS o r) q (k + 1) :=
  (h.rot.first hn hx hk).mono fun _ _ ⟨e, h⟩ => ⟨e, h.rot.rot⟩
theorem Tri.third (h : Tri w0 w X o M N R s r q k) (hn : OpNum o) (hx : ReadsE w0 w0.heap.size o.x o.es) (hk : k ≤ 1000000) :
    Calls Try.prog 14 #[.pointer (some ⟨R, 0, none⟩), opA o] w fun e w' => e = .returned (.tuple #[.int .u64 (opT o q), .int .i64 (opE o q)]) ∧ Tri w0 w' X o M N R s r (opS o q) (k + 1) :=
  (h.rot.rot.first hn hx hk).mono fun _ _ ⟨e, h⟩ => ⟨e, h.rot⟩
theorem Trio.words (h : Trio w0 w M N R s r q k) : Calls Try.prog 22 #[.pointer (some ⟨M, 0, none⟩)] w (Worded w s.ws) := by
  obtain ⟨F, G, H, h1, _⟩ := h
  exact Words_any F M s w h1.mem
theorem Trio.ticks (h : Trio w0 w M N R s r q k) : Calls Try.prog 18 #[.pointer (some ⟨M, 0, none⟩)] w fun e w' => e = .returned (.int .i64 s.t) ∧ w = w' := by
  obtain ⟨F, G, H, h1, _⟩ := h
  exact Ticks_any F M s w h1.mem
theorem Trio.all (h : Trio w0 w M N R s r q k) (hk : k ≤ 1000000) : Calls Try.prog 20 #[.pointer (some ⟨M, 0, none⟩)] w (RetQ (.int .i64 (s.a + s.t)) w) := by
  obtain ⟨F, G, H, h1, _⟩ := h
  exact All_any F M s w h1.mem (h1.cnt hk).1 (h1.cnt hk).2
theorem Trio.few (h : Trio w0 w M N R s r q k) : s.ws.length ≤ 16384 := by
  obtain ⟨F, G, H, h1, _⟩ := h
  exact h1.mem.few
end
/-- All three are there. -/
theorem Trio.made {w0 w1 w2 w3 w4 : World} {M N R : Nat} {s r q : MS} (hb : Below w0.heap.size w0 w1) (h1 : MM w2 (Nw w1 w2) M s) (hb1 : Below w1.heap.size w1 w2) (h2 : MM w3 (Nw w2 w3) N r) (hb2 : Below w2.heap.size w2 w3) (h3 : MM w4 (Nw w3 w4) R q) (hb3 : Below w3.heap.size w3 w4)
    (t1 : s.t = 0) (a1 : s.a = 0) (t2 : r.t = 0) (a2 : r.a = 0) (t3 : q.t = 0) (a3 : q.a = 0) : Trio w0 w4 M N R s r q 0 := by
  have hs1 := hb1.size
  have hs2 := hb2.size
  refine ⟨_, _, _, ((At.made hb h1 hb1 t1 a1).quiet hb2).quiet hb3, (At.made (below_on hb hb1) h2 hb2 t2 a2).quiet hb3, At.made (below_on (below_on hb hb1) hb2) h3 hb3 t3 a3, fun j c d => ?_, fun j c d => ?_, fun j c d => ?_⟩
  · have := c.2; have := d.1; omega
  · have := c.2; have := d.1; omega
  · have := c.2; have := d.1; omega

end Go.Proofs.Ytaphhgiocahnhaa
