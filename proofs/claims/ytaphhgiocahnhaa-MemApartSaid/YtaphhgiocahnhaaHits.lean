/-
  How many events strike each word, counted in a map that the law makes; a memory with events beside one without.
-/
import Derived.Test.YtaphhgiocahnhaaMemSim
import Derived.Maps.OwnSet
import Derived.Maps.Views
import Derived.WalkSpells
namespace Go.Proofs.Ytaphhgiocahnhaa
open Go.RowKit Go.Maps Go.Sort

theorem law_intH : Keyed Try.prog 3 := int_keyed Try.underlying3
theorem zero_intH (w : World) : (zeroValue 3).run Try.prog w = .ok (.int .i64 0) w := by kernel_rfl
theorem i64_wf {a : Int} (h : -9223372036854775808 ≤ a ∧ a < 9223372036854775808) : (Lit.int .i64 a).wf = true := WalkArith.wf_i64 ⟨h.1, by omega⟩

/-- How many of the events have this place. -/
def cntA (es : List Ev) (a : Int) : Nat := (es.filter fun e => decide (e.ad = a)).length
theorem cntA_app (xs ys : List Ev) (a : Int) : cntA (xs ++ ys) a = cntA xs a + cntA ys a := by unfold cntA; rw [List.filter_append, List.length_append]
theorem cntA_one (x : Ev) (a : Int) : cntA [x] a = if x.ad = a then 1 else 0 := by
  unfold cntA
  by_cases c : x.ad = a
  · rw [if_pos c]; simp [c]
  · rw [if_neg c]; simp [c]
theorem cntA_le (es : List Ev) (a : Int) : cntA es a ≤ es.length := List.length_filter_le _ _
theorem cntA_mem {es : List Ev} {x : Ev} (h : x ∈ es) : 0 < cntA es x.ad := List.length_pos_iff.2 fun e => by
  have : x ∈ es.filter fun y => decide (y.ad = x.ad) := List.mem_filter.2 ⟨h, by simp⟩
  rw [e] at this
  cases this

/-- Block b is a map that counts the events. -/
def Hits (w : World) (b : Nat) (es : List Ev) : Prop := ∃ (n : Nat) (D : DataW Unit), n ≤ es.length ∧ w.ownsMap Try.prog 3 (plainElem Try.prog 3) b n D ∧ ∀ a : Int, D.atKey (.int .i64 a) (.lit (.int .i64 0)) = .lit (.int .i64 (cntA es a : Nat))
section
variable {w w' : World} {b : Nat} {es : List Ev}
theorem Hits.lt (h : Hits w b es) : b < w.heap.size := by obtain ⟨_, _, _, h, _⟩ := h; exact World.ownsMap.lt h
theorem Hits.stay (h : Hits w b es) (hk : w'.heap[b]? = w.heap[b]?) : Hits w' b es := by
  obtain ⟨n, D, h1, ⟨es', clock, h2, h3⟩, h4⟩ := h
  exact ⟨n, D, h1, ⟨es', clock, hk.trans h2, h3⟩, h4⟩
theorem Hits.made (w : World) : Hits (w.alloc (.map #[] 0)) w.heap.size [] := ⟨0, .map [], Nat.le_refl _, World.ownsMap_made _ _ _ _, fun _ => rfl⟩
theorem Hits.look (h : Hits w b es) {a : Int} (ha : -9223372036854775808 ≤ a ∧ a < 9223372036854775808) :
    (Instr.lookup 53 (.map (some b)) (.int .i64 a) false).run Try.prog w = .ok (.int .i64 (cntA es a : Nat)) w := by
  obtain ⟨n, D, _, h2, h3⟩ := h
  obtain ⟨c, hrun, hc, _⟩ := World.ownsMap.lookup_int h2 law_intH Try.underlying53 Try.underlying3 (zero_intH w) (keyOf_int_mk Try.underlying3 (i64_wf ha))
  rw [h3] at hc
  simp only [DataW.lit.injEq, Lit.int.injEq, true_and] at hc
  rw [hrun, ← hc]
theorem Hits.put (h : Hits w b es) (x : Ev) (hx : EvOk x) (hl : es.length ≤ 1000000) :
    ∃ w', (Instr.mapUpdate 53 (.map (some b)) (.int .i64 x.ad) (.int .i64 ((cntA es x.ad : Nat) + 1))).run Try.prog w = .ok () w' ∧ Hits w' b (es ++ [x]) ∧ w.grownBy w' (some b) := by
  obtain ⟨n, D, h1, h2, h3⟩ := h
  have hc := cntA_le es x.ad
  obtain ⟨w', e, m, g⟩ := World.ownsMap.update h2 law_intH Try.underlying53 (by unfold maxLen; omega) (keyOf_int_mk Try.underlying3 (i64_wf hx.2.2.2.2.1)) (plainElem_int (q := .i64) (a := ((cntA es x.ad : Nat) : Int) + 1) Try.underlying3 (i64_wf (by omega)))
  refine ⟨w', e, ⟨n + 1, _, by rw [List.length_append]; simp; omega, m, fun a => ?_⟩, g⟩
  rw [cntA_app, cntA_one]
  by_cases c : x.ad = a
  · subst c
    rw [atKey_put_same (World.ownsMap.isMap h2) (by exact trivial), if_pos rfl]
    simp
  · rw [atKey_put_other (by intro e'; cases e'; exact c rfl), h3 a, if_neg c, Nat.add_zero]
end

/-! What an event does to other words. -/
theorem strike_apart {es : List Ev} {j : Nat} : ∀ {ws : List Int}, (∀ e ∈ es, e.ad ≠ (j : Int)) → (strike es ws).getD j 0 = ws.getD j 0 := by
  induction es with
  | nil => intro ws _; rfl
  | cons e es ih =>
    intro ws h
    rw [strike_cons, ih fun y hy => h y (by simp [hy]), hit_get]
    have hne := h e (by simp)
    rw [if_neg]
    rintro ⟨h1, h2⟩
    obtain ⟨_, h3, _⟩ := nul_false h1
    omega

/-- s is a memory, r one without events; they are the same but where one of the events es has its place. -/
structure Apr (n : Nat) (es : List Ev) (s r : MS) : Prop where
  ls : s.ws.length = n
  lr : r.ws.length = n
  t : s.t = r.t
  a : s.a = r.a
  none : r.es = []
  some : ∀ e ∈ s.es, 0 < cntA es e.ad
  ws : ∀ j : Nat, cntA es j = 0 → s.ws.getD j 0 = r.ws.getD j 0

section
variable {n : Nat} {es : List Ev} {s r : MS}
theorem Apr.far (h : Apr n es s r) {j : Nat} (hj : cntA es j = 0) : ∀ e ∈ s.es, e.ad ≠ (j : Int) := fun e he c => by
  have := h.some e he
  rw [c] at this
  omega
theorem Apr.more (h : Apr n es s r) (ls : List Ev) : Apr n (es ++ ls) s r :=
  ⟨h.ls, h.lr, h.t, h.a, h.none, fun e he => by rw [cntA_app]; have := h.some e he; omega, fun j hj => h.ws j (by rw [cntA_app] at hj; omega)⟩
theorem Apr.acc (h : Apr n es s r) : Apr n es (acc s) (acc r) := by
  rw [acc_bare h.none]
  refine ⟨(acc_len s).trans h.ls, h.lr, ?_, ?_, rfl, fun e he => h.some e (List.mem_filter.1 he).1, fun j hj => ?_⟩
  · unfold Go.Proofs.Ytaphhgiocahnhaa.acc; dsimp only; rw [h.t]
  · unfold Go.Proofs.Ytaphhgiocahnhaa.acc; exact h.a
  · rw [← h.ws j hj]
    exact strike_apart fun e he => h.far hj e (List.mem_filter.1 he).1
theorem Apr.load (h : Apr n es s r) (ad : Int) : Apr n es (ldS s ad) (ldS r ad) ∧ adE s ad = adE r ad ∧ (cntA es ad = 0 → ldV s ad = ldV r ad) := by
  unfold ldS ldV adE
  rw [h.ls, h.lr]
  cases hp : hasP n ad
  · exact ⟨h, rfl, fun _ => rfl⟩
  · simp only [if_true]
    refine ⟨h.acc, trivial, fun hc => h.acc.ws _ ?_⟩
    obtain ⟨c1, c2⟩ := hasP_in hp
    rwa [show ((ad.toNat : Nat) : Int) = ad by omega]
theorem Apr.store (h : Apr n es s r) (ad u : Int) : Apr n es (stS s ad u) (stS r ad u) ∧ adE s ad = adE r ad := by
  unfold stS adE
  rw [h.ls, h.lr]
  cases hp : hasP n ad
  · exact ⟨h, rfl⟩
  · simp only [if_true]
    have hA := h.acc
    refine ⟨⟨by dsimp only; rw [List.length_set]; exact hA.ls, by dsimp only; rw [List.length_set]; exact hA.lr, hA.t, hA.a, hA.none, hA.some, fun j hj => ?_⟩, trivial⟩
    dsimp only
    rw [getD_set, getD_set, hA.ls, hA.lr, hA.ws j hj]
theorem Apr.next (h : Apr n es s r) {ls : List Ev} (hl : ls.length ≤ 1024) : Apr n (es ++ ls) (nxS s ls) (nxS r []) := by
  unfold nxS
  rw [if_pos hl, if_pos (by simp)]
  refine ⟨(strike_len _ _).trans h.ls, (strike_len _ _).trans h.lr, rfl, by dsimp only; rw [h.t, h.a], rfl, fun e he => ?_, fun j hj => ?_⟩
  · have : e ∈ ls := by simpa using (putAll_perm ls []).mem_iff.1 he
    rw [cntA_app]
    have := cntA_mem this
    omega
  · rw [cntA_app] at hj
    have hj' : cntA es j = 0 := by omega
    dsimp only
    rw [h.none, strike_nil, ← h.ws j hj']
    exact strike_apart (h.far hj')
end

/-- The events of an op, if it is the window's end. -/
def opL (o : OpV) : List Ev := if o.kd % 4 = 3 then o.es else []
theorem Apr.op {n : Nat} {es : List Ev} {s r : MS} (h : Apr n es s r) (o : OpV) (hl : o.es.length ≤ 1024) : Apr n (es ++ opL o) (opS o s) (opS (bare o) r) ∧ opE o s = opE (bare o) r ∧ (cntA (es ++ opL o) o.ad = 0 → opT o s = opT (bare o) r) := by
  have hk : (bare o).kd = o.kd := rfl
  by_cases h2 : o.kd % 4 = 2
  · obtain ⟨a1, a2, a3⟩ := op_two s h2
    obtain ⟨b1, b2, b3⟩ := op_two (o := bare o) r h2
    rw [a1, a2, a3, b1, b2, b3]
    have e : opL o = [] := by unfold opL; rw [if_neg (by omega)]
    rw [e, List.append_nil]
    exact ⟨(h.store _ _).1, (h.store _ o.wd).2, fun _ => rfl⟩
  · by_cases h3 : o.kd % 4 = 3
    · obtain ⟨a1, a2, a3⟩ := op_three s h3
      obtain ⟨b1, b2, b3⟩ := op_three (o := bare o) r h3
      rw [a1, a2, a3, b1, b2, b3]
      have e : opL o = o.es := by unfold opL; rw [if_pos h3]
      rw [e]
      refine ⟨h.next hl, ?_, fun _ => rfl⟩
      unfold nxR
      rw [if_pos hl]; rfl
    · obtain ⟨a1, a2, a3⟩ := op_load s h2 h3
      obtain ⟨b1, b2, b3⟩ := op_load (o := bare o) r h2 h3
      rw [a1, a2, a3, b1, b2, b3]
      have e : opL o = [] := by unfold opL; rw [if_neg h3]
      rw [e, List.append_nil]
      exact h.load _
theorem Apr.made (n : Nat) (ls : List Ev) : Apr n ls (newS n ls) (newS n []) :=
  ⟨newS_len _ _, newS_len _ _, rfl, rfl, rfl, fun e he => cntA_mem (by simpa using (putAll_perm ls []).mem_iff.1 he), fun _ _ => rfl⟩

/-- The two memories and the map. -/
def Base (w0 w : World) (M N B : Nat) (s r : MS) (k : Nat) (es : List Ev) : Prop := ∃ F G, (At w0 w F M s k ∧ At w0 w G N r k ∧ Dis F G) ∧ (¬ F B ∧ ¬ G B) ∧ w0.heap.size ≤ B ∧ Hits w B es
/-- And an op in the block X, the same without its events in the next one. -/
def BaseX (w0 w : World) (M N B : Nat) (s r : MS) (k : Nat) (es : List Ev) (X : Nat) (o : OpV) : Prop := ∃ F G, (At w0 w F M s k ∧ At w0 w G N r k ∧ Dis F G) ∧ (¬ F B ∧ ¬ G B ∧ w0.heap.size ≤ B ∧ Hits w B es) ∧ (¬ F X ∧ ¬ G X ∧ X ≠ B ∧ OpAt w X 0 o) ∧ (¬ F (X + 1) ∧ ¬ G (X + 1) ∧ X + 1 ≠ B ∧ OpAt w (X + 1) 0 (bare o)) ∧ X + 1 < w.heap.size

section
variable {w0 w w' : World} {M N B k X : Nat} {s r : MS} {es : List Ev} {o : OpV}
theorem Base.below (h : Base w0 w M N B s r k es) : Below w0.heap.size w0 w := by obtain ⟨F, G, ⟨h, _⟩, _⟩ := h; exact h.below
theorem Base.hits (h : Base w0 w M N B s r k es) : Hits w B es := by obtain ⟨F, G, _, _, _, h⟩ := h; exact h
theorem Base.quiet (h : Base w0 w M N B s r k es) (hb : Below w.heap.size w w') : Base w0 w' M N B s r k es := by
  obtain ⟨F, G, ⟨h1, h2, d⟩, hB, h3, h4⟩ := h
  exact ⟨F, G, ⟨h1.quiet hb, h2.quiet hb, d⟩, hB, h3, h4.stay (hb.block B h4.lt)⟩
theorem Base.more {k' : Nat} (h : Base w0 w M N B s r k es) (hk : k ≤ k') : Base w0 w M N B s r k' es := by
  obtain ⟨F, G, ⟨h1, h2, d⟩, h3⟩ := h
  exact ⟨F, G, ⟨h1.more hk, h2.more hk, d⟩, h3⟩
theorem Base.put (h : Base w0 w M N B s r k es) {x : Ev} (hH : Hits w' B (es ++ [x])) (hg : w.grownBy w' (some B)) : Base w0 w' M N B s r k (es ++ [x]) := by
  obtain ⟨F, G, ⟨h1, h2, d⟩, ⟨hB1, hB2⟩, h3, h4⟩ := h
  have hb := But.of_grown hg
  have hne : ∀ {K : Nat → Prop}, ¬ K B → Dis K fun j => some B = some j := fun hK j c e => by cases e; exact hK c
  exact ⟨F, G, ⟨h1.but hb (hne hB1) (fun j e => by cases e; exact h3), h2.but hb (hne hB2) (fun j e => by cases e; exact h3), d⟩, ⟨hB1, hB2⟩, h3, hH⟩
theorem Base.op (h : Base w0 w M N B s r k es) (o : OpV) : BaseX w0 ((w.alloc (opO o)).alloc (opO (bare o))) M N B s r k es w.heap.size o := by
  obtain ⟨F, G, ⟨h1, h2, d⟩, hB, h3, h4⟩ := h
  have hb1 := below_al (Below.refl _ w) (opO o)
  have hb2 := below_al (Below.refl _ (w.alloc (opO o))) (opO (bare o))
  have hb := below_on hb1 hb2
  have hl := h4.lt
  have e2 := OpAt.new (w.alloc (opO o)) (bare o)
  rw [World.size_alloc] at e2
  exact ⟨F, G, ⟨h1.quiet hb, h2.quiet hb, d⟩, ⟨hB.1, hB.2, h3, h4.stay (hb.block B hl)⟩, ⟨fun c => by have := h1.mem.lt _ c; omega, fun c => by have := h2.mem.lt _ c; omega, by omega, (OpAt.new w o).block (hb2.block _ (by simp))⟩,
    ⟨fun c => by have := h1.mem.lt _ c; omega, fun c => by have := h2.mem.lt _ c; omega, by omega, e2⟩, by simp⟩
theorem BaseX.base (h : BaseX w0 w M N B s r k es X o) : Base w0 w M N B s r k es := by obtain ⟨F, G, h, ⟨h1, h2, h3, h4⟩, _⟩ := h; exact ⟨F, G, h, ⟨h1, h2⟩, h3, h4⟩
theorem BaseX.one (h : BaseX w0 w M N B s r k es X o) : OpAt w X 0 o := by obtain ⟨F, G, _, _, ⟨_, _, _, h⟩, _⟩ := h; exact h
theorem BaseX.two (h : BaseX w0 w M N B s r k es X o) : OpAt w (X + 1) 0 (bare o) := by obtain ⟨F, G, _, _, _, ⟨_, _, _, h⟩, _⟩ := h; exact h
theorem BaseX.quiet (h : BaseX w0 w M N B s r k es X o) (hb : Below w.heap.size w w') : BaseX w0 w' M N B s r k es X o := by
  obtain ⟨F, G, ⟨h1, h2, d⟩, ⟨b1, b2, b3, b4⟩, ⟨x1, x2, x3, x4⟩, ⟨y1, y2, y3, y4⟩, hl⟩ := h
  exact ⟨F, G, ⟨h1.quiet hb, h2.quiet hb, d⟩, ⟨b1, b2, b3, b4.stay (hb.block B b4.lt)⟩, ⟨x1, x2, x3, x4.block (hb.block X (by omega))⟩, ⟨y1, y2, y3, y4.block (hb.block _ hl)⟩, Nat.lt_of_lt_of_le hl hb.size⟩
theorem BaseX.put (h : BaseX w0 w M N B s r k es X o) {x : Ev} (hH : Hits w' B (es ++ [x])) (hg : w.grownBy w' (some B)) : BaseX w0 w' M N B s r k (es ++ [x]) X o := by
  obtain ⟨F, G, ⟨h1, h2, d⟩, ⟨b1, b2, b3, b4⟩, ⟨x1, x2, x3, x4⟩, ⟨y1, y2, y3, y4⟩, hl⟩ := h
  have hb := But.of_grown hg
  have hne : ∀ {K : Nat → Prop}, ¬ K B → Dis K fun j => some B = some j := fun hK j c e => by cases e; exact hK c
  exact ⟨F, G, ⟨h1.but hb (hne b1) (fun j e => by cases e; exact b3), h2.but hb (hne b2) (fun j e => by cases e; exact b3), d⟩, ⟨b1, b2, b3, hH⟩, ⟨x1, x2, x3, x4.block (hb.block X (by omega) fun e => x3 (by cases e; rfl))⟩, ⟨y1, y2, y3, y4.block (hb.block _ hl fun e => y3 (by cases e; rfl))⟩, Nat.lt_of_lt_of_le hl hb.size⟩
theorem BaseX.first (h : BaseX w0 w M N B s r k es X o) (hn : OpNum o) (hx : ReadsE w0 w0.heap.size o.x o.es) (hk : k ≤ 1000000) :
    Calls Try.prog 14 #[.pointer (some ⟨M, 0, none⟩), opA o] w fun e w' => e = .returned (.tuple #[.int .u64 (opT o s), .int .i64 (opE o s)]) ∧ BaseX w0 w' M N B (opS o s) r (k + 1) es X o := by
  obtain ⟨F, G, ⟨h1, h2, d⟩, ⟨b1, b2, b3, b4⟩, ⟨x1, x2, x3, x4⟩, ⟨y1, y2, y3, y4⟩, hl⟩ := h
  refine (do_any F M s o w h1.mem hn ((hx.below h1.below).rdF h1.new) (h1.cnt hk)).mono ?_
  rintro e w' ⟨rfl, hT⟩
  have hb := Below.refl w.heap.size w
  obtain ⟨k2, e2⟩ := h2.beside h1.new hb hT d
  have hno : ∀ {j : Nat}, ¬ F j → j < w.heap.size → ¬ Or2 F (Nw w w') j := fun hF hj c => c.elim hF fun c => by have := c.1; omega
  exact ⟨rfl, _, G, ⟨h1.did hb o hT, k2.more (by omega), e2⟩, ⟨hno b1 b4.lt, b2, b3, b4.stay (hT.2.block B b4.lt b1)⟩, ⟨hno x1 (by omega), x2, x3, x4.block (hT.2.block X (by omega) x1)⟩, ⟨hno y1 hl, y2, y3, y4.block (hT.2.block _ hl y1)⟩, Nat.lt_of_lt_of_le hl hT.2.size⟩
theorem BaseX.second (h : BaseX w0 w M N B s r k es X o) (hn : OpNum o) (hk : k ≤ 1000000) :
    Calls Try.prog 14 #[.pointer (some ⟨N, 0, none⟩), opA (bare o)] w fun e w' => e = .returned (.tuple #[.int .u64 (opT (bare o) r), .int .i64 (opE (bare o) r)]) ∧ BaseX w0 w' M N B s (opS (bare o) r) (k + 1) es X o := by
  obtain ⟨F, G, ⟨h1, h2, d⟩, ⟨b1, b2, b3, b4⟩, ⟨x1, x2, x3, x4⟩, ⟨y1, y2, y3, y4⟩, hl⟩ := h
  refine (do_any G N r (bare o) w h2.mem hn.bare rdF_nil (h2.cnt hk)).mono ?_
  rintro e w' ⟨rfl, hT⟩
  have hb := Below.refl w.heap.size w
  obtain ⟨k2, e2⟩ := h1.beside h2.new hb hT d.symm
  have hno : ∀ {j : Nat}, ¬ G j → j < w.heap.size → ¬ Or2 G (Nw w w') j := fun hF hj c => c.elim hF fun c => by have := c.1; omega
  exact ⟨rfl, F, _, ⟨k2.more (by omega), h2.did hb (bare o) hT, e2.symm⟩, ⟨b1, hno b2 b4.lt, b3, b4.stay (hT.2.block B b4.lt b2)⟩, ⟨x1, hno x2 (by omega), x3, x4.block (hT.2.block X (by omega) x2)⟩, ⟨y1, hno y2 hl, y3, y4.block (hT.2.block _ hl y2)⟩, Nat.lt_of_lt_of_le hl hT.2.size⟩
theorem Base.ticks (h : Base w0 w M N B s r k es) : Calls Try.prog 18 #[.pointer (some ⟨M, 0, none⟩)] w fun e w' => e = .returned (.int .i64 s.t) ∧ w = w' := by
  obtain ⟨F, G, ⟨h1, _⟩, _⟩ := h
  exact Ticks_any F M s w h1.mem
theorem Base.ticks2 (h : Base w0 w M N B s r k es) : Calls Try.prog 18 #[.pointer (some ⟨N, 0, none⟩)] w fun e w' => e = .returned (.int .i64 r.t) ∧ w = w' := by
  obtain ⟨F, G, ⟨_, h1, _⟩, _⟩ := h
  exact Ticks_any G N r w h1.mem
theorem Base.all (h : Base w0 w M N B s r k es) (hk : k ≤ 1000000) : Calls Try.prog 20 #[.pointer (some ⟨M, 0, none⟩)] w (RetQ (.int .i64 (s.a + s.t)) w) := by
  obtain ⟨F, G, ⟨h1, _⟩, _⟩ := h
  exact All_any F M s w h1.mem (h1.cnt hk).1 (h1.cnt hk).2
theorem Base.all2 (h : Base w0 w M N B s r k es) (hk : k ≤ 1000000) : Calls Try.prog 20 #[.pointer (some ⟨N, 0, none⟩)] w (RetQ (.int .i64 (r.a + r.t)) w) := by
  obtain ⟨F, G, ⟨_, h1, _⟩, _⟩ := h
  exact All_any G N r w h1.mem (h1.cnt hk).1 (h1.cnt hk).2
theorem Base.words (h : Base w0 w M N B s r k es) : Calls Try.prog 22 #[.pointer (some ⟨M, 0, none⟩)] w (Worded w s.ws) := by
  obtain ⟨F, G, ⟨h1, _⟩, _⟩ := h
  exact Words_any F M s w h1.mem
theorem Base.words2 (h : Base w0 w M N B s r k es) : Calls Try.prog 22 #[.pointer (some ⟨N, 0, none⟩)] w (Worded w r.ws) := by
  obtain ⟨F, G, ⟨_, h1, _⟩, _⟩ := h
  exact Words_any G N r w h1.mem
end
theorem Base.made {w0 w1 w2 w3 : World} {M N : Nat} {s r : MS} (hb : Below w0.heap.size w0 w1) (h1 : MM w2 (Nw w1 w2) M s) (hb1 : Below w1.heap.size w1 w2) (h2 : MM w3 (Nw w2 w3) N r) (hb2 : Below w2.heap.size w2 w3) (t1 : s.t = 0) (a1 : s.a = 0) (t2 : r.t = 0) (a2 : r.a = 0) :
    Base w0 (w3.alloc (.map #[] 0)) M N w3.heap.size s r 0 [] := by
  have hs := hb.size
  have hs1 := hb1.size
  have hs2 := hb2.size
  have hm := below_al (Below.refl _ w3) (.map #[] 0)
  refine ⟨_, _, ⟨((At.made hb h1 hb1 t1 a1).quiet hb2).quiet hm, (At.made (below_on hb hb1) h2 hb2 t2 a2).quiet hm, fun j c d => ?_⟩, ⟨fun c => by have := c.2; omega, fun c => by have := c.2; omega⟩, by omega, Hits.made w3⟩
  have := c.2; have := d.1; omega

end Go.Proofs.Ytaphhgiocahnhaa
