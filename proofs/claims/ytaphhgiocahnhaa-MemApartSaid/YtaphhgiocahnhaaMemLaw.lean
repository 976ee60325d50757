/-
  A memory through a law's calls: where it stands, that its counts are small, and that what the law was handed stays; plain facts of what is done.
-/
import Derived.Test.YtaphhgiocahnhaaMemFew
import Derived.Test.YtaphhgiocahnhaaSameW
namespace Go.Proofs.Ytaphhgiocahnhaa
open Go.RowKit Go.Sort

/-- In the law's world w0 a memory of its own, behind at most k accesses. -/
structure At (w0 w : World) (F : Nat → Prop) (M : Nat) (s : MS) (k : Nat) : Prop where
  below : Below w0.heap.size w0 w
  mem : MM w F M s
  new : ∀ j, F j → w0.heap.size ≤ j
  t0 : 0 ≤ s.t
  a0 : 0 ≤ s.a
  sum : s.t + s.a ≤ k

section
variable {w0 w w' W : World} {F G : Nat → Prop} {M k : Nat} {s s' : MS}
theorem At.cnt (h : At w0 w F M s k) (hk : k ≤ 1000000) : CntOk s := by
  have := h.t0; have := h.a0; have := h.sum
  unfold CntOk; omega
theorem At.quiet (h : At w0 w F M s k) (hb : Below w.heap.size w w') : At w0 w' F M s k := ⟨below_on h.below hb, h.mem.below hb, h.new, h.t0, h.a0, h.sum⟩
theorem At.but (h : At w0 w F M s k) (hb : But G w w') (hd : Dis F G) (hG : ∀ j, G j → w0.heap.size ≤ j) : At w0 w' F M s k := ⟨h.below.trans (hb.below h.below.size hG), h.mem.but hb hd, h.new, h.t0, h.a0, h.sum⟩
theorem At.step (h : At w0 w F M s k) (hb : Below w.heap.size w W) (hT : Struck W F M s' w') {k' : Nat} (h1 : 0 ≤ s'.t) (h2 : 0 ≤ s'.a) (h3 : s'.t + s'.a ≤ k') : At w0 w' (Or2 F (Nw W w')) M s' k' := by
  have hs := h.below.size
  have hs2 := hb.size
  refine ⟨(below_on h.below hb).trans (hT.2.below (by omega) h.new), hT.1, fun j c => ?_, h1, h2, h3⟩
  rcases c with c | c
  · exact h.new j c
  · have := c.1; omega
theorem At.made (hb : Below w0.heap.size w0 w) (hm : MM w' (Nw w w') M s) (hb' : Below w.heap.size w w') (ht : s.t = 0) (ha : s.a = 0) : At w0 w' (Nw w w') M s 0 :=
  ⟨below_on hb hb', hm, fun j c => by have := c.1; have := hb.size; omega, by omega, by omega, by omega⟩
theorem At.more (h : At w0 w F M s k) {k' : Nat} (hk : k ≤ k') : At w0 w F M s k' := ⟨h.below, h.mem, h.new, h.t0, h.a0, by have := h.sum; omega⟩
end

/-! Counts. -/
theorem ldS_cnt (s : MS) (ad : Int) (h0 : 0 ≤ s.t) (h1 : 0 ≤ s.a) : 0 ≤ (ldS s ad).t ∧ 0 ≤ (ldS s ad).a ∧ (ldS s ad).t + (ldS s ad).a ≤ s.t + s.a + 1 := by
  unfold ldS
  split
  · unfold acc; dsimp only; omega
  · omega
theorem stS_cnt (s : MS) (ad u : Int) (h0 : 0 ≤ s.t) (h1 : 0 ≤ s.a) : 0 ≤ (stS s ad u).t ∧ 0 ≤ (stS s ad u).a ∧ (stS s ad u).t + (stS s ad u).a ≤ s.t + s.a + 1 := by
  unfold stS
  split
  · unfold acc; dsimp only; omega
  · omega
theorem nxS_cnt (s : MS) (ls : List Ev) (h0 : 0 ≤ s.t) (h1 : 0 ≤ s.a) : 0 ≤ (nxS s ls).t ∧ 0 ≤ (nxS s ls).a ∧ (nxS s ls).t + (nxS s ls).a ≤ s.t + s.a := by
  unfold nxS
  split
  · dsimp only; omega
  · omega
theorem opS_cnt (o : OpV) (s : MS) (h0 : 0 ≤ s.t) (h1 : 0 ≤ s.a) : 0 ≤ (opS o s).t ∧ 0 ≤ (opS o s).a ∧ (opS o s).t + (opS o s).a ≤ s.t + s.a + 1 := by
  unfold opS
  split
  · exact stS_cnt s _ _ h0 h1
  · split
    · have := nxS_cnt s o.es h0 h1; omega
    · exact ldS_cnt s _ h0 h1
theorem ldS_len (s : MS) (ad : Int) : (ldS s ad).ws.length = s.ws.length := by
  unfold ldS; split
  · exact acc_len s
  · rfl
theorem stS_len (s : MS) (ad u : Int) : (stS s ad u).ws.length = s.ws.length := by
  unfold stS; split
  · rw [List.length_set]; exact acc_len s
  · rfl
theorem nxS_len (s : MS) (ls : List Ev) : (nxS s ls).ws.length = s.ws.length := by
  unfold nxS; split
  · exact strike_len _ _
  · rfl
theorem opS_len (o : OpV) (s : MS) : (opS o s).ws.length = s.ws.length := by
  unfold opS; split
  · exact stS_len s _ _
  · split
    · exact nxS_len s _
    · exact ldS_len s _
theorem newS_len (n : Nat) (ls : List Ev) : (newS n ls).ws.length = n := by unfold newS; simp

/-- It is done in the law's loop. -/
theorem At.did {w0 w w' W : World} {F : Nat → Prop} {M k : Nat} {s : MS} (h : At w0 w F M s k) (hb : Below w.heap.size w W) (o : OpV) (hT : Struck W F M (opS o s) w') : At w0 w' (Or2 F (Nw W w')) M (opS o s) (k + 1) := by
  obtain ⟨h1, h2, h3⟩ := opS_cnt o s h.t0 h.a0
  exact h.step hb hT h1 h2 (by have := h.sum; omega)

theorem ReadsO.more {w : World} {B B' : Nat} {x : Option Addr} {os : List OpV} (h : ReadsO w B x os) (hB : B ≤ B') : ReadsO w B' x os := fun hn => by
  obtain ⟨b, off, e, h1, h2⟩ := h hn
  exact ⟨b, off, e, by omega, h2⟩
/-- An op that came in, where it is asked for. -/
theorem OpIn.cells {w0 w : World} {x : Option Addr} {n cap : Nat} {os : List OpV} (h : OpIn w0 x n cap os) (hb : Below w0.heap.size w0 w) {j : Nat} (hj : j < n) : ∃ b off, x = some ⟨b, off, none⟩ ∧ b < w0.heap.size ∧ OpAt w b (off + j * 4) (os.getD j noOp) := by
  obtain ⟨b, off, e, h1, h2⟩ := (h.2.2.2.1.below hb) (by rw [h.1]; omega)
  exact ⟨b, off, e, h1, h2 j (by rw [h.1]; omega)⟩
theorem OpIn.rdF {w0 w : World} {x : Option Addr} {n cap : Nat} {os : List OpV} (h : OpIn w0 x n cap os) {F : Nat → Prop} (hb : Below w0.heap.size w0 w) (hF : ∀ k, F k → w0.heap.size ≤ k) {j : Nat} (hj : j < n) : RdF w F (os.getD j noOp).x (os.getD j noOp).es :=
  ((h.at hj).2.2.2.2.2.2.1.below hb).rdF hF
theorem OpAt.new (w : World) (o : OpV) : OpAt (w.alloc (opO o)) w.heap.size 0 o := by
  unfold opO
  refine ⟨?_, ?_, ?_, ?_⟩ <;> simp
theorem OpAt.block {w w' : World} {b f : Nat} {o : OpV} (h : OpAt w b f o) (hk : w'.heap[b]? = w.heap[b]?) : OpAt w' b f o := by
  obtain ⟨h0, h1, h2, h3⟩ := h
  exact ⟨(World.cell?_of_block hk).trans h0, (World.cell?_of_block hk).trans h1, (World.cell?_of_block hk).trans h2, (World.cell?_of_block hk).trans h3⟩
theorem Owns.rd {k : IntKind} {e : TypeId} {w : World} {base n cap : Nat} {x : Option Addr} {xs : List Int} (h : Owns k e w base (.slice x n cap) xs) : Reads k w w.heap.size x xs := by
  obtain ⟨x', cap', e, _, _, hR, _⟩ := h.form
  simp only [Value.slice.injEq] at e
  rw [e.1]
  exact hR
/-- Without its events. -/
def bare (o : OpV) : OpV := ⟨o.kd, o.ad, o.wd, none, 0, 0, []⟩
theorem OpNum.bare {o : OpV} (h : OpNum o) : OpNum (bare o) := ⟨h.1, h.2.1, h.2.2.1, rfl, fun s hs => by cases hs⟩
theorem rdF_nil {w : World} {F : Nat → Prop} {x : Option Addr} : RdF w F x [] := fun h => absurd h (by simp)

/-! A memory without events. -/
theorem acc_bare {s : MS} (h : s.es = []) : acc s = ⟨s.ws, [], s.t + 1, s.a⟩ := by unfold acc; rw [h]; rfl
theorem opS_bare {o : OpV} {s : MS} (h : s.es = []) : (opS (bare o) s).es = [] ∧ (opS (bare o) s).ws = if o.kd % 4 = 2 ∧ hasP s.ws.length o.ad = true then s.ws.set o.ad.toNat o.wd else s.ws := by
  unfold opS bare
  dsimp only
  by_cases h2 : o.kd % 4 = 2
  · rw [if_pos h2]
    unfold stS
    cases hp : hasP s.ws.length o.ad
    · rw [if_neg (by simp), if_neg (by simp)]; exact ⟨h, rfl⟩
    · rw [if_pos rfl, if_pos ⟨h2, rfl⟩, acc_bare h]; exact ⟨rfl, rfl⟩
  · have hq : ¬ (o.kd % 4 = 2 ∧ hasP s.ws.length o.ad = true) := fun c => h2 c.1
    rw [if_neg h2, if_neg hq]
    by_cases h3 : o.kd % 4 = 3
    · rw [if_pos h3]
      unfold nxS
      rw [if_pos (by simp)]
      exact ⟨rfl, by rw [h]; rfl⟩
    · rw [if_neg h3]
      unfold ldS
      cases hp : hasP s.ws.length o.ad
      · rw [if_neg (by simp)]; exact ⟨h, rfl⟩
      · rw [if_pos rfl, acc_bare h]; exact ⟨rfl, rfl⟩
theorem opT_bare {o : OpV} {s : MS} (h : s.es = []) : opT (bare o) s = if o.kd % 4 = 2 ∨ o.kd % 4 = 3 ∨ hasP s.ws.length o.ad = false then 0 else s.ws.getD o.ad.toNat 0 := by
  unfold opT bare ldV
  dsimp only
  by_cases h2 : o.kd % 4 = 2
  · rw [if_pos h2, if_pos (.inl h2)]
  · by_cases h3 : o.kd % 4 = 3
    · rw [if_neg h2, if_pos h3, if_pos (.inr (.inl h3))]
    · rw [if_neg h2, if_neg h3]
      cases hp : hasP s.ws.length o.ad
      · rw [if_neg (by simp), if_pos (.inr (.inr rfl))]
      · rw [if_pos rfl, if_neg (by simp [h2, h3]), acc_bare h]
theorem opE_bare {o : OpV} {s : MS} : opE (bare o) s = if o.kd % 4 = 3 ∨ hasP s.ws.length o.ad = true then 0 else 1 := by
  unfold opE bare adE nxR
  dsimp only
  by_cases h2 : o.kd % 4 = 2
  · rw [if_pos h2]
    cases hp : hasP s.ws.length o.ad
    · rw [if_neg (by simp), if_neg (by simp; omega)]
    · rw [if_pos rfl, if_pos (.inr rfl)]
  · by_cases h3 : o.kd % 4 = 3
    · rw [if_neg h2, if_pos h3, if_pos (by simp), if_pos (.inl h3)]
    · rw [if_neg h2, if_neg h3]
      cases hp : hasP s.ws.length o.ad
      · rw [if_neg (by simp), if_neg (by simp; omega)]
      · rw [if_pos rfl, if_pos (.inr rfl)]

end Go.Proofs.Ytaphhgiocahnhaa
