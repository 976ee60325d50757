/-
  A memory: its words, the events that have not struck yet, how many accesses there were; in which blocks it lies.
-/
import Derived.Test.YtaphhgiocahnhaaAgTwo
import Derived.Test.YtaphhgiocahnhaaStrike
namespace Go.Proofs.Ytaphhgiocahnhaa
open Go.RowKit Go.Sort

/-- The memory's own block. -/
def MemB (w : World) (M : Nat) (v : Value) (q : Option Addr) (t a : Int) : Prop := w.heap[M]? = some (.cells #[v, .pointer q, .int .i64 t, .int .i64 a] 56 (0, 0))

section
variable {w w' : World} {M : Nat} {v : Value} {q : Option Addr} {t a : Int}
theorem MemB.lt (h : MemB w M v q t a) : M < w.heap.size := by
  rcases Nat.lt_or_ge M w.heap.size with c | c
  · exact c
  · unfold MemB at h; rw [Array.getElem?_eq_none c] at h; cases h
theorem MemB.c0 (h : MemB w M v q t a) : w.cell? ⟨M, 0, none⟩ = some v := by unfold MemB at h; simp [World.cell?, h]
theorem MemB.c1 (h : MemB w M v q t a) : w.cell? ⟨M, 1, none⟩ = some (.pointer q) := by unfold MemB at h; simp [World.cell?, h]
theorem MemB.c2 (h : MemB w M v q t a) : w.cell? ⟨M, 2, none⟩ = some (.int .i64 t) := by unfold MemB at h; simp [World.cell?, h]
theorem MemB.c3 (h : MemB w M v q t a) : w.cell? ⟨M, 3, none⟩ = some (.int .i64 a) := by unfold MemB at h; simp [World.cell?, h]
theorem MemB.fz (h : MemB w M v q t a) (o : Nat) : w.frozen? ⟨M, o, none⟩ = false := by unfold MemB at h; simp [World.frozen?, h]
theorem MemB.keep (h : MemB w M v q t a) (hk : w'.heap[M]? = w.heap[M]?) : MemB w' M v q t a := hk.trans h
theorem MemB.set0 (h : MemB w M v q t a) (u : Value) : MemB (w.setCell ⟨M, 0, none⟩ u) M u q t a := by unfold MemB at h ⊢; simp [World.setCell, Array.getElem?_modify, h]
theorem MemB.set1 (h : MemB w M v q t a) (u : Option Addr) : MemB (w.setCell ⟨M, 1, none⟩ (.pointer u)) M v u t a := by unfold MemB at h ⊢; simp [World.setCell, Array.getElem?_modify, h]
theorem MemB.set2 (h : MemB w M v q t a) (u : Int) : MemB (w.setCell ⟨M, 2, none⟩ (.int .i64 u)) M v q u a := by unfold MemB at h ⊢; simp [World.setCell, Array.getElem?_modify, h]
theorem MemB.set3 (h : MemB w M v q t a) (u : Int) : MemB (w.setCell ⟨M, 3, none⟩ (.int .i64 u)) M v q t u := by unfold MemB at h ⊢; simp [World.setCell, Array.getElem?_modify, h]
end

/-- What waits: nothing at all, or an agenda. -/
def Wait (w : World) (FA : Nat → Prop) (q : Option Addr) (es : List Ev) : Prop :=
  (q = none ∧ es = []) ∨ ∃ A p, q = some ⟨A, 0, none⟩ ∧ AG w FA A es p ∧ es.length ≤ 1024

section
variable {w w' : World} {FA G : Nat → Prop} {q : Option Addr} {es : List Ev}
theorem Wait.ok (h : Wait w FA q es) : EvsOk es := by
  rcases h with ⟨_, rfl⟩ | ⟨A, p, _, h, _⟩
  · intro s hs; cases hs
  · exact h.ok
theorem Wait.few (h : Wait w FA q es) : es.length ≤ 1024 := by
  rcases h with ⟨_, rfl⟩ | ⟨A, p, _, _, h⟩
  · simp
  · exact h
theorem Wait.keep (h : Wait w FA q es) (hs : w.heap.size ≤ w'.heap.size) (hk : ∀ k, FA k → w'.heap[k]? = w.heap[k]?) : Wait w' FA q es := by
  rcases h with h | ⟨A, p, e, h, hl⟩
  · exact .inl h
  · exact .inr ⟨A, p, e, h.keep hs hk, hl⟩
end

/-- The memory at M, in all its parts: its words ws in the row v, the events es that wait, t accesses of this window, a ahead of it; all its blocks are of F, those of what waits of FA. -/
structure MemAt (w : World) (F FA : Nat → Prop) (M : Nat) (v : Value) (q : Option Addr) (ws : List Int) (es : List Ev) (t a : Int) : Prop where
  own : MemB w M v q t a
  row : Owns .u64 33 w 0 v ws
  words : Words ws
  few : ws.length ≤ 16384
  wait : Wait w FA q es
  ne : v.ownBlock ≠ some M
  fm : F M
  fv : ∀ g, v.ownBlock = some g → F g
  av : ∀ g, v.ownBlock = some g → ¬ FA g
  am : ¬ FA M
  af : ∀ k, FA k → F k
  lt : ∀ k, F k → k < w.heap.size

/-- A row of words stays, if its block does. -/
theorem Owns.stay {k : IntKind} {e : TypeId} {w w' : World} {base : Nat} {v : Value} {xs : List Int} (h : Owns k e w base v xs) (hk : ∀ g, v.ownBlock = some g → w'.heap[g]? = w.heap[g]?) : Owns k e w' base v xs := by
  refine ⟨h.1, ?_⟩
  rcases h.2 with h2 | ⟨g, cap, cur, e1, e2, e3, e4⟩
  · exact .inl h2
  · exact .inr ⟨g, cap, cur, e1, e2, (hk g (by rw [e1]; rfl)).trans e3, e4⟩
theorem Owns.blockLt {k : IntKind} {e : TypeId} {w : World} {base : Nat} {v : Value} {xs : List Int} (h : Owns k e w base v xs) {g : Nat} (hg : v.ownBlock = some g) : base ≤ g ∧ g < w.heap.size := World.ownsRow.lt h g hg

section
variable {w w' : World} {F FA G : Nat → Prop} {M : Nat} {v : Value} {q : Option Addr} {ws : List Int} {es : List Ev} {t a : Int}
theorem MemAt.keep (h : MemAt w F FA M v q ws es t a) (hs : w.heap.size ≤ w'.heap.size) (hk : ∀ k, F k → w'.heap[k]? = w.heap[k]?) : MemAt w' F FA M v q ws es t a :=
  ⟨h.own.keep (hk M h.fm), h.row.stay fun g e => hk g (h.fv g e), h.words, h.few, h.wait.keep hs fun k c => hk k (h.af k c), h.ne, h.fm, h.fv, h.av, h.am, h.af, fun k c => Nat.lt_of_lt_of_le (h.lt k c) hs⟩
theorem MemAt.more (h : MemAt w F FA M v q ws es t a) (hF : ∀ k, F k → G k) (hG : ∀ k, G k → k < w.heap.size) : MemAt w G FA M v q ws es t a :=
  ⟨h.own, h.row, h.words, h.few, h.wait, h.ne, hF _ h.fm, fun g e => hF g (h.fv g e), h.av, h.am, fun k c => hF k (h.af k c), hG⟩
end

/-- What a memory is, where it matters. -/
structure MS where
  ws : List Int
  es : List Ev
  t : Int
  a : Int

/-- The memory at M is s; all its blocks are of F. -/
def MM (w : World) (F : Nat → Prop) (M : Nat) (s : MS) : Prop := ∃ FA v q, MemAt w F FA M v q s.ws s.es s.t s.a

section
variable {w w' : World} {F G : Nat → Prop} {M : Nat} {s : MS}
theorem MM.keep (h : MM w F M s) (hs : w.heap.size ≤ w'.heap.size) (hk : ∀ k, F k → w'.heap[k]? = w.heap[k]?) : MM w' F M s := by
  obtain ⟨FA, v, q, h⟩ := h
  exact ⟨FA, v, q, h.keep hs hk⟩
theorem MM.lt (h : MM w F M s) : ∀ k, F k → k < w.heap.size := by obtain ⟨_, _, _, h⟩ := h; exact h.lt
theorem MM.but (h : MM w F M s) (hb : But G w w') (hd : Dis F G) : MM w' F M s := h.keep hb.size fun k c => hb.block k (h.lt k c) (hd k c)
theorem MM.below (h : MM w F M s) (hb : Below w.heap.size w w') : MM w' F M s := h.but (But.of_below (F := fun _ => False) hb) fun _ _ c => c
theorem MM.more (h : MM w F M s) (hF : ∀ k, F k → G k) (hG : ∀ k, G k → k < w.heap.size) : MM w G M s := by
  obtain ⟨FA, v, q, h⟩ := h
  exact ⟨FA, v, q, h.more hF hG⟩
theorem MM.words (h : MM w F M s) : Words s.ws := by obtain ⟨_, _, _, h⟩ := h; exact h.words
theorem MM.few (h : MM w F M s) : s.ws.length ≤ 16384 := by obtain ⟨_, _, _, h⟩ := h; exact h.few
theorem MM.ok (h : MM w F M s) : EvsOk s.es := by obtain ⟨_, _, _, h⟩ := h; exact h.wait.ok
theorem MM.fewE (h : MM w F M s) : s.es.length ≤ 1024 := by obtain ⟨_, _, _, h⟩ := h; exact h.wait.few
end

theorem RdF.reads {w : World} {F : Nat → Prop} {x : Option Addr} {ys : List Ev} (h : RdF w F x ys) : ReadsE w w.heap.size x ys := fun h0 => by
  obtain ⟨b, off, e, h1, _, h3⟩ := h h0
  exact ⟨b, off, e, h1, h3⟩

/-! What an access makes of it, a load, a store, the window's end. -/
def acc (s : MS) : MS := ⟨strike (due s.t s.es) s.ws, yet s.t s.es, s.t + 1, s.a⟩
def hasP (n : Nat) (ad : Int) : Bool := decide (0 ≤ ad) && decide (ad < (n : Int))
def ldS (s : MS) (ad : Int) : MS := if hasP s.ws.length ad = true then acc s else s
def ldV (s : MS) (ad : Int) : Int := if hasP s.ws.length ad = true then (acc s).ws.getD ad.toNat 0 else 0
def adE (s : MS) (ad : Int) : Int := if hasP s.ws.length ad = true then 0 else 1
def stS (s : MS) (ad u : Int) : MS := if hasP s.ws.length ad = true then ⟨(acc s).ws.set ad.toNat u, (acc s).es, (acc s).t, (acc s).a⟩ else s
def nxS (s : MS) (ls : List Ev) : MS := if ls.length ≤ 1024 then ⟨strike s.es s.ws, putAll [] ls, 0, s.a + s.t⟩ else s
def nxR (ls : List Ev) : Int := if ls.length ≤ 1024 then 0 else 1
def newS (n : Nat) (ls : List Ev) : MS := ⟨List.replicate n 0, putAll [] ls, 0, 0⟩
theorem acc_len (s : MS) : (acc s).ws.length = s.ws.length := strike_len _ _
theorem hasP_in {n : Nat} {ad : Int} (h : hasP n ad = true) : 0 ≤ ad ∧ ad < (n : Int) := by simpa [hasP] using h
theorem hasP_no {n : Nat} {ad : Int} (h : hasP n ad = false) : ad < 0 ∨ (n : Int) ≤ ad := by
  simp [hasP] at h
  omega

/-! What is due, of what waits. -/
def WDued (w : World) (FA : Nat → Prop) (q : Option Addr) (ts es : List Ev) (e : Ending) (w' : World) : Prop :=
  ∃ x cap, e = .returned (.slice x ts.length cap) ∧ OwnsE w' w.heap.size (.slice x ts.length cap) ts ∧ Wait w' FA q es ∧ But FA w w'

theorem WDued.of_draws {w : World} {FA : Nat → Prop} {q : Option Addr} {ts es : List Ev} {e : Ending} {w' : World} {n : Nat} (h : WDued (w.drewN n) FA q ts es e w') : WDued w FA q ts es e w' := by
  obtain ⟨x, cap, e1, h1, h2, h3⟩ := h
  exact ⟨x, cap, e1, h1, h2, (But.of_below (F := FA) (draws_below _ w n)).trans h3 fun _ _ c => c⟩

theorem wDue_any (FA : Nat → Prop) (q : Option Addr) (es : List Ev) (t : Int) (w : World) (h : Wait w FA q es) :
    Calls Try.prog 42 #[.pointer q, .int .i64 t] w (WDued w FA q (due t es) (yet t es)) := by
  rcases h with ⟨rfl, rfl⟩ | ⟨A, p, rfl, h, hl⟩
  · refine (Due_nil t w).mono ?_
    rintro e w' ⟨rfl, rfl⟩
    exact ⟨none, 0, rfl, OwnsE.nil, .inl ⟨rfl, rfl⟩, But.refl _ _⟩
  · refine (Due_any A FA es p t w h (by omega)).mono ?_
    intro e w' hd
    obtain ⟨x, cap, rfl, _, _, hO, hA, hB⟩ := hd.open
    exact ⟨x, cap, rfl, hO, .inr ⟨A, p, rfl, hA, by have := yet_len t es; omega⟩, hB⟩

theorem wRest_any (FA : Nat → Prop) (q : Option Addr) (es : List Ev) (w : World) (h : Wait w FA q es) :
    Calls Try.prog 36 #[.pointer q] w (WDued w FA q es []) := by
  rcases h with ⟨rfl, rfl⟩ | ⟨A, p, rfl, h, hl⟩
  · refine (Rest_nil w).mono ?_
    rintro e w' ⟨rfl, rfl⟩
    exact ⟨none, 0, rfl, OwnsE.nil, .inl ⟨rfl, rfl⟩, But.refl _ _⟩
  · refine (Rest_any A FA es p w h (by omega)).mono ?_
    intro e w' hd
    obtain ⟨x, cap, rfl, _, _, hO, hA, hB⟩ := hd.open
    exact ⟨x, cap, rfl, hO, .inr ⟨A, p, rfl, hA, by simp⟩, hB⟩

set_option maxRecDepth 100000 in
set_option maxHeartbeats 1000000 in
theorem mdue_any (F FA : Nat → Prop) (M : Nat) (v : Value) (q : Option Addr) (ws : List Int) (es : List Ev) (t a : Int) (w : World) (h : MemAt w F FA M v q ws es t a) :
    Calls Try.prog 41 #[.pointer (some ⟨M, 0, none⟩)] w (WDued w FA q (due t es) (yet t es)) := by
  have hmx : Try.prog.follows .mixedOrders = true := by kernel_rfl
  have HD := Lib.hid (fun n => wDue_any FA q es t (w.drewN n) (h.wait.keep (Nat.le_refl _) fun _ _ => rfl))
  have c1 := h.own.c1
  have c2 := h.own.c2
  clear h
  go_enter Try.func41, Try.ntmps41
  go_wp2
  refine region_quiet_tail 8 hmx (by kernel_rfl) ?_
  simp only [List.take_succ_cons, List.take_zero, List.drop_succ_cons, List.drop_zero]
  repeat (first | go_big_quiet_step (fail) | quiet_step (fail))
  refine wpQuiet_nil ?_
  rintro w' ⟨nq, rfl⟩
  go_wp2_with (go_at_call 42; refine (HD.out nq).mono ?_; intro e w2 hd; obtain ⟨x2, cap2, rfl, hr⟩ := hd; have H2 := Lib.hid hr; clear hr)
  go_ret
  exact WDued.of_draws ⟨x2, cap2, rfl, H2.out⟩

end Go.Proofs.Ytaphhgiocahnhaa
