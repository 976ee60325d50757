/-
  The document's agenda: what it keeps, in which blocks; what its Left, Next, Rest and Due come to.
-/
import Derived.Test.YtfkidghillnknaaMathDue
import Derived.Test.YtfkidghillnknaaAppAt
namespace Go.Proofs.Ytfkidghillnknaa
open Go.RowKit

/-- The document's agenda's own block. -/
def RgB (w : World) (B : Nat) (v : Value) : Prop := w.heap[B]? = some (.cells #[v] 53 (0, 0))

section
variable {w w' : World} {B : Nat} {v : Value}
theorem RgB.lt (h : RgB w B v) : B < w.heap.size := by
  rcases Nat.lt_or_ge B w.heap.size with c | c
  · exact c
  · unfold RgB at h; rw [Array.getElem?_eq_none c] at h; cases h
theorem RgB.c0 (h : RgB w B v) : w.cell? ⟨B, 0, none⟩ = some v := by unfold RgB at h; simp [World.cell?, h]
theorem RgB.fz (h : RgB w B v) (o : Nat) : w.frozen? ⟨B, o, none⟩ = false := by unfold RgB at h; simp [World.frozen?, h]
theorem RgB.keep (h : RgB w B v) (hk : w'.heap[B]? = w.heap[B]?) : RgB w' B v := hk.trans h
theorem RgB.set (h : RgB w B v) (u : Value) : RgB (w.setCell ⟨B, 0, none⟩ u) B u := by unfold RgB at h ⊢; simp [World.setCell, Array.getElem?_modify, h]
end

theorem OwnsE.blocks {w w' : World} {base : Nat} {v : Value} {es : List Ev} (h : OwnsE w base v es) (hk : ∀ g, v.ownBlock = some g → w'.heap[g]? = w.heap[g]?) : OwnsE w' base v es := by
  refine ⟨h.1, ?_⟩
  rcases h.2 with h2 | ⟨g, cap, cur, e1, e2, e3, e4⟩
  · exact .inl h2
  · exact .inr ⟨g, cap, cur, e1, e2, (hk g (by rw [e1]; rfl)).trans e3, e4⟩
theorem OwnsE.blt {w : World} {base : Nat} {v : Value} {es : List Ev} (h : OwnsE w base v es) {g : Nat} (hg : v.ownBlock = some g) : g < w.heap.size := (World.ownsRow.lt h g hg).2

/-- The document's agenda at B keeps the events es, in their order; all its blocks are of F. -/
def RG (w : World) (F : Nat → Prop) (B : Nat) (es : List Ev) : Prop :=
  ∃ v, RgB w B v ∧ OwnsE w 0 v es ∧ v.ownBlock ≠ some B ∧ F B ∧ (∀ g, v.ownBlock = some g → F g) ∧ ∀ k, F k → k < w.heap.size

section
variable {w w' : World} {F G : Nat → Prop} {B : Nat} {es : List Ev}
theorem RG.lt (h : RG w F B es) : ∀ k, F k → k < w.heap.size := by obtain ⟨_, _, _, _, _, _, h6⟩ := h; exact h6
theorem RG.keep (h : RG w F B es) (hs : w.heap.size ≤ w'.heap.size) (hk : ∀ k, F k → w'.heap[k]? = w.heap[k]?) : RG w' F B es := by
  obtain ⟨v, h1, h2, h3, h4, h5, h6⟩ := h
  exact ⟨v, h1.keep (hk B h4), h2.blocks fun g e => hk g (h5 g e), h3, h4, h5, fun k c => Nat.lt_of_lt_of_le (h6 k c) hs⟩
theorem RG.but (h : RG w F B es) (hb : But G w w') (hd : Dis F G) : RG w' F B es := h.keep hb.size fun k c => hb.block k (h.lt k c) (hd k c)
theorem RG.below (h : RG w F B es) (hb : Below w.heap.size w w') : RG w' F B es := h.but (But.of_below (F := fun _ => False) hb) (fun _ _ c => c)
theorem RG.more (h : RG w F B es) (hF : ∀ k, F k → G k) (hG : ∀ k, G k → k < w.heap.size) : RG w G B es := by
  obtain ⟨v, h1, h2, h3, h4, h5, h6⟩ := h
  exact ⟨v, h1, h2, h3, hF _ h4, fun g e => hF _ (h5 g e), hG⟩
end

theorem rLeft_any (B : Nat) (F : Nat → Prop) (es : List Ev) (w : World) (h : RG w F B es) :
    Calls Try.prog 18 #[.pointer (some ⟨B, 0, none⟩)] w fun e w' => e = .returned (.int .i64 es.length) ∧ w = w' := by
  obtain ⟨v, h1, h2, _⟩ := h
  obtain ⟨x, cap, rfl, _⟩ := h2.form
  have c0 := h1.c0
  clear h1 h2
  go_enter Try.func18, Try.ntmps18
  go_wp2
  go_ret
  exact ⟨rfl, rfl⟩

theorem rNext_any (B : Nat) (F : Nat → Prop) (es : List Ev) (w : World) (h : RG w F B es) (hl : es.length < 100000) :
    Calls Try.prog 15 #[.pointer (some ⟨B, 0, none⟩)] w fun e w' => e = .returned (.tuple #[.int .i64 (nxT es), .int .i64 (nxE es)]) ∧ w = w' := by
  obtain ⟨v, h1, h2, _⟩ := h
  obtain ⟨x, cap, rfl, -, -, hR, -⟩ := h2.form
  have c0 := h1.c0
  cases es with
  | nil =>
    unfold nxT nxE
    rw [List.length_nil] at c0
    clear h1 h2 hR
    go_enter Try.func15, Try.ntmps15
    go_wp2
    go_ret2
    exact ⟨rfl, rfl⟩
  | cons y l =>
    rw [show nxT (y :: l) = y.tk from rfl, show nxE (y :: l) = 0 from rfl]
    obtain ⟨b, off, rfl, hb, hc⟩ := hR (by simp)
    have k3 := (hc 0 (by simp)).2.2.2.1
    rw [show off + 0 * 6 + 3 = off + 3 by omega, show (y :: l).getD 0 noEv = y from rfl] at k3
    obtain ⟨m, hm⟩ : ∃ m, m = (y :: l).length := ⟨_, rfl⟩
    have m0 : 0 < m := by rw [hm]; simp
    rw [← hm] at c0 hl
    have t : ((m : Int) == 0) = false := by simp; omega
    obtain ⟨tk, htk⟩ : ∃ tk, tk = y.tk := ⟨_, rfl⟩
    rw [← htk] at k3 ⊢
    clear h1 h2 hR hc hm htk
    go_enter Try.func15, Try.ntmps15
    go_wp2
    go_ret2
    exact ⟨rfl, rfl⟩

/-- What the document's Rest leaves and tells. -/
def RRest (w : World) (F : Nat → Prop) (B : Nat) (es : List Ev) (e : Ending) (w' : World) : Prop :=
  ∃ x cap, e = .returned (.slice x es.length cap) ∧ OwnsE w' 0 (.slice x es.length cap) es ∧ RG w' F B [] ∧ But F w w'

theorem rRest_any (B : Nat) (F : Nat → Prop) (es : List Ev) (w : World) (h : RG w F B es) :
    Calls Try.prog 22 #[.pointer (some ⟨B, 0, none⟩)] w (RRest w F B es) := by
  obtain ⟨v, h1, h2, h3, h4, h5, h6⟩ := h
  obtain ⟨x, cap, rfl, _⟩ := h2.form
  have HE : Hid (RRest w F B es (.returned (.slice x es.length cap)) (w.setCell ⟨B, 0, none⟩ (.slice none 0 0))) := Lib.hid ⟨x, cap, rfl, h2.blocks fun g e => Below.heap_setCell _ _ _ _ (fun c => h3 (by rw [e, c])), ⟨_, h1.set _, OwnsE.nil, (fun c => by cases c), h4, (fun g e => by cases e), fun k c => by simpa [World.setCell] using h6 k c⟩, (But.setCell w B 0 _).mono fun k _ c => by rw [c]; exact h4⟩
  have c0 := h1.c0
  have cf := h1.fz 0
  have hlt := h1.lt
  clear h1 h2 h3 h4 h5 h6
  go_enter Try.func22, Try.ntmps22
  go_wp2
  go_ret
  exact HE.out

theorem due_one (t : Int) (es : List Ev) (k : Nat) (hk : k < es.length) : due t (es.take (k + 1)) = if (es.getD k noEv).tk ≤ t then due t (es.take k) ++ [es.getD k noEv] else due t (es.take k) := by
  unfold due
  rw [take_one es k hk, List.filter_append, List.filter_cons]
  by_cases c : (es.getD k noEv).tk ≤ t
  · rw [if_pos c, if_pos (decide_eq_true c)]; rfl
  · rw [if_neg c, if_neg (fun h => c (of_decide_eq_true h))]; simp
theorem yet_one (t : Int) (es : List Ev) (k : Nat) (hk : k < es.length) : yet t (es.take (k + 1)) = if t < (es.getD k noEv).tk then yet t (es.take k) ++ [es.getD k noEv] else yet t (es.take k) := by
  unfold yet
  rw [take_one es k hk, List.filter_append, List.filter_cons]
  by_cases c : t < (es.getD k noEv).tk
  · rw [if_pos c, if_pos (decide_eq_true c)]; rfl
  · rw [if_neg c, if_neg (fun h => c (of_decide_eq_true h))]; simp

/-- What the document's Due leaves and tells. -/
def RDued (w : World) (F : Nat → Prop) (B : Nat) (ts es : List Ev) (e : Ending) (w' : World) : Prop :=
  ∃ x cap, e = .returned (.slice x ts.length cap) ∧ OwnsE w' w.heap.size (.slice x ts.length cap) ts ∧ RG w' (Or2 F (Nw w w')) B es ∧ But F w w'

/-- Two lists that grow beside each other. -/
structure Grow2 (w : World) (u v : Value) (us vs : List Ev) (W : World) : Prop where
  a : OwnsE W w.heap.size u us
  b : OwnsE W w.heap.size v vs
  ne : ∀ g, u.ownBlock = some g → v.ownBlock ≠ some g
  below : Below w.heap.size w W

theorem Grow2.left {w W W1 W2 : World} {u u' v : Value} {us us' vs : List Ev} (h : Grow2 w u v us vs W) (h1 : Below W.heap.size W W1) (hg : W1.grownBy W2 u.ownBlock) (hO : OwnsE W2 w.heap.size u' us') (hat : ∀ g, u'.ownBlock = some g → u.ownBlock = some g ∨ W1.heap.size ≤ g) : Grow2 w u' v us' vs W2 := by
  have hs := h.below.size
  have hs1 := h1.size
  have hv := h.b.below h1
  refine ⟨hO, hv.blocks fun g e => hg.block g (hv.blt e) (fun c => h.ne g c.symm e), fun g e c => ?_, (below_on h.below h1).grown hg (by omega) (fun g e => h.a.ownBlock g e)⟩
  rcases hat g e with d | d
  · exact h.ne g d c
  · have := hv.blt c; omega
theorem Grow2.right {w W W1 W2 : World} {u v v' : Value} {us vs vs' : List Ev} (h : Grow2 w u v us vs W) (h1 : Below W.heap.size W W1) (hg : W1.grownBy W2 v.ownBlock) (hO : OwnsE W2 w.heap.size v' vs') (hat : ∀ g, v'.ownBlock = some g → v.ownBlock = some g ∨ W1.heap.size ≤ g) : Grow2 w u v' us vs' W2 := by
  have hs := h.below.size
  have hs1 := h1.size
  have hu := h.a.below h1
  refine ⟨hu.blocks fun g e => hg.block g (hu.blt e) (fun c => h.ne g e c.symm), hO, fun g e c => ?_, (below_on h.below h1).grown hg (by omega) (fun g e => h.b.ownBlock g e)⟩
  rcases hat g c with d | d
  · exact h.ne g e d
  · have := hu.blt e; omega

set_option maxHeartbeats 4000000 in
set_option maxRecDepth 100000 in
theorem rDue_any (B : Nat) (F : Nat → Prop) (es : List Ev) (t : Int) (w : World) (h : RG w F B es) (hl : es.length ≤ 10000) :
    Calls Try.prog 13 #[.pointer (some ⟨B, 0, none⟩), .int .i64 t] w (RDued w F B (due t es) (yet t es)) := by
  have HH := Lib.hid h
  obtain ⟨v, h1, h2, h3, h4, h5, h6⟩ := h
  obtain ⟨x, cap, rfl, -, -, hR, -⟩ := h2.form
  have c0 := h1.c0
  have HB := Lib.hid h1
  have HX := Lib.hid hR
  have HF := Lib.hid (And.intro h4 h6)
  obtain ⟨n, hn⟩ : ∃ n, n = es.length := ⟨_, rfl⟩
  have HN := Lib.hid hn
  rw [← hn] at c0 hl
  clear h1 h2 h3 h4 h5 h6 hR hn
  go_enter Try.func13, Try.ntmps13
  go_wp2
  go_loopw [16, 5, 6] (fun i u v wr => ∃ k : Nat, k ≤ n ∧ i = .int .i64 k ∧ Hid (Grow2 w u v (due t (es.take k)) (yet t (es.take k)) wr)) (fun i _ _ _ => n - (intOf i).toNat)
  case atStart => exact ⟨0, Nat.zero_le _, rfl, Lib.hid ⟨OwnsE.nil, OwnsE.nil, (fun g e => by cases e), Below.refl _ _⟩⟩
  case round =>
    obtain ⟨k, hk, rfl, HI⟩ := hrel
    by_cases hlt : k < n
    · obtain ⟨b, off, rfl, hb, hc⟩ := (HX.out.below HI.out.below) (by have := HN.out; omega)
      have hcy := hc k (by have := HN.out; omega)
      have hd := due_one t es k (by have := HN.out; omega)
      have hy := yet_one t es k (by have := HN.out; omega)
      have hdl : (due t (es.take k)).length ≤ 10000 := by have := due_len t (es.take k); have := List.length_take_le k es; omega
      have hyl : (yet t (es.take k)).length ≤ 10000 := by have := yet_len t (es.take k); have := List.length_take_le k es; omega
      obtain ⟨y, hy'⟩ : ∃ y, y = es.getD k noEv := ⟨_, rfl⟩
      rw [← hy'] at hcy hd hy
      have hsx := SrcE.one (wr.alloc (evO y)) y
      rw [World.size_alloc] at hsx
      obtain ⟨y1, y2, y3, y4, y5, y6⟩ := y
      obtain ⟨k0, k1, k2, k3, k4, k5⟩ := hcy
      unfold evO at hsx
      dsimp only at k0 k1 k2 k3 k4 k5 hsx hd hy
      have HSx := Lib.hid hsx
      have HLd := Lib.hid (And.intro hdl hyl)
      have hsz := HI.out.below.size
      by_cases he : y4 ≤ t
      · have t1 : decide (y4 ≤ t) = true := by simpa using he
        rw [if_pos he] at hd
        rw [if_neg (by omega)] at hy
        have HD := Lib.hid (And.intro hd hy)
        clear hc hy' hsx hd hy he hdl hyl
        go_wp2_with (at_builtin; refine wpList_append_at rfl _ _ rfl w.heap.size u5 (due t (es.take k)) rfl ((HI.out.a.alloc _).alloc _) _ 1 ⟨y1, y2, y3, y4, y5, y6⟩ rfl HSx.out (by have := HLd.out; omega) (by simp; omega) ?_; intro v4 w4 hO4 hg4 hat4)
        go_roundw
        case rel => exact ⟨k + 1, by omega, by congr 1, Lib.hid (by rw [HD.out.1, HD.out.2]; exact HI.out.left (below_al (below_al (Below.refl _ _) _) _) hg4 hO4 hat4)⟩
        case measure => simp [intOf]; omega
      · have t1 : decide (y4 ≤ t) = false := by simpa using he
        rw [if_neg he] at hd
        rw [if_pos (by omega)] at hy
        have HD := Lib.hid (And.intro hd hy)
        clear hc hy' hsx hd hy he hdl hyl
        go_wp2_with (at_builtin; refine wpList_append_at rfl _ _ rfl w.heap.size u6 (yet t (es.take k)) rfl ((HI.out.b.alloc _).alloc _) _ 1 ⟨y1, y2, y3, y4, y5, y6⟩ rfl HSx.out (by have := HLd.out; omega) (by simp; omega) ?_; intro v4 w4 hO4 hg4 hat4)
        go_roundw
        case rel => exact ⟨k + 1, by omega, by congr 1, Lib.hid (by rw [HD.out.1, HD.out.2]; exact HI.out.right (below_al (below_al (Below.refl _ _) _) _) hg4 hO4 hat4)⟩
        case measure => simp [intOf]; omega
    · have hG : Grow2 w u5 u6 (due t es) (yet t es) wr := by
        have := HI.out
        rw [List.take_of_length_le (by have := HN.out; omega)] at this
        exact this
      obtain ⟨x5, c5, rfl, -⟩ := hG.a.form
      obtain ⟨x6, c6, rfl, -⟩ := hG.b.form
      have hBw := HB.out.keep (hG.below.block B HB.out.lt)
      have hne : ∀ g, Value.ownBlock (.slice x6 (yet t es).length c6) = some g → g ≠ B := fun g e => by have := hG.b.ownBlock g e; have := HB.out.lt; omega
      have hsz := hG.below.size
      have HE : Hid (RDued w F B (due t es) (yet t es) (.returned (.slice x5 (due t es).length c5)) (wr.setCell ⟨B, 0, none⟩ (.slice x6 (yet t es).length c6))) := Lib.hid ⟨x5, c5, rfl, hG.a.blocks fun g e => Below.heap_setCell _ _ _ _ (by show g ≠ B; have := hG.a.ownBlock g e; have := HB.out.lt; omega), ⟨(.slice x6 (yet t es).length c6), hBw.set _, (hG.b.mono (Nat.zero_le _)).blocks fun g e => Below.heap_setCell _ _ _ _ (hne g e), (fun e => hne B e rfl), .inl HF.out.1, (fun g e => .inr ⟨hG.b.ownBlock g e, by have := hG.b.blt e; simpa [World.setCell] using this⟩), fun k c => by
          rcases c with c | c
          · have := HF.out.2 k c; simp [World.setCell]; omega
          · exact c.2⟩, (But.of_below hG.below).trans (But.setCell wr B 0 (.slice x6 (yet t es).length c6)) fun k _ c => by rw [c]; exact HF.out.1⟩
      have b0 := hBw.c0
      have bf := hBw.fz 0
      have bl := hBw.lt
      clear hG hne HX HI hBw
      go_wp2
      go_ret
      exact HE.out

end Go.Proofs.Ytfkidghillnknaa
