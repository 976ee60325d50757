/-
  What container/heap's Push and Pop come to at a heap of events, and take.
-/
import Derived.Test.YtaphhgiocahnhaaQueue
import Derived.Test.YtaphhgiocahnhaaEvOne
namespace Go.Proofs.Ytaphhgiocahnhaa
open Go.RowKit Go.Sort

theorem RowN.pop {w : World} {g cap : Nat} {d : Array En} (h : RowN w g cap d) : RowN w g cap d.pop := by
  refine RowN.of h.shape (by have := h.cap.1; simp; omega) h.cap.2 fun i c hi hc => ?_
  have hi' : i < d.size := by simp at hi; omega
  have e : (d.pop)[i]! = d[i]! := by
    rw [getN _ _ hi, getN _ _ hi']; simp
  rw [e]
  exact h.cell hi' hc

/-- What Pop leaves: one entry less. -/
def Popped (w : World) (A g cap : Nat) (p : Int) (d : Array En) (w' : World) : Prop :=
  AgB w' A (.slice (some ⟨g, 0, none⟩) d.size cap) p ∧ RowN w' g cap d ∧ But (fun k => k = A) w w'

set_option maxHeartbeats 2000000 in
set_option maxRecDepth 100000 in
theorem qpop_any (A g cap n : Nat) (p : Int) (d : Array En) (w : World) (hB : AgB w A (.slice (some ⟨g, 0, none⟩) d.size cap) p) (hR : RowN w g cap d) (hA : g ≠ A) (hs : d.size = n + 1) (hl : n < 1000000) :
    Calls Try.prog 73 #[.pointer (some ⟨A, 0, none⟩)] w fun e w' => e = .returned (.iface 77 (enV d[n]!)) ∧ Popped w A g cap p d.pop w' := by
  have hps : d.pop.size = n := by simp [hs]
  have HE := Lib.hid (fun o => (show Popped w A g cap p d.pop ((w.setCell ⟨A, 0, none⟩ (.slice (some ⟨g, 0, none⟩) n cap)).alloc o) from by
    have hlt := hB.lt
    have hgl := hR.lt
    refine ⟨?_, hR.pop.keep ?_, ?_⟩
    · rw [hps]
      exact (hB.set0 _).keep (Below.heap_alloc _ _ _ (by simpa [World.setCell] using hlt))
    · rw [Below.heap_alloc _ _ _ (by simpa [World.setCell] using hgl)]
      exact Below.heap_setCell _ _ _ _ hA
    · exact (But.setCell w A 0 _).trans (F' := fun k => k = A) (But.of_below (below_al (Below.refl _ _) _)) (fun k _ c => c)))
  have c0 := hB.c0
  have cf := hB.fz 0
  have hAl := hB.lt
  have k0 := hR.cell (i := n) (c := 0) (by omega) (by omega)
  have k1 := hR.cell (i := n) (c := 1) (by omega) (by omega)
  have k2 := hR.cell (i := n) (c := 2) (by omega) (by omega)
  have k3 := hR.cell (i := n) (c := 3) (by omega) (by omega)
  have k4 := hR.cell (i := n) (c := 4) (by omega) (by omega)
  have k5 := hR.cell (i := n) (c := 5) (by omega) (by omega)
  have k6 := hR.cell (i := n) (c := 6) (by omega) (by omega)
  have hcap := hR.cap.1
  have hcm := hR.cap.2
  unfold maxLen at hcm
  obtain ⟨x, hx⟩ : ∃ x, x = d[n]! := ⟨_, rfl⟩
  rw [← hx] at k0 k1 k2 k3 k4 k5 k6 ⊢
  rw [hs] at c0 hcap
  clear hB hR hx hs hps
  obtain ⟨⟨x1, x2, x3, x4, x5, x6⟩, x7⟩ := x
  unfold enV
  simp only [enc, evc] at k0 k1 k2 k3 k4 k5 k6
  simp at k0 k1 k2 k3 k4 k5 k6
  dsimp only
  have e1 : ((n + 1 : Nat) : Int) - 1 = (n : Int) := by omega
  have nn : ((n : Int)).toNat = n := by omega
  have n1 : (n : Int) < ((n + 1 : Nat) : Int) := by omega
  have n2 : (n : Int) ≤ (cap : Int) := by omega
  go_enter Try.func73, Try.ntmps73
  go_wp2
  go_ret
  exact ⟨rfl, HE.out _⟩

theorem up_push {d : Array En} (x : En) (h : Hp d d.size) : Up (d.push x) (d.push x).size d.size := by
  have hs : (d.push x).size = d.size + 1 := by simp
  have g : ∀ k, k < d.size → (d.push x)[k]! = d[k]! := fun k hk => by
    rw [getN _ _ (by omega), getN _ _ hk, Array.getElem_push_lt hk]
  refine ⟨fun k k0 hk kn => ?_, fun k k0 hk kp j0 => by omega⟩
  rw [g k (by omega), g _ (by omega)]
  exact h k k0 (by omega)

/-- The row of an agenda at A, in a world. -/
structure HQ (w : World) (A : Nat) (v : Value) (p : Int) (d : Array En) : Prop where
  own : AgB w A v p
  row : RowV w v d
  ne : v.ownBlock ≠ some A
  heap : Hp d d.size

/-- .. whose row is where it was, or new. -/
def Moved (w : World) (v v' : Value) : Prop := ∀ g, v'.ownBlock = some g → v.ownBlock = some g ∨ w.heap.size ≤ g

/-- What heap.Push leaves. -/
def HPushed (w : World) (A : Nat) (v : Value) (p : Int) (d : Array En) (x : En) (w' : World) : Prop :=
  ∃ v' d', HQ w' A v' p d' ∧ d'.toList.Perm (d.toList ++ [x]) ∧ Moved w v v' ∧ But (fun k => k = A ∨ v.ownBlock = some k) w w'

set_option maxHeartbeats 2000000 in
set_option maxRecDepth 100000 in
theorem hpush_any (A : Nat) (v : Value) (p : Int) (d : Array En) (x : En) (w : World) (h : HQ w A v p d) (hs : d.size < 100000) :
    Calls Try.prog 46 #[.iface 79 (.pointer (some ⟨A, 0, none⟩)), .iface 77 (enV x)] w fun e w' => e = .returned (.tuple #[]) ∧ HPushed w A v p d x w' := by
  have fp := find_push A w
  have HP := Lib.hid (qpush_any A v p d x w h.own h.row h.ne (by omega))
  have hsz : (d.push x).size = d.size + 1 := by simp
  have HU := Lib.hid (up_push x h.heap)
  have HT : Hid ((d.push x).toList = d.toList ++ [x]) := Lib.hid (by simp)
  obtain ⟨d1, hd1⟩ : ∃ d1, d1 = d.push x := ⟨_, rfl⟩
  rw [← hd1] at HP HU HT hsz
  obtain ⟨n, hn⟩ : ∃ n, n = d.size := ⟨_, rfl⟩
  rw [← hn] at HU hsz
  have hnb : n < 100000 := by omega
  obtain ⟨m, hm⟩ : ∃ m, m = d1.size := ⟨_, rfl⟩
  have HM := Lib.hid hm
  have emn : (m : Int) - 1 = (n : Int) := by omega
  have hmb : m < 1000000 := by omega
  have HNM : Hid (n < d1.size) := Lib.hid (by omega)
  have HL := Lib.hid (fun y (cap : Nat) W => len_any y m cap W)
  clear h hd1 hsz hn hs hm
  go_enter Try.func46, Try.ntmps46
  go_wp2_with (first
    | (go_at_call 74; refine HP.out.mono ?_; rintro e w1 ⟨rfl, g, cap, hB1, hR1, hgA, hat, hbut⟩; have fl := find_len A _ w1 hB1.c0; rw [← HM.out] at fl; have HUP := Lib.hid (up_any A g cap n d1 w1 hB1.c0 (Ne.symm hgA) hR1 HNM.out HU.out (by rw [← HM.out]; omega)); have HB1 := Lib.hid hB1; have HR1 := Lib.hid (And.intro hgA (And.intro hat hbut)); clear hB1 hR1 hgA hat hbut)
    | (go_at_call 67; refine (HL.out _ _ _).mono ?_; rintro e w2 ⟨rfl, rfl⟩)
    | (go_at_call 48; refine HUP.out.mono ?_; rintro e w3 ⟨rfl, d3, hS3, hH3⟩))
  go_end0
  obtain ⟨hgA, hat, hbut⟩ := HR1.out
  refine ⟨rfl, _, d3, ⟨HB1.out.keep (hS3.grown.block A HB1.out.lt (by simpa using Ne.symm hgA)), ?_, by simpa [Value.ownBlock] using hgA, by rw [hS3.size]; exact hH3⟩, by rw [← HT.out]; exact hS3.perm, fun k hk => ?_, ?_⟩
  · have := hS3.row.v
    rw [hS3.size] at this
    exact this
  · have : g = k := by simpa [Value.ownBlock] using hk
    subst this
    exact hat
  · refine hbut.trans (But.of_grown hS3.grown) (fun k hk c => ?_)
    have : g = k := by simpa using c
    subst this
    rcases hat with h | h
    · exact .inr h
    · omega

end Go.Proofs.Ytaphhgiocahnhaa
