/-
  An agenda in memory: a block that holds the row of its entries and how many were put; what the methods Push and Pop of its row come to.
-/
import Derived.Test.YtaphhgiocahnhaaHeapDown
import Derived.Deep.AppendLies
import Derived.Deep.RegionLaw
namespace Go.Proofs.Ytaphhgiocahnhaa
open Go.RowKit Go.Sort

/-- Nothing has changed but, maybe, in the blocks of F. -/
structure But (F : Nat → Prop) (w w' : World) : Prop where
  os : w'.os = w.os
  tape : w'.tape = w.tape
  output : w'.output = w.output
  size : w.heap.size ≤ w'.heap.size
  block : ∀ k, k < w.heap.size → ¬ F k → w'.heap[k]? = w.heap[k]?

theorem But.refl (F : Nat → Prop) (w : World) : But F w w := ⟨rfl, rfl, rfl, Nat.le_refl _, fun _ _ _ => rfl⟩
theorem But.trans {F F' : Nat → Prop} {w w' w'' : World} (h : But F w w') (h' : But F' w' w'') (hF : ∀ k, k < w.heap.size → F' k → F k) : But F w w'' :=
  ⟨h'.os.trans h.os, h'.tape.trans h.tape, h'.output.trans h.output, Nat.le_trans h.size h'.size, fun k hk hn => (h'.block k (Nat.lt_of_lt_of_le hk h.size) (fun c => hn (hF k hk c))).trans (h.block k hk hn)⟩
theorem But.mono {F F' : Nat → Prop} {w w' : World} (h : But F w w') (hF : ∀ k, k < w.heap.size → F k → F' k) : But F' w w' := ⟨h.os, h.tape, h.output, h.size, fun k hk hn => h.block k hk fun c => hn (hF k hk c)⟩
theorem But.of_below {F : Nat → Prop} {w w' : World} (h : Below w.heap.size w w') : But F w w' := ⟨h.os, h.tape, h.output, h.size, fun k hk _ => h.block k hk⟩
theorem But.of_grown {r : Option Nat} {w w' : World} (h : w.grownBy w' r) : But (fun k => r = some k) w w' := ⟨h.os, h.tape, h.output, h.size, fun k hk hn => h.block k hk fun c => hn c.symm⟩
theorem But.setCell (w : World) (b o : Nat) (v : Value) : But (fun k => k = b) w (w.setCell ⟨b, o, none⟩ v) := ⟨rfl, rfl, rfl, by simp [World.setCell], fun k _ hn => Below.heap_setCell _ _ _ _ hn⟩
theorem But.below {F : Nat → Prop} {w w' : World} {n : Nat} (h : But F w w') (hn : n ≤ w.heap.size) (hF : ∀ k, F k → n ≤ k) : Below n w w' := ⟨h.os, h.tape, h.output, h.size, fun k hk => h.block k (by omega) fun c => by have := hF k c; omega⟩

/-- The agenda's own block. -/
def AgB (w : World) (A : Nat) (v : Value) (p : Int) : Prop := w.heap[A]? = some (.cells #[v, .int .i64 p] 73 (0, 0))

section
variable {w w' : World} {A : Nat} {v : Value} {p : Int}
theorem AgB.lt (h : AgB w A v p) : A < w.heap.size := by
  rcases Nat.lt_or_ge A w.heap.size with c | c
  · exact c
  · unfold AgB at h; rw [Array.getElem?_eq_none c] at h; cases h
theorem AgB.c0 (h : AgB w A v p) : w.cell? ⟨A, 0, none⟩ = some v := by unfold AgB at h; simp [World.cell?, h]
theorem AgB.c1 (h : AgB w A v p) : w.cell? ⟨A, 1, none⟩ = some (.int .i64 p) := by unfold AgB at h; simp [World.cell?, h]
theorem AgB.fz (h : AgB w A v p) (o : Nat) : w.frozen? ⟨A, o, none⟩ = false := by unfold AgB at h; simp [World.frozen?, h]
theorem AgB.keep (h : AgB w A v p) (hk : w'.heap[A]? = w.heap[A]?) : AgB w' A v p := hk.trans h
theorem AgB.set0 (h : AgB w A v p) (u : Value) : AgB (w.setCell ⟨A, 0, none⟩ u) A u p := by unfold AgB at h ⊢; simp [World.setCell, Array.getElem?_modify, h]
theorem AgB.set1 (h : AgB w A v p) (q : Int) : AgB (w.setCell ⟨A, 1, none⟩ (.int .i64 q)) A v q := by unfold AgB at h ⊢; simp [World.setCell, Array.getElem?_modify, h]
end

/-- The value v is the row of entries d (nil, if there never was one). -/
def RowV (w : World) (v : Value) (d : Array En) : Prop := w.ownsRow 0 77 7 v d.size (d.toList.flatMap enc)
theorem RowV.nil (w : World) : RowV w (.slice none 0 0) #[] := World.ownsRow_nil _ _ _ _
theorem RowN.v {w : World} {g cap : Nat} {d : Array En} (h : RowN w g cap d) : RowV w (.slice (some ⟨g, 0, none⟩) d.size cap) d := h
theorem RowV.form {w : World} {v : Value} {d : Array En} (h : RowV w v d) (hd : 0 < d.size) : ∃ g cap, v = .slice (some ⟨g, 0, none⟩) d.size cap ∧ RowN w g cap d := by
  obtain ⟨g, cap, rfl, _, _⟩ := World.ownsRow.form h hd
  exact ⟨g, cap, rfl, h⟩
theorem RowV.any {w : World} {v : Value} {d : Array En} (h : RowV w v d) : ∃ x cap, v = .slice x d.size cap := by
  rcases h.2 with ⟨rfl, e⟩ | ⟨g, cap, cur, rfl, _⟩
  · exact ⟨none, 0, by rw [e]⟩
  · exact ⟨_, _, rfl⟩
theorem RowV.keep {w w' : World} {v : Value} {d : Array En} (h : RowV w v d) (hk : ∀ g, v.ownBlock = some g → w'.heap[g]? = w.heap[g]?) : RowV w' v d := by
  refine ⟨h.1, ?_⟩
  rcases h.2 with e | ⟨g, cap, cur, e1, e2, e3, e4⟩
  · exact .inl e
  · exact .inr ⟨g, cap, cur, e1, e2, (hk g (by rw [e1]; rfl)).trans e3, e4⟩
theorem RowV.lt {w : World} {v : Value} {d : Array En} (h : RowV w v d) {g : Nat} (hg : v.ownBlock = some g) : g < w.heap.size := (World.ownsRow.lt h g hg).2

/-- An entry, as one value. -/
def enV (x : En) : Value := .agg #[.int .i64 x.ev.it, .int .i64 x.ev.tr, .int .i64 x.ev.wn, .int .i64 x.ev.tk, .int .i64 x.ev.ad, .int .u64 x.ev.msk, .int .i64 x.ah]
def enO (x : En) : Obj := .cells #[.int .i64 x.ev.it, .int .i64 x.ev.tr, .int .i64 x.ev.wn, .int .i64 x.ev.tk, .int .i64 x.ev.ad, .int .u64 x.ev.msk, .int .i64 x.ah] 77

theorem assert_en (u : Value) (W : World) : (Instr.typeAssert (.iface 77 u) 20 77 false).run Try.prog W = .ok u W := by kernel_rfl

/-- What Push leaves: one entry more. -/
def Pushed (w : World) (A : Nat) (v : Value) (p : Int) (d1 : Array En) (w' : World) : Prop :=
  ∃ g cap, AgB w' A (.slice (some ⟨g, 0, none⟩) d1.size cap) p ∧ RowN w' g cap d1 ∧ g ≠ A ∧ (v.ownBlock = some g ∨ w.heap.size ≤ g) ∧ But (fun k => k = A ∨ v.ownBlock = some k) w w'

theorem pushed_of {w w1 w5 : World} {A g cap : Nat} {v : Value} {p : Int} {d : Array En} {x : En} (hB : AgB w A v p) (hA : v.ownBlock ≠ some A) (h1 : Below w.heap.size w w1) (hO : w5.ownsRow 0 77 7 (.slice (some ⟨g, 0, none⟩) (d.size + 1) cap) (d.size + 1) (d.toList.flatMap enc ++ enc x))
    (hg : w1.grownBy w5 v.ownBlock) (hat : v.ownBlock = some g ∨ g = w1.heap.size) : Pushed w A v p (d.push x) (w5.setCell ⟨A, 0, none⟩ (.slice (some ⟨g, 0, none⟩) (d.size + 1) cap)) := by
  have hlt := hB.lt
  have hgA : g ≠ A := by
    rcases hat with h | h
    · rintro rfl; exact hA h
    · have := h1.size; omega
  have hB5 : AgB w5 A v p := hB.keep ((hg.block A (by have := h1.size; omega) (fun e => hA e.symm)).trans (h1.block A hlt))
  have hsz : (d.push x).size = d.size + 1 := by simp
  refine ⟨g, cap, ?_, ?_, hgA, ?_, ?_⟩
  · rw [hsz]; exact hB5.set0 _
  · have h6 : RowN w5 g cap (d.push x) := by
      unfold RowN
      rw [hsz, Array.toList_push, List.flatMap_append]
      simpa using hO
    exact h6.keep (Below.heap_setCell _ _ _ _ hgA)
  · rcases hat with h | h
    · exact .inl h
    · exact .inr (by have := h1.size; omega)
  · refine ((But.of_below h1).trans (But.of_grown hg) (fun k _ c => .inr c)).trans (But.setCell w5 A 0 _) (fun k _ c => .inl c)

set_option maxHeartbeats 4000000 in
set_option maxRecDepth 100000 in
theorem qpush_any (A : Nat) (v : Value) (p : Int) (d : Array En) (x : En) (w : World) (hB : AgB w A v p) (hR : RowV w v d) (hA : v.ownBlock ≠ some A) (hs : d.size < 1000000) :
    Calls Try.prog 74 #[.pointer (some ⟨A, 0, none⟩), .iface 77 (enV x)] w fun e w' => e = .returned (.tuple #[]) ∧ Pushed w A v p (d.push x) w' := by
  obtain ⟨i0, hi, hz0, hz1, hz2⟩ := info_parts info_en
  have c0 := hB.c0
  have ta := assert_en
  have HP := Lib.hid (fun w1 w5 g cap h1 hO hg hat => pushed_of (d := d) (x := x) (w1 := w1) (w5 := w5) (g := g) (cap := cap) hB hA h1 hO hg hat)
  have HO := Lib.hid (World.ownsRow.alloc (w := w.drew) (hR : w.drew.ownsRow 0 _ 7 v d.size _) (enO x))
  have HA := Lib.hid (show AgB (w.drew.alloc (enO x)) A v p from hB.keep (Below.heap_alloc w.drew _ _ hB.lt))
  have HN : Hid (∀ j u, (enc x)[j]? = some u → (w.drew.alloc (enO x)).cell? ((⟨w.drew.heap.size, 0, none⟩ : Addr).add j) = some u) := Lib.hid (World.news_of_block (w := w.drew.alloc (enO x)) (Array.getElem?_push_size ..))
  have H1 := Lib.hid (below_al (below_draws (Below.refl _ w) 1) (enO x))
  have HNA := Lib.hid hA
  have h1 := enc_one x
  have hL := enc_len x
  clear hB hR hA
  obtain ⟨⟨x1, x2, x3, x4, x5, x6⟩, x7⟩ := x
  unfold enV
  unfold enO at HO HA HN H1
  dsimp only at HO HA HN H1 ⊢
  have c1 : (w.alloc (.cells #[.int .i64 x1, .int .i64 x2, .int .i64 x3, .int .i64 x4, .int .i64 x5, .int .u64 x6, .int .i64 x7] 77)).cell? ⟨A, 0, none⟩ = some v := HA.out.c0
  go_enter Try.func74, Try.ntmps74
  go_wp2
  go_region_law (refine step_append_lies _ rfl (.tmp 7) (.tmp 10) 71 rfl 0 77 i0 (.agg #[.int .i64 0, .int .i64 0, .int .i64 0, .int .i64 0, .int .i64 0, .int .u64 0, .int .i64 0]) 7 56 Try.underlying71 hi hz0 hz1 hz2 rfl (by decide) v d.size _ rfl HO.out ⟨w.heap.size, 0, none⟩ 1 1 (enc ⟨⟨x1, x2, x3, x4, x5, x6⟩, x7⟩) rfl hL HN.out h1 (by omega) (by unfold maxLen; omega) (by omega) (Nat.zero_le _) _ rfl ?_; intro g cap w5 hO5 hg5 hat5 hlt5; have k0 := (hg5.cell_far ⟨A, 0, none⟩ HA.out.lt (fun e => HNA.out e.symm)).trans HA.out.c0; have k1 := (hg5.frozen_far ⟨A, 0, none⟩ HA.out.lt (fun e => HNA.out e.symm)).trans (HA.out.fz 0); have HX := Lib.hid (HP.out _ w5 g cap H1.out hO5 hg5 hat5); clear hO5 hg5 hat5)
  all_goals
    go_wp2
    go_end0
    exact ⟨rfl, HX.out⟩

end Go.Proofs.Ytaphhgiocahnhaa
