/-
  What container/heap's Pop comes to at a heap of events, and take.
-/
import Derived.Test.YtaphhgiocahnhaaHeapAll
namespace Go.Proofs.Ytaphhgiocahnhaa
open Go.RowKit Go.Sort

theorem dn_swap {d : Array En} {n : Nat} (hn : d.size = n + 1) (h : Hp d d.size) : Dn (swp d 0 n) n 0 := by
  refine ⟨fun k k0 hk kp => ?_, fun k k0 hk kp j0 => by omega⟩
  rw [swp_other d 0 n k (by omega) (by omega), swp_other d 0 n _ kp (by omega)]
  exact h k k0 (by omega)
theorem swp_last {d : Array En} {n : Nat} (hn : d.size = n + 1) : (swp d 0 n)[n]! = d[0]! := swp_right d 0 n (by omega)
theorem pop_list {d : Array En} {n : Nat} (hn : d.size = n + 1) : d.pop.toList ++ [d[n]!] = d.toList := by
  rw [getN d n (by omega)]
  have h0 : d.toList ≠ [] := fun c => by
    have := congrArg List.length c
    rw [Array.length_toList, hn] at this
    simp at this
  have h := List.dropLast_concat_getLast (l := d.toList) h0
  rw [Array.toList_pop]
  rw [List.getLast_eq_getElem] at h
  simpa [hn] using h

/-- What heap.Pop leaves: all but the first. -/
def HPopped (w : World) (A : Nat) (v : Value) (p : Int) (d : Array En) (w' : World) : Prop :=
  ∃ v' d', HQ w' A v' p d' ∧ (d'.toList ++ [d[0]!]).Perm d.toList ∧ v'.ownBlock = v.ownBlock ∧ But (fun k => k = A ∨ v.ownBlock = some k) w w'

set_option maxHeartbeats 2000000 in
set_option maxRecDepth 100000 in
theorem hpop_any (A n : Nat) (v : Value) (p : Int) (d : Array En) (w : World) (h : HQ w A v p d) (hs : d.size = n + 1) (hl : n < 100000) :
    Calls Try.prog 47 #[.iface 79 (.pointer (some ⟨A, 0, none⟩))] w fun e w' => e = .returned (.iface 77 (enV d[0]!)) ∧ HPopped w A v p d w' := by
  obtain ⟨g, cap, rfl, hR⟩ := h.row.form (by omega)
  have hgA : g ≠ A := fun e => h.ne (by rw [e]; rfl)
  have HSW := Lib.hid (swap_any g cap 0 n d w hR (by omega) (by omega))
  rw [show ((0 : Nat) : Int) = 0 from rfl] at HSW
  have HDN := Lib.hid (dn_swap hs h.heap)
  have HLS := Lib.hid (swp_last hs)
  have HPM := Lib.hid (swn_perm d 0 n (by omega) (by omega))
  have hsw : (swp d 0 n).size = d.size := size_swp _ _ _
  obtain ⟨d1, hd1⟩ : ∃ d1, d1 = swp d 0 n := ⟨_, rfl⟩
  rw [← hd1] at HSW HDN HLS HPM hsw
  have HB := Lib.hid h.own
  have f1 := find_len A _ w h.own.c0
  have f2 := find_swap A _ w h.own.c0
  have HS1 : Hid (d1.size = d.size) := Lib.hid hsw
  have HSZ : Hid (d.size = n + 1) := Lib.hid hs
  obtain ⟨m, hm⟩ : ∃ m, m = d.size := ⟨_, rfl⟩
  have HM := Lib.hid hm
  rw [← hm] at HSW f1 f2
  have emn : (m : Int) - 1 = (n : Int) := by omega
  have hmb : m < 1000000 := by omega
  have HL := Lib.hid (fun y (cap : Nat) W => len_any y m cap W)
  clear h hR hs hd1 hsw hm
  go_enter Try.func47, Try.ntmps47
  go_wp2_with (first
    | (go_at_call 67; refine (HL.out _ _ _).mono ?_; rintro e w2 ⟨rfl, rfl⟩)
    | (go_at_call 69; refine HSW.out.mono ?_; rintro e w1 ⟨rfl, hR1, hg1⟩; have HB1 := Lib.hid (HB.out.keep (hg1.block A HB.out.lt (by simpa using Ne.symm hgA))); have HDW := Lib.hid (down_any A g cap n d1 w1 (by rw [HS1.out]; exact HB1.out.c0) (Ne.symm hgA) hR1 (by rw [HS1.out, HSZ.out]; omega) HDN.out (by rw [HS1.out, ← HM.out]; omega)); have HG1 := Lib.hid hg1; clear hR1 hg1)
    | (go_at_call 49; refine HDW.out.mono ?_; rintro e w2 ⟨⟨b, rfl⟩, d2, hS2, hH2⟩; have fp := find_pop A w2; have HB2 := Lib.hid (HB1.out.keep (hS2.grown.block A HB1.out.lt (by simpa using Ne.symm hgA))); have HPP := Lib.hid (qpop_any A g cap n p d2 w2 (by rw [hS2.size, HS1.out]; exact HB2.out) hS2.row hgA (by rw [hS2.size, HS1.out]; exact HSZ.out) (by omega)); rw [hS2.out n (Nat.le_refl _), HLS.out] at HPP; have HS2 := Lib.hid (And.intro hS2 hH2); clear hS2 hH2)
    | (go_at_call 73; refine HPP.out.mono ?_; rintro e w3 ⟨rfl, hB3, hR3, hb3⟩))
  go_ret
  obtain ⟨hS2, hH2⟩ := HS2.out
  have h2s : d2.size = n + 1 := by rw [hS2.size, HS1.out]; exact HSZ.out
  refine ⟨rfl, _, d2.pop, ⟨hB3, hR3.v, by simpa [Value.ownBlock] using hgA, ?_⟩, ?_, rfl, ?_⟩
  · intro k k0 hk
    have e : ∀ i, i < n → d2.pop[i]! = d2[i]! := fun i hi => by
      rw [getN _ _ (by simp; omega), getN _ _ (by omega)]; simp
    have hk' : k < n := by simp at hk; omega
    rw [e k hk', e _ (by omega)]
    exact hH2 k k0 hk'
  · have := pop_list h2s
    rw [hS2.out n (Nat.le_refl _), HLS.out] at this
    rw [this]
    exact hS2.perm.trans HPM.out
  · refine (((But.of_grown HG1.out).mono (F' := fun k => k = A ∨ Value.ownBlock (.slice (some ⟨g, 0, none⟩) d.size cap) = some k) (fun k _ c => .inr (by simpa [Value.ownBlock] using c))).trans (But.of_grown hS2.grown) (fun k _ c => .inr (by simpa [Value.ownBlock] using c))).trans hb3 (fun k _ c => .inl c)

theorem HQ.keep {w w' : World} {A : Nat} {v : Value} {p : Int} {d : Array En} (h : HQ w A v p d) (hA : w'.heap[A]? = w.heap[A]?) (hg : ∀ g, v.ownBlock = some g → w'.heap[g]? = w.heap[g]?) : HQ w' A v p d := ⟨h.own.keep hA, h.row.keep hg, h.ne, h.heap⟩
theorem HQ.below {w w' : World} {A : Nat} {v : Value} {p : Int} {d : Array En} (h : HQ w A v p d) (hb : Below w.heap.size w w') : HQ w' A v p d := h.keep (hb.block A h.own.lt) fun g e => hb.block g (h.row.lt e)

theorem HPopped.ahead {w w1 w' : World} {A : Nat} {v : Value} {p : Int} {d : Array En} (hb : Below w.heap.size w w1) (h : HPopped w1 A v p d w') : HPopped w A v p d w' := by
  obtain ⟨v', d', h1, h2, h3, h4⟩ := h
  exact ⟨v', d', h1, h2, h3, (But.of_below hb).trans h4 fun _ _ c => c⟩

theorem HPopped.set {w w' : World} {A R o : Nat} {v : Value} {p : Int} {d : Array En} (h : HPopped w A v p d w') (hA : AgB w A v p) (hR : RowV w v d) (hRb : w.heap.size ≤ R) (u : Value) : HPopped w A v p d (w'.setCell ⟨R, o, none⟩ u) := by
  obtain ⟨v', d', h1, h2, h3, h4⟩ := h
  have hl := hA.lt
  have hn : ∀ g, v'.ownBlock = some g → g ≠ R := fun g e => by have := hR.lt (h3 ▸ e); omega
  exact ⟨v', d', h1.keep (Below.heap_setCell _ _ _ _ (by show A ≠ R; omega)) (fun g e => Below.heap_setCell _ _ _ _ (hn g e)), h2, h3, ⟨h4.os, h4.tape, h4.output, by simpa [World.setCell] using h4.size, fun k hk hf => (Below.heap_setCell _ _ _ _ (by show k ≠ R; omega)).trans (h4.block k hk hf)⟩⟩

/-- A block that holds one event: its cells, and what is written into all of them. -/
def Six (w : World) (R : Nat) (s : Ev) : Prop := w.heap[R]? = some (evO s)

section
variable {w w' : World} {R : Nat} {s : Ev}
theorem Six.at (h : Six w R s) : EvAt w R 0 s := by
  unfold Six evO at h
  refine ⟨?_, ?_, ?_, ?_, ?_, ?_⟩ <;> simp [World.cell?, h]
theorem Six.fr (h : Six w R s) (j : Nat) : w.frozen? ⟨R, j, none⟩ = false := frozen_of_row w R j _ _ h
theorem Six.new (w : World) (s : Ev) : Six (w.alloc (evO s)) w.heap.size s := heap_alloc_new _ _
theorem Six.set (h : Six w R s) (t : Ev) : Six ((((((w.setCell ⟨R, 0, none⟩ (.int .i64 t.it)).setCell ⟨R, 1, none⟩ (.int .i64 t.tr)).setCell ⟨R, 2, none⟩ (.int .i64 t.wn)).setCell ⟨R, 3, none⟩ (.int .i64 t.tk)).setCell ⟨R, 4, none⟩ (.int .i64 t.ad)).setCell ⟨R, 5, none⟩ (.int .u64 t.msk)) R t :=
  heap_setCell_same _ R 5 _ _ _ (heap_setCell_same _ R 4 _ _ _ (heap_setCell_same _ R 3 _ _ _ (heap_setCell_same _ R 2 _ _ _ (heap_setCell_same _ R 1 _ _ _ (heap_setCell_same _ R 0 _ _ _ h)))))
end
theorem field_en (a b c d e f g : Value) (W : World) : (Instr.field 77 (.agg #[a, b, c, d, e, f, g]) 0).run Try.prog W = .ok (.agg #[a, b, c, d, e, f]) W := by kernel_rfl
theorem size_event : (Try.prog.info? 47).map (·.size) = some 6 := by kernel_rfl

set_option maxHeartbeats 2000000 in
set_option maxRecDepth 100000 in
theorem take_any (A n : Nat) (v : Value) (p : Int) (d : Array En) (w : World) (h : HQ w A v p d) (hs : d.size = n + 1) (hl : n < 100000) :
    Calls Try.prog 45 #[.pointer (some ⟨A, 0, none⟩)] w fun e w' => e = .returned (evV (d[0]!).ev) ∧ HPopped w A v p d w' := by
  have hb := below_al (Below.refl _ w) (evO noEv)
  have hAl := h.own.lt
  have HP := Lib.hid ((hpop_any A n v p d _ (h.below hb) hs hl).mono fun e w' h' => And.intro h'.1 (And.intro (HPopped.ahead hb h'.2) (show Six w' w.heap.size noEv from by
    obtain ⟨_, _, _, _, _, h4⟩ := h'.2
    refine (h4.block w.heap.size (by simp) ?_).trans (Six.new w noEv)
    rintro (e | e)
    · omega
    · have := h.row.lt e; omega)))
  have ta := assert_en
  have fe := field_en
  have HW : Hid (AgB w A v p ∧ RowV w v d) := Lib.hid ⟨h.own, h.row⟩
  clear h hs hb
  generalize d[0]! = x at HP ⊢
  obtain ⟨⟨x1, x2, x3, x4, x5, x6⟩, x7⟩ := x
  unfold enV evO noEv at HP
  unfold evV
  dsimp only at HP ⊢
  go_enter Try.func45, Try.ntmps45
  go_wp2_with (go_at_call 47; refine HP.out.mono ?_; rintro e w3 ⟨rfl, hp, hS⟩; obtain ⟨k0, k1, k2, k3, k4, k5⟩ := hS.at; dsimp only at k0 k1 k2 k3 k4 k5; have f0 := hS.fr 0; have f1 := hS.fr 1; have f2 := hS.fr 2; have f3 := hS.fr 3; have f4 := hS.fr 4; have f5 := hS.fr 5; have HS := Lib.hid (And.intro hp hS); clear hp hS)
  refine bodyPost_ret (results_cell_row rfl _ _ w.heap.size _ _ _ _ rfl (HS.out.2.set ⟨x1, x2, x3, x4, x5, x6⟩) Try.underlying47 rfl size_event) rfl ?_
  refine ⟨rfl, ?_⟩
  obtain ⟨hA, hR⟩ := HW.out
  exact (((((HS.out.1.set hA hR (Nat.le_refl _) _).set hA hR (Nat.le_refl _) _).set hA hR (Nat.le_refl _) _).set hA hR (Nat.le_refl _) _).set hA hR (Nat.le_refl _) _).set hA hR (Nat.le_refl _) _

end Go.Proofs.Ytaphhgiocahnhaa
