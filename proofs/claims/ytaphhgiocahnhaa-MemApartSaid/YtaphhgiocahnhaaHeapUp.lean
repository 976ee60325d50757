/-
  What container/heap's up and down come to at a heap of events.
-/
import Derived.Test.YtaphhgiocahnhaaHeapTwo
namespace Go.Proofs.Ytaphhgiocahnhaa
open Go.RowKit Go.Sort

/-- The row, on the way: the same entries, from place n on as they were, nothing else changed. -/
structure Hst (w : World) (g cap n : Nat) (d dk : Array En) (W : World) : Prop where
  size : dk.size = d.size
  perm : dk.toList.Perm d.toList
  out : ∀ k, n ≤ k → dk[k]! = d[k]!
  row : RowN W g cap dk
  grown : w.grownBy W (some g)

theorem Hst.start {w : World} {g cap : Nat} (n : Nat) {d : Array En} (h : RowN w g cap d) : Hst w g cap n d d w := ⟨rfl, List.Perm.refl _, fun _ _ => rfl, h, grown_refl _ _⟩
theorem Hst.below {w W W' : World} {g cap n : Nat} {d dk : Array En} (h : Hst w g cap n d dk W) (hb : Below W.heap.size W W') : Hst w g cap n d dk W' := ⟨h.size, h.perm, h.out, h.row.keep (hb.block g h.row.lt), grown_trans h.grown (grown_below _ hb)⟩
theorem Hst.swap {w W W' : World} {g cap n p q : Nat} {d dk : Array En} (h : Hst w g cap n d dk W) (hp : p < n) (hq : q < n) (hn : n ≤ d.size) (hr : RowN W' g cap (swp dk p q)) (hg : W.grownBy W' (some g)) : Hst w g cap n d (swp dk p q) W' :=
  ⟨by rw [size_swp]; exact h.size, (swn_perm dk p q (by rw [h.size]; omega) (by rw [h.size]; omega)).trans h.perm, fun k hk => by rw [swp_other dk p q k (by omega) (by omega)]; exact h.out k hk, hr, grown_trans h.grown hg⟩
theorem Hst.cell {w W : World} {g cap n A : Nat} {d dk : Array En} {v : Value} (h : Hst w g cap n d dk W) (hA : A ≠ g) (hc : w.cell? ⟨A, 0, none⟩ = some v) : W.cell? ⟨A, 0, none⟩ = some v := h.grown.cell hc (by simp [hA])

/-- What a part of container/heap leaves. -/
def Hpd (w : World) (g cap n : Nat) (d : Array En) (w' : World) : Prop := ∃ d', Hst w g cap n d d' w' ∧ Hp d' n

theorem parent {j : Nat} (h : 0 < j) : ((j : Int) - 1).tdiv 2 = (((j - 1) / 2 : Nat) : Int) := by
  rw [show (j : Int) - 1 = ((j - 1 : Nat) : Int) by omega]
  rw [Int.tdiv_eq_ediv_of_nonneg (by omega)]
  omega

set_option maxHeartbeats 2000000 in
set_option maxRecDepth 100000 in
theorem up_any (A g cap j : Nat) (d : Array En) (w : World) (hc : w.cell? ⟨A, 0, none⟩ = some (.slice (some ⟨g, 0, none⟩) d.size cap)) (hA : A ≠ g) (hR : RowN w g cap d) (hj : j < d.size) (hU : Up d d.size j) (hs : d.size < 1000000) :
    Calls Try.prog 48 #[.iface 79 (.pointer (some ⟨A, 0, none⟩)), .int .i64 j] w fun e w' => e = .returned (.tuple #[]) ∧ Hpd w g cap d.size d w' := by
  have HC := Lib.hid hc
  have HS := Lib.hid (Hst.start d.size hR)
  have HU := Lib.hid hU
  clear hc hR hU
  go_enter Try.func48, Try.ntmps48
  go_wp2
  go_loopw [1] (fun s wr => ∃ (j : Nat) (dk : Array En), s = .int .i64 j ∧ j < d.size ∧ Hid (Up dk d.size j) ∧ Hid (Hst w g cap d.size d dk wr)) (fun s _ => (intOf s).toNat)
  case atStart => exact ⟨j, d, rfl, hj, HU, HS⟩
  case round =>
    clear HS HU
    obtain ⟨j, dk, rfl, hj, HU, HK⟩ := hrel
    have hcell := HK.out.cell hA HC.out
    by_cases h0 : j = 0
    · subst h0
      have HE : Hid (Hpd w g cap d.size d wr) := Lib.hid ⟨dk, HK.out, HU.out.stop (.inl rfl)⟩
      clear HK HU HC
      go_wp2
      go_end0
      exact ⟨rfl, HE.out⟩
    · have hdv := parent (show 0 < j by omega)
      obtain ⟨i, hi⟩ : ∃ i, i = (j - 1) / 2 := ⟨_, rfl⟩
      have hij : i < j := by omega
      rw [← hi] at hdv
      have t0 : ((i : Int) == (j : Int)) = false := by rw [beq_eq_false_iff_ne]; omega
      have hRk := HK.out.row
      have hL := less_any g cap j i dk wr hRk (by rw [HK.out.size]; omega) (by rw [HK.out.size]; omega)
      rw [HK.out.size] at hL
      have HL := Lib.hid hL
      have fl := find_less A _ wr hcell
      have HF := Lib.hid (fun W (hW : Below wr.heap.size wr W) => find_swap A _ W ((HK.out.below hW).cell hA HC.out))
      have HW := Lib.hid (fun W (hW : Below wr.heap.size wr W) => by
        have := swap_any g cap i j dk W ((HK.out.below hW).row) (by rw [HK.out.size]; omega) (by rw [HK.out.size]; omega)
        rw [HK.out.size] at this
        exact this)
      cases hl : ltN dk[j]! dk[i]!
      · have HE := Lib.hid (fun W (hW : Below wr.heap.size wr W) => (⟨dk, HK.out.below hW, HU.out.stop (.inr (by rw [← hi]; exact hl))⟩ : Hpd w g cap d.size d W))
        rw [hl] at HL
        clear hRk hL HK HU HC hl hi
        go_wp2_with (go_at_call 68; refine HL.out.mono ?_; rintro e w1 ⟨rfl, hb1⟩)
        go_end0
        exact ⟨rfl, HE.out _ hb1⟩
      · have HE := Lib.hid (fun W W' (hW : Below wr.heap.size wr W) (hr : RowN W' g cap (swp dk i j)) (hg : W.grownBy W' (some g)) => (HK.out.below hW).swap (by omega) hj (Nat.le_refl _) hr hg)
        have HU' : Hid (Up (swp dk i j) d.size i) := Lib.hid (by have := HU.out.step (by omega) hj (by rw [HK.out.size]; exact Nat.le_refl _) (by rw [← hi]; exact hl); rw [← hi] at this; exact this)
        rw [hl] at HL
        clear hRk hL HK HU HC hl hi
        go_wp2_with (first
          | (go_at_call 68; refine HL.out.mono ?_; rintro e w1 ⟨rfl, hb1⟩; have fs := HF.out w1 hb1; have hw1 := Lib.hid hb1; clear hb1)
          | (go_at_call 69; refine (HW.out w1 hw1.out).mono ?_; rintro e w2 ⟨rfl, hr2, hg2⟩))
        go_roundw
        case rel => exact ⟨i, swp dk i j, by first | trivial | rfl, by omega, HU', Lib.hid (HE.out _ _ hw1.out hr2 hg2)⟩
        case measure => simp [intOf]; omega

end Go.Proofs.Ytaphhgiocahnhaa
