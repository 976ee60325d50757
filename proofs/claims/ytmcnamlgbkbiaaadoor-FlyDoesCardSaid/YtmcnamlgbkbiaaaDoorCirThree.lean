/-
  What fly's methods of a radix come to: three words.
-/
import Derived.Test.YtmcnamlgbkbiaaaDoorCirTwo
namespace Go.Proofs.YtmcnamlgbkbiaaaDoor
open Go.RowKit Fly

theorem Since.at {w : World} (s : Since w) {q : Addr} {v : Value} (h : w.cell? q = some v) : s.out.cell? q = some v := (s.below.cell (World.block_lt_of_cell? _ _ h)).trans h
/-- The points of a radix. -/
def ptL (p : Int) (inv : Bool) (n : Nat) : List Int := (List.range n).map (pt p inv n)
theorem ptL_len (p : Int) (inv : Bool) (n : Nat) : (ptL p inv n).length = n := by simp [ptL]
theorem ptL_at (p : Int) (inv : Bool) {n k : Nat} (h : k < n) : (ptL p inv n).getD k 0 = pt p inv n k := by simp [ptL, h]
theorem ptL_words (p : Int) (inv : Bool) (n : Nat) : Words (ptL p inv n) := fun j => by
  by_cases h : j < n
  · rw [ptL_at p inv h]
    obtain ⟨a, b, -⟩ := pt_bd p inv n j
    omega
  · rw [List.getD_eq_getElem?_getD, List.getElem?_eq_none (by rw [ptL_len]; omega)]
    exact ⟨Int.le_refl _, by decide⟩

theorem ctpt_any (p i a : Int) (inv : Bool) (n k : Nat) (y : Option Addr) (c : Nat) (w : World) (hi : i = (k : Int)) (hy : Reads .u64 w w.heap.size y (ptL p inv n)) (hk : k < n) (hn : n ≤ 5) (a0 : 0 ≤ a) (a1 : a < 18446744073709551616) :
    Calls Tryd.prog 62 #[.agg #[.int .u64 p, .slice y n c], .int .i64 i, .int .u64 a] w (RetB (.int .u64 (Fp.mul p (pt p inv n k) a)) w) := by
  have := ctimes_any p i a k y n c (ptL p inv n) w hi hy (ptL_len p inv n) hk (ptL_words p inv n) (by unfold maxLen; omega) a0 a1
  rwa [ptL_at p inv hk] at this

set_option maxRecDepth 100000 in
set_option maxHeartbeats 4000000 in
theorem cthree_any (p a b d : Int) (inv : Bool) (y : Option Addr) (c : Nat) (x : Option Addr) (cap : Nat) (w : World) (h : Rdx p 3) (hf : Fine p [a, b, d]) (hw : Words [a, b, d]) (hx : Reads .u64 w w.heap.size x [a, b, d]) (hy : Reads .u64 w w.heap.size y (ptL p inv 3)) :
    Calls Tryd.prog 49 #[.agg #[.int .u64 p, .slice y 3 c], .slice x 3 cap] w (RetNums w (doL p inv [a, b, d])) := by
  rw [do3 h inv hf]
  have H := Lib.hid h.kn
  obtain ⟨p1, p2⟩ := Fp.kn_bd h.kn
  have HW := Lib.hid hw
  obtain ⟨a0, a1⟩ := hw 0
  obtain ⟨b0, b1⟩ := hw 1
  obtain ⟨d0, d1⟩ := hw 2
  simp only [List.getD_cons_zero, List.getD_cons_succ] at a0 a1 b0 b1 d0 d1
  have HX := Lib.hid hx
  obtain ⟨g, off, rfl, hg, hc⟩ := hx (by simp)
  have HB := Lib.hid (below_al (Below.refl _ w) (.cells #[.int .u64 p, .slice y 3 c] 48))
  have HY := Lib.hid ((hy.below HB.out).more HB.out.size)
  have HXW := Lib.hid ((HX.out.below HB.out).more HB.out.size)
  have hp := cir_p w 48 p (.slice y 3 c)
  have hq := cir_l w 48 p (.slice y 3 c)
  have hc0 : (w.alloc (.cells #[.int .u64 p, .slice y 3 c] 48)).cell? ⟨g, off, none⟩ = some (.int .u64 a) := (HB.out.cell (p := ⟨g, off, none⟩) hg).trans (hc 0 (by simp))
  have hc1 : (w.alloc (.cells #[.int .u64 p, .slice y 3 c] 48)).cell? ⟨g, off + 1, none⟩ = some (.int .u64 b) := (HB.out.cell (p := ⟨g, off + 1, none⟩) hg).trans (hc 1 (by simp))
  have hc2 : (w.alloc (.cells #[.int .u64 p, .slice y 3 c] 48)).cell? ⟨g, off + 2, none⟩ = some (.int .u64 d) := (HB.out.cell (p := ⟨g, off + 2, none⟩) hg).trans (hc 2 (by simp))
  have hmx : Tryd.prog.follows .mixedOrders = true := by kernel_rfl
  obtain ⟨u, hu⟩ : ∃ u, u = Fp.mul p (pt p inv 3 1) (Fp.sub p b d) := ⟨_, rfl⟩
  have HU := Lib.hid hu
  rw [← hu]
  have hub : 0 ≤ u ∧ u < 18446744069414584321 := by rw [hu]; exact ⟨(Fp.mul_bd _ _ _).1, (Fp.mul_bd _ _ _).2.1⟩
  have HSB := Lib.hid (fun i j => Fp.sub_bd p i j)
  clear hc hx h hf hw hu HX hy
  go_enter Tryd.func49, Tryd.ntmps49
  go_wp2
  obtain ⟨W, hW⟩ : ∃ W, W = w.alloc (.cells #[.int .u64 p, .slice y 3 c] 48) := ⟨_, rfl⟩
  rw [← hW] at hp hq hc0 hc1 hc2 HB HY HXW ⊢
  clear hW
  have kp := fun s : Since W => s.at hp
  have kq := fun s : Since W => s.at hq
  have k0 := fun s : Since W => s.at hc0
  have k1 := fun s : Since W => s.at hc1
  have k2 := fun s : Since W => s.at hc2
  refine wp_region_since (by kernel_rfl) (by kernel_rfl) ?_
  repeat (go_big_quiet_step (first
    | (go_at_call 61; rename_i s; exact since_call s (cless_any _ _ _ _ _ _ _ (by omega) (by omega) (by omega) (by omega)))
    | (go_at_call 62; rename_i s; exact since_call s (ctpt_any p _ _ inv 3 1 _ _ _ rfl ((HY.out.below s.below).more s.below.size) (by omega) (by omega) (HSB.out _ _).1 (by have := HSB.out b d; omega)))))
  refine wpQuiet_nil ?_
  rw [← HU.out]
  rintro W1 ⟨⟨_, hB1⟩, rfl⟩
  clear kp kq k0 k1 k2
  replace hp := (Since.mk W1 hB1).at hp
  replace hq := (Since.mk W1 hB1).at hq
  replace hc0 := (Since.mk W1 hB1).at hc0
  replace hc1 := (Since.mk W1 hB1).at hc1
  replace hc2 := (Since.mk W1 hB1).at hc2
  dsimp only at hp hq hc0 hc1 hc2
  replace HB := Lib.hid (below_then HB.out hB1)
  replace HXW := Lib.hid ((HXW.out.below hB1).more hB1.size)
  clear hB1 HY
  go_wp2
  have kp := fun s : Since W1 => s.at hp
  have kq := fun s : Since W1 => s.at hq
  have k0 := fun s : Since W1 => s.at hc0
  have k1 := fun s : Since W1 => s.at hc1
  have k2 := fun s : Since W1 => s.at hc2
  have hS0 : Below W1.heap.size W1 W1.drew := draws_below _ W1 1
  refine region_readsL (C := fun w' => ∃ s : Since W1, w' = s.out) [0, 1, 3, 4, 5, 6, 7, 8, 9, 10, 12, 15, 16, 17, 18, 19, 20, 21, 22, 24] hmx (by kernel_rfl) rfl (by kernel_rfl) ⟨⟨_, hS0⟩, rfl⟩ ?_
  simp only [List.map_cons, List.map_nil, List.getD_cons_zero, List.getD_cons_succ]
  repeat (go_big_quiet_step (skip))
  refine wpQuiet_nil ?_
  clear kp kq k0 k1 k2
  show anyC _ _ _ _ _ 27 8 _ _ _
  obtain ⟨W0, hW0⟩ : ∃ W0, W0 = W1.drew := ⟨_, rfl⟩
  rw [← hW0] at hS0 ⊢
  clear hW0
  have HXZ := Lib.hid ((HXW.out.below hS0).more hS0.size)
  refine anyC_one (i := 2) (by kernel_rfl) (wpOp_of_list rfl ?_)
  go_wp2_with (go_at_call 60; refine (cirsum_any p _ _ _ _ _ _ [a, b, d] _ H.out HXZ.out rfl HW.out (by unfold maxLen; simp)).mono ?_; rintro e W2 ⟨rfl, hb2⟩)
  have hS2 := below_then hS0 hb2
  refine ⟨rfl, fun _ => ⟨⟨_, hS2⟩, rfl⟩, ?_⟩
  refine anyC_one (i := 11) (by kernel_rfl) (wpOp_of_list rfl ?_)
  go_wp2_with (go_at_call 61; refine (cless_any _ _ _ _ _ _ _ (by omega) (by omega) (by omega) (by omega)).mono ?_; rintro e W3 ⟨rfl, hb3⟩)
  have hS3 := below_then hS2 hb3
  refine ⟨rfl, fun _ => ⟨⟨_, hS3⟩, rfl⟩, ?_⟩
  refine anyC_one (i := 13) (by kernel_rfl) (wpOp_of_list rfl ?_)
  go_wp2
  have hS4 := below_al hS3 (.cells #[.int .u64 (Fp.sub p a d), .int .u64 u] 22)
  refine ⟨rfl, fun _ => ⟨⟨_, hS4⟩, rfl⟩, ?_⟩
  refine anyC_one (i := 14) (by kernel_rfl) (wpOp_of_list rfl ?_)
  go_wp2_with (go_at_call 60; refine (cirsum_any p _ _ _ _ _ _ [Fp.sub p a d, u] _ H.out (nums_reads _ _ [Fp.sub p a d, u]) rfl (words2 (by have := HSB.out a d; omega) (by omega)) (by unfold maxLen; simp)).mono ?_; rintro e W5 ⟨rfl, hb5⟩)
  have hS5 := below_then hS4 hb5
  refine ⟨rfl, fun _ => ⟨⟨_, hS5⟩, rfl⟩, ?_⟩
  refine anyC_one (i := 23) (by kernel_rfl) (wpOp_of_list rfl ?_)
  go_wp2_with (go_at_call 61; refine (cless_any _ _ _ _ _ _ _ (by omega) (by omega) (by omega) (by omega)).mono ?_; rintro e W6 ⟨rfl, hb6⟩)
  have hS6 := below_then hS5 hb6
  refine ⟨rfl, fun _ => ⟨⟨_, hS6⟩, rfl⟩, ?_⟩
  refine anyC_one (i := 25) (by kernel_rfl) (wpOp_of_list rfl ?_)
  go_wp2_with (go_at_call 61; refine (cless_any _ _ _ _ _ _ _ (HSB.out _ _).1 (by have := HSB.out a b; omega) (by omega) (by omega)).mono ?_; rintro e W7 ⟨rfl, hb7⟩)
  have hS7 := below_then hS6 hb7
  refine ⟨rfl, fun _ => ⟨⟨_, hS7⟩, rfl⟩, ?_⟩
  refine anyC_one (i := 26) (by kernel_rfl) (wpOp_of_list rfl ?_)
  go_wp2
  have hS8 := below_al hS7 (.cells #[.int .u64 (smL p [a, b, d]), .int .u64 (smL p [Fp.sub p a d, u]), .int .u64 (Fp.sub p (Fp.sub p a b) u)] 22)
  refine ⟨rfl, fun _ => ⟨⟨_, hS8⟩, rfl⟩, ?_⟩
  refine anyC_one (i := 27) (by kernel_rfl) (wpOp_of_list rfl ?_)
  go_wp2
  refine ⟨rfl, fun h => absurd rfl h, anyC_end (by kernel_rfl) ⟨rfl, ?_⟩⟩
  go_wp2
  go_ret
  have hz : w.heap.size ≤ W7.heap.size := (below_then HB.out hS7).size
  exact ⟨_, rfl, nums_owns W7 [smL p [a, b, d], smL p [Fp.sub p a d, u], Fp.sub p (Fp.sub p a b) u] _ hz (by unfold maxLen; simp), below_then HB.out hS8⟩

end Go.Proofs.YtmcnamlgbkbiaaaDoor
