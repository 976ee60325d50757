/-
  What fly's methods of a radix come to: two words.
-/
import Derived.Test.YtmcnamlgbkbiaaaDoorCircle
import Derived.Test.YtmcnamlgbkbiaaaDoorReadsL
import Derived.Test.YtmcnamlgbkbiaaaDoorCallHead
import Derived.Test.YtmcnamlgbkbiaaaDoorGate
import Derived.Test.YtmcnamlgbkbiaaaDoorNums
namespace Go.Proofs.YtmcnamlgbkbiaaaDoor
open Go.RowKit Fly

/-- What a call returns that makes a list of words. -/
def RetNums (w : World) (xs : List Int) (e : Ending) (w' : World) : Prop :=
  ∃ v, e = .returned v ∧ Owns .u64 22 w' w.heap.size v xs ∧ Below w.heap.size w w'

set_option maxRecDepth 100000 in
set_option maxHeartbeats 4000000 in
theorem ctwo_any (p a b : Int) (inv : Bool) (y : Option Addr) (c : Nat) (x : Option Addr) (cap : Nat) (w : World) (h : Rdx p 2) (hf : Fine p [a, b]) (hw : Words [a, b]) (hx : Reads .u64 w w.heap.size x [a, b]) :
    Calls Tryd.prog 48 #[.agg #[.int .u64 p, .slice y 2 c], .slice x 2 cap] w (RetNums w (doL p inv [a, b])) := by
  rw [do2 h inv hf]
  have H := Lib.hid h.kn
  have HW := Lib.hid hw
  obtain ⟨a0, a1⟩ := hw 0
  obtain ⟨b0, b1⟩ := hw 1
  simp only [List.getD_cons_zero, List.getD_cons_succ] at a0 a1 b0 b1
  obtain ⟨g, off, rfl, hg, hc⟩ := hx (by simp)
  have HB := Lib.hid (below_al (Below.refl _ w) (.cells #[.int .u64 p, .slice y 2 c] 48))
  have hp := cir_p w 48 p (.slice y 2 c)
  have hq := cir_l w 48 p (.slice y 2 c)
  have hc0 : (w.alloc (.cells #[.int .u64 p, .slice y 2 c] 48)).cell? ⟨g, off, none⟩ = some (.int .u64 a) := (HB.out.cell (p := ⟨g, off, none⟩) hg).trans (hc 0 (by simp))
  have hc1 : (w.alloc (.cells #[.int .u64 p, .slice y 2 c] 48)).cell? ⟨g, off + 1, none⟩ = some (.int .u64 b) := (HB.out.cell (p := ⟨g, off + 1, none⟩) hg).trans (hc 1 (by simp))
  have hmx : Tryd.prog.follows .mixedOrders = true := by kernel_rfl
  clear hc hx h hf hw
  go_enter Tryd.func48, Tryd.ntmps48
  go_wp2
  obtain ⟨W, hW⟩ : ∃ W, W = w.alloc (.cells #[.int .u64 p, .slice y 2 c] 48) := ⟨_, rfl⟩
  rw [← hW] at hp hq hc0 hc1 HB ⊢
  clear hW
  have kp := fun s : Since W => s.below.cell (p := ⟨w.heap.size, 0, none⟩) (World.block_lt_of_cell? _ _ hp) |>.trans hp
  have kq := fun s : Since W => s.below.cell (p := ⟨w.heap.size, 1, none⟩) (World.block_lt_of_cell? _ _ hq) |>.trans hq
  have k0 := fun s : Since W => s.below.cell (p := ⟨g, off, none⟩) (World.block_lt_of_cell? _ _ hc0) |>.trans hc0
  have k1 := fun s : Since W => s.below.cell (p := ⟨g, off + 1, none⟩) (World.block_lt_of_cell? _ _ hc1) |>.trans hc1
  have hS0 : Below W.heap.size W W.drew := draws_below _ W 1
  refine region_readsL (C := fun w' => ∃ s : Since W, w' = s.out) [0, 1, 2, 3, 4, 5, 6, 9, 10, 11, 12, 13, 14, 15] hmx (by kernel_rfl) rfl (by kernel_rfl) ⟨⟨_, hS0⟩, rfl⟩ ?_
  simp only [List.map_cons, List.map_nil, List.getD_cons_zero, List.getD_cons_succ]
  repeat (go_big_quiet_step (skip))
  refine wpQuiet_nil ?_
  clear kp kq k0 k1
  show anyC _ _ _ _ _ 18 5 _ _ _
  obtain ⟨W0, hW0⟩ : ∃ W0, W0 = W.drew := ⟨_, rfl⟩
  rw [← hW0] at hS0 ⊢
  clear hW0
  refine anyC_one (i := 7) (by kernel_rfl) (wpOp_of_list rfl ?_)
  go_wp2
  have hS1 := below_al hS0 (.cells #[.int .u64 a, .int .u64 b] 22)
  refine ⟨rfl, fun _ => ⟨⟨_, hS1⟩, rfl⟩, ?_⟩
  refine anyC_one (i := 8) (by kernel_rfl) (wpOp_of_list rfl ?_)
  go_wp2_with (go_at_call 60; refine (cirsum_any p _ _ _ _ _ _ [a, b] _ H.out (nums_reads _ _ [a, b]) rfl HW.out (by unfold maxLen; simp)).mono ?_; rintro e W2 ⟨rfl, hb2⟩)
  have hS2 := below_then hS1 hb2
  refine ⟨rfl, fun _ => ⟨⟨_, hS2⟩, rfl⟩, ?_⟩
  refine anyC_one (i := 16) (by kernel_rfl) (wpOp_of_list rfl ?_)
  go_wp2_with (go_at_call 61; refine (cless_any _ _ _ _ _ _ _ (by omega) (by omega) (by omega) (by omega)).mono ?_; rintro e W3 ⟨rfl, hb3⟩)
  have hS3 := below_then hS2 hb3
  refine ⟨rfl, fun _ => ⟨⟨_, hS3⟩, rfl⟩, ?_⟩
  refine anyC_one (i := 17) (by kernel_rfl) (wpOp_of_list rfl ?_)
  go_wp2
  have hS4 := below_al hS3 (.cells #[.int .u64 (smL p [a, b]), .int .u64 (Fp.sub p a b)] 22)
  refine ⟨rfl, fun _ => ⟨⟨_, hS4⟩, rfl⟩, ?_⟩
  refine anyC_one (i := 18) (by kernel_rfl) (wpOp_of_list rfl ?_)
  go_wp2
  refine ⟨rfl, fun h => absurd rfl h, anyC_end (by kernel_rfl) ⟨rfl, ?_⟩⟩
  go_wp2
  go_ret
  have hz : w.heap.size ≤ W3.heap.size := (below_then HB.out hS3).size
  exact ⟨_, rfl, nums_owns W3 [smL p [a, b], Fp.sub p a b] _ hz (by unfold maxLen; simp), below_then HB.out hS4⟩

end Go.Proofs.YtmcnamlgbkbiaaaDoor
