/-
  The walk of the law RootDoes: it returns true for every numbers, in a world where the table of generators is as its own text lays it; nothing that was there is written.
-/
import Derived.Test.YtabffpokcghnmaaDoorLawRoot
import Derived.Test.YtabffpokcghnmaaDoorRefRoot
namespace Go.Proofs.YtabffpokcghnmaaDoor
open Go.RowKit

set_option maxHeartbeats 1000000 in
set_option maxRecDepth 100000 in
theorem walk_RootDoes (p a n : Int) (_hp : (Lit.int .u64 p).wf = true) (ha : (Lit.int .u64 a).wf = true) (hn : (Lit.int .i64 n).wf = true) (w : World) (hG : Gl w) :
    Calls Tryd.prog 3 #[.int .u64 p, .int .u64 a, .int .i64 n] w fun e w' => e = .returned (.bool true) ∧ Below w.heap.size w w' := by
  obtain ⟨a0, a1⟩ := word_of ha
  have n1 := int_of hn
  clear hn ha
  have HG := Lib.hid hG; clear hG
  obtain ⟨x, hx⟩ : ∃ x, x = rootN p n := ⟨_, rfl⟩
  obtain ⟨er, he⟩ : ∃ er, er = rootE p n := ⟨_, rfl⟩
  obtain ⟨v, hv⟩ : ∃ v, v = backN p n := ⟨_, rfl⟩
  obtain ⟨o, ho⟩ : ∃ o, o = orderB p a n := ⟨_, rfl⟩
  obtain ⟨f, hf⟩ : ∃ f, f = orderE p n := ⟨_, rfl⟩
  have H1 := Lib.hid (fun W G => root_any p n W G n1)
  have H2 := Lib.hid (fun W => rroot_any p n W n1)
  have H3 := Lib.hid (fun W G => back_any p n W G n1)
  have H4 := Lib.hid (fun W => rback_any p n W n1)
  have H5 := Lib.hid (fun W => order_any p a n W a0 a1 n1)
  have H6 := Lib.hid (fun W => rorder_any p a n W a0 a1 n1)
  rw [← hx, ← he] at H1 H2
  rw [← hv, ← he] at H3 H4
  rw [← ho, ← hf] at H5 H6
  clear hx he hv ho hf n1
  go_enter Tryd.func3, Tryd.ntmps3
  go_wp2_with fail
  refine (rlive_any _ HG.out).mono ?_; rintro e w1 ⟨rfl, b1⟩
  go_wp2_with fail
  refine (H1.out _ (HG.out.then b1)).mono ?_; rintro e w2 ⟨rfl, b2⟩
  go_wp2_with fail
  refine (H2.out _).mono ?_; rintro e w' ⟨rfl, d1, rfl⟩
  go_wp2_with fail
  refine (H3.out _ (((HG.out.then b1).then b2).draws d1)).mono ?_; rintro e w3 ⟨rfl, b3⟩
  go_wp2_with fail
  refine (H4.out _).mono ?_; rintro e w' ⟨rfl, d2, rfl⟩
  go_wp2_with fail
  refine (H5.out _).mono ?_; rintro e w' ⟨rfl, d3, rfl⟩
  go_wp2_with fail
  refine (H6.out _).mono ?_; rintro e w' ⟨rfl, d4, rfl⟩
  have b4 := below_then (below_then b1 b2) (below_of_draws b3)
  go_wp2_with fail
  refine (rgen_any _ _ ((HG.out.then b4).draws _)).mono ?_; rintro e w4 ⟨rfl, b5⟩
  go_wp2_with (go_at_call 15; refine (rrgen_any _ _).mono ?_; rintro e w' ⟨rfl, rfl⟩)
  go_ret
  exact ⟨rfl, below_then b4 (below_of_draws b5)⟩

end Go.Proofs.YtabffpokcghnmaaDoor
