/-
  The example that each law of layer 9 begins with.
-/
import Derived.Test.YtmeeldhejbdgjaaDoorSeedWeight
namespace Go.Proofs.YtmeeldhejbdgjaaDoor
open Go.RowKit Go.Shelf

def exW : Ax := ⟨2, false⟩
theorem exW_axes : Axes 998244353 [exW] := by
  refine ⟨by decide, ⟨by decide, by decide, by decide, by decide⟩, by decide, fun k hk => ?_, fun k hk => ?_⟩
  · obtain rfl : k = 0 := by simp at hk; exact hk
    decide
  · obtain rfl : k = 0 := by simp at hk; exact hk
    unfold axR; decide
theorem exW_num : wtN 998244353 false false 2 1 5 = 998244349 := by
  have hT := Fp.rt_turns (p := 998244353) (by decide) (N := 2 * 1) (by decide) (by omega)
  have hh := hT.half
  unfold wtN
  have e : Fp.sum (fun c => krn 998244353 false false 2 c 1 * 5 ^ c) 2 = 1 + Fp.rt 998244353 (2 * 1) ^ 1 * 5 := by simp [Fp.sum, krn, rtl, Fp.od, Fp.ex]
  have h2 : Fp.eqm 998244353 (1 + Fp.rt 998244353 (2 * 1) ^ 1 * 5) (1 + -1 * 5) := Fp.eqm.rfl.add (hh.mul Fp.eqm.rfl)
  rw [e, Fp.red_of_eqm h2]
  decide
theorem exW_E : wtE 998244353 exW 1 = 0 := wtE_ok exW_axes.zero (by unfold exW; decide)

set_option maxRecDepth 100000 in
set_option maxHeartbeats 1000000 in
theorem live9_any (w : World) (hG : Gl w) : Calls Tryd.prog 7 #[] w (RetB (.bool true) w) := by
  have HW := Lib.hid (Weight_any 998244353 exW false 1 5 w hG (by unfold exW; decide) (by omega) (by omega) (by omega))
  rw [wtR_yes exW_E, exW_E] at HW
  have e : wtN 998244353 exW.neg false exW.n.toNat (1 : Int).toNat 5 = 998244349 := exW_num
  rw [e] at HW
  unfold exW at HW
  dsimp only at HW
  clear hG e
  go_enter Tryd.func7, Tryd.ntmps7
  go_wp2_with (go_at_call 9; refine HW.out.mono ?_; rintro e w1 ⟨rfl, b1⟩)
  go_ret
  exact ⟨rfl, b1⟩

end Go.Proofs.YtmeeldhejbdgjaaDoor
