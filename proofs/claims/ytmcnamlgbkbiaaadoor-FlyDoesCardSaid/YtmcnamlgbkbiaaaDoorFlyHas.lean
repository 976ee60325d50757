/-
  What the laws of layer 15 ask of fly's three functions, in one word; and the chapter's example from that.
-/
import Derived.Test.YtmcnamlgbkbiaaaDoorFlyOne
import Derived.Test.YtmcnamlgbkbiaaaDoorRefPow
import Derived.Test.YtmcnamlgbkbiaaaDoorMul
namespace Go.Proofs.YtmcnamlgbkbiaaaDoor
open Go.RowKit Fly

/-- What Points, Do and Weigh come to, in a world in which G holds. -/
structure FlyHas (G : World → Prop) : Prop where
  keep : ∀ {w w' : World}, G w → Below w.heap.size w w' → G w'
  points : ∀ (p r : Int) (inv : Bool) (w : World), G w → -9223372036854775808 ≤ r ∧ r < 9223372036854775808 →
    Calls Tryd.prog 11 #[.int .u64 p, .int .i64 r, .bool inv] w (RetY w (ptsL p r inv) (ptE p r))
  doo : ∀ (p : Int) (inv : Bool) (x : Option Addr) (n cap : Nat) (xs : List Int) (w : World), G w → Reads .u64 w w.heap.size x xs → xs.length = n → Words xs → n ≤ maxLen →
    Calls Tryd.prog 13 #[.int .u64 p, .bool inv, .slice x n cap] w (RetY w (doL p inv xs) (doE p xs))
  weigh : ∀ (p : Int) (inv : Bool) (x y : Option Addr) (n m cap cap' : Nat) (xs ws : List Int) (w : World), G w → Reads .u64 w w.heap.size x xs → xs.length = n → Words xs → Reads .u64 w w.heap.size y ws → ws.length = m → Words ws → n ≤ maxLen → m ≤ maxLen →
    Calls Tryd.prog 15 #[.int .u64 p, .bool inv, .slice x n cap, .slice y m cap'] w (RetB (.tuple #[.int .u64 (wgV p inv xs ws), .int .i64 (wgE p xs ws)]) w)

namespace Fly
theorem rdx_two : Rdx 998244353 2 := ⟨by decide, by decide, by decide, by decide⟩
theorem do_two : doL 998244353 false [3, 5] = [8, 998244351] := by
  have hf : Fine 998244353 [3, 5] := ⟨rdx_two, fun j hj => by
    have : j = 0 ∨ j = 1 := by simp at hj; omega
    rcases this with rfl | rfl <;> decide⟩
  rw [hf.doL]
  show [doN 998244353 false 2 (el [3, 5]) 0, doN 998244353 false 2 (el [3, 5]) 1] = _
  have e0 : doN 998244353 false 2 (el [3, 5]) 0 = 8 := by rw [doN_first]; rfl
  have e1 : doN 998244353 false 2 (el [3, 5]) 1 = 998244351 := by
    have ht := Fp.Turns.half (m := 1) (rdx_two.turns false)
    rw [Int.pow_succ, Int.pow_zero, Int.one_mul] at ht
    refine same_of ((doN_eqm 1).trans ?_) (doN_bd (by decide) 1) (by decide)
    have e : Fp.fw (root 998244353 false 2) false 2 (el [3, 5]) 1 = 3 + 5 * root 998244353 false 2 := by
      simp [Fp.fw, Fp.sum, el, Fp.ex, Int.pow_succ]
    rw [e]
    exact (Fp.eqm.rfl.add (Fp.eqm.rfl.mul ht)).trans (by unfold Fp.eqm; decide)
  rw [e0, e1]
theorem do_two_ok : doE 998244353 [3, 5] = 0 := by decide
end Fly

theorem two_reads (w : World) (t : TypeId) (a b : Int) : Reads .u64 (w.alloc (.cells #[.int .u64 a, .int .u64 b] t)) (w.heap.size + 1) (some ⟨w.heap.size, 0, none⟩) [a, b] := fun _ =>
  ⟨w.heap.size, 0, rfl, Nat.lt_succ_self _, fun j hj => by
    have : j = 0 ∨ j = 1 := by simp at hj; omega
    rcases this with rfl | rfl <;> simp⟩
theorem words_two {a b : Int} (ha : 0 ≤ a ∧ a < 18446744073709551616) (hb : 0 ≤ b ∧ b < 18446744073709551616) : Words [a, b] := fun j => by
  rcases j with _ | _ | j <;> simp [ha, hb]

set_option maxHeartbeats 1000000 in
theorem live15_any {G : World → Prop} (H : FlyHas G) (w : World) (hG : G w) : Calls Tryd.prog 10 #[] w (RetB (.bool true) w) := by
  have hb0 : Below w.heap.size w (w.alloc (.cells #[.int .u64 3, .int .u64 5] 22)) := (Below.refl _ w).alloc (Nat.le_refl _) _
  have HF := Lib.hid (H.doo 998244353 false (some ⟨w.heap.size, 0, none⟩) 2 2 [3, 5] (w.alloc (.cells #[.int .u64 3, .int .u64 5] 22)) (H.keep hG hb0) ((two_reads w 22 3 5).more (by simp)) rfl (words_two (by omega) (by omega)) (by unfold maxLen; omega))
  rw [do_two, do_two_ok] at HF
  have HB0 := Lib.hid hb0
  clear hb0 hG H
  go_enter Tryd.func10, Tryd.ntmps10
  go_wp2_with (first
    | (go_at_call 13; refine HF.out.mono ?_; rintro e w' ⟨v, rfl, hO, hb⟩; obtain ⟨y, c, rfl, hc1, hc2, hrd, _⟩ := hO.form)
    | (go_at_call 17; refine (same_any y _ 2 2 c 2 [8, 998244351] [8, 998244351] _ (w'.heap.size + 1) ((hrd.below ((Below.refl _ w').alloc (Nat.le_refl _) _)).more (Nat.le_succ _)) (two_reads w' _ 8 998244351) rfl rfl (by omega) (by omega)).mono ?_; rw [decide_eq_true rfl]; rintro e w'' ⟨rfl, nd, rfl⟩))
  go_ret
  exact ⟨rfl, below_draws (below_al (below_then HB0.out hb) _) nd⟩

end Go.Proofs.YtmcnamlgbkbiaaaDoor
