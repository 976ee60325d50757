/-
  The chapter's example of layer 14.
-/
import Derived.Test.YtpdiilfpbkmebaaCodeFix
import Derived.Test.YtpdiilfpbkmebaaVoteLive
namespace Go.Proofs.Ytpdiilfpbkmebaa
open Go.RowKit

theorem words_small {xs : List Int} (h : ∀ x ∈ xs, 0 ≤ x ∧ x < 18446744073709551616) : Words xs := fun j => by
  by_cases hj : j < xs.length
  · have := h _ (List.getElem_mem hj)
    rw [List.getD_eq_getElem?_getD, List.getElem?_eq_getElem hj]
    exact this
  · rw [List.getD_eq_getElem?_getD, List.getElem?_eq_none (by omega)]; simp

set_option maxHeartbeats 2000000 in
theorem live14_any (w : World) : Calls Try.prog 10 #[] w (RetB (.bool true) w) := by
  have e0 : Cd.sm0 998244353 [3, 1, 2] = 6 := by decide
  have e1 : Cd.sm1 998244353 [3, 1, 2] = 11 := by decide
  have e2 : Cd.smE 998244353 3 = 0 := by decide
  have H1 := Lib.hid (csums_any 998244353 (some ⟨w.heap.size, 0, none⟩) 3 3 [3, 1, 2] (w.alloc (trio .u64 22 3 1 2)) (reads_trio w .u64 22 3 1 2) rfl (words_small (by simp)))
  rw [e0, e1, e2] at H1
  unfold trio RetAr arV at H1
  have hq := fun W => eql_ar 6 11 6 11 W
  unfold arV at hq
  have hqt : (decide ((6 : Int) = 6) && decide ((11 : Int) = 11)) = true := by decide
  rw [hqt] at hq
  have g1 := run_eqGuard_agg (P := Try.prog) (t := 25) (hm := by kernel_rfl)
  clear e0 e1 e2 hqt
  go_enter Try.func10, Try.ntmps10
  go_wp2_with (go_at_call 11; refine H1.out.mono ?_; rintro e w1 ⟨rfl, hB⟩; have k0 := (Ar.new w1 6 11).c0; have k1 := (Ar.new w1 6 11).c1; have B1 := Lib.hid (below_on' (below_al (Below.refl _ w) _) hB); clear hB)
  go_ret
  exact ⟨rfl, below_al B1.out _⟩

end Go.Proofs.Ytpdiilfpbkmebaa
