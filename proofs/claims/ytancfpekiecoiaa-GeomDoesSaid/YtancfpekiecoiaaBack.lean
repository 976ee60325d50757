/-
  slices.Backward over a slice of words, or of ints: a contract of the function value that it hands back, for every loop body that keeps what lay below n0.
-/
import Derived.Test.YtancfpekiecoiaaRows2
import Derived.RangeFuncNested
import Derived.RangeFuncBound
import Derived.RangeFuncCalls
import Derived.RangeFuncLeaves
import Derived.Shelf.Abstract
import Derived.Shelf.RegionOpen
import Derived.OwnWalkIn
import Derived.TacticsInMore
import Derived.LoopNIn
import Derived.LoopIn
namespace Go.Proofs.Ytancfpekiecoiaa
open Go.RowKit Go.Shelf

attribute [local go_sem] Oper.semAt_some

/-- The places that have come when k rounds are over: the last one first. -/
def downTo (n k : Nat) : List (Fin n) := (List.finRange n).reverse.take k
theorem downTo_zero (n : Nat) : downTo n 0 = [] := by simp [downTo]
theorem downTo_len (n k : Nat) (h : k ≤ n) : (downTo n k).length = k := by simp [downTo, h]
theorem downTo_succ (n k : Nat) (h : k < n) : downTo n (k + 1) = downTo n k ++ [⟨n - 1 - k, by omega⟩] := by
  unfold downTo
  rw [List.take_succ_eq_append_getElem (by simpa using h)]
  congr 2
  simp [List.getElem_reverse]

theorem backward_any (x : Option Addr) (n cap : Nat) (w : World) :
    Calls Try.prog 29 #[.slice x n cap] w fun e w' =>
      e = .returned (.func (.func 32) #[] #[.pointer (some ⟨w.heap.size, 0, none⟩)]) ∧ w.alloc (.cells #[.slice x n cap] 23) = w' := by
  go_enter Try.func29, Try.ntmps29
  go_wp2
  go_ret
  exact ⟨rfl, rfl⟩

/-- What a round keeps: whatever lies below n0, and the block Bs (the box of the slice that is gone through). -/
def KeepsBox (n0 Bs : Nat) (W W' : World) : Prop := Below n0 W W' ∧ W'.heap[Bs]? = W.heap[Bs]?
theorem KeepsBox.refl (n0 Bs : Nat) (W : World) : KeepsBox n0 Bs W W := ⟨Below.refl _ _, rfl⟩
theorem KeepsBox.trans {n0 Bs : Nat} {A B C : World} (h : KeepsBox n0 Bs A B) (k : KeepsBox n0 Bs B C) : KeepsBox n0 Bs A C := ⟨h.1.trans k.1, k.2.trans h.2⟩
theorem KeepsBox.cell {n0 Bs : Nat} {A B : World} (h : KeepsBox n0 Bs A B) : B.cell? ⟨Bs, 0, none⟩ = A.cell? ⟨Bs, 0, none⟩ := World.cell?_of_block (a := ⟨Bs, 0, none⟩) h.2
theorem keepsBox_b {n0 Bs : Nat} {w : World} (hn : n0 ≤ w.heap.size) (hB : Bs < w.heap.size) : ∀ (W : World) (l : Nat) (o o' : Obj), w.heap.size ≤ l → W.heap[l]? = some o → o.isCells = false → o.isWalk = false → KeepsBox n0 Bs W (W.putObj l o') :=
  fun W l o o' hl h1 h2 h3 => ⟨belowK_b hn W l o o' hl h1 h2 h3, World.putObj_heap_other (by omega)⟩

set_option maxRecDepth 100000 in
set_option maxHeartbeats 2000000 in
theorem back1_in (m : Nat) (hm : 1 ≤ m) (l Bs n0 : Nat) (x : Option Addr) (cap : Nat) (xs : List Int) (hreach : xs.length ≤ 1000000) (J Jx : List (Fin xs.length) → World → Prop)
    (hY : Hid (∀ pre j W, J pre W → pre.length < xs.length → YieldAt Fence.wide (m - 1) Try.prog l #[.int .i64 (j.1 : Int), .int .u64 (xs.getD j.1 0)] W fun e W' =>
      (e = .returned (.bool true) ∧ J (pre ++ [j]) W' ∧ KeepsBox n0 Bs W W') ∨ (e = .returned (.bool false) ∧ Jx (pre ++ [j]) W')))
    (W : World) (hBs : W.cell? ⟨Bs, 0, none⟩ = some (.slice x xs.length cap)) (hx : Hid (Reads .u64 W n0 x xs)) (h0 : J [] W) :
    CallsIn Fence.wide m Try.prog 32 #[.func (.yield l) #[] #[], .pointer (some ⟨Bs, 0, none⟩)] W fun e W' => (∃ v, e = .returned v) ∧
      ((∃ ys, ys = downTo xs.length xs.length ∧ J ys W') ∨ (∃ pre, (∃ k, k ≤ xs.length ∧ pre = downTo xs.length k) ∧ Jx pre W')) := by
  refine callsIn_of_wp Try.func32 rfl trivial ?_ rfl
  simp only [Try.ntmps32, List.size_toArray, List.length_cons, List.length_nil, Nat.reduceAdd, Nat.reduceSub, Array.replicate_succ, Array.replicate_zero, List.push_toArray, List.append_toArray, List.nil_append, List.cons_append]
  gi_wp2
  gi_loopw [3] (fun i wr => ∃ k d : Nat, d + k = xs.length ∧ i = .int .i64 ((d : Int) - 1) ∧ J (downTo xs.length k) wr ∧ KeepsBox n0 Bs W wr)
    (fun i _ => (intOf i + 1).toNat)
  case atStart => exact ⟨0, xs.length, by omega, by go_num, h0, KeepsBox.refl _ _ _⟩
  case round =>
    obtain ⟨k, d, hd, rfl, hJs, hnx⟩ := hrel
    have hBx := hnx.cell.trans hBs
    have HD := Lib.hid hd; clear hd
    cases d with
    | zero =>
      rw [show ((0 : Nat) : Int) - 1 = -1 from rfl]
      gi_wp2
      go_end0
      have hk := HD.out
      rw [show k = xs.length by omega] at hJs
      exact ⟨⟨_, rfl⟩, .inl ⟨_, rfl, hJs⟩⟩
    | succ j =>
      rw [show ((j + 1 : Nat) : Int) - 1 = (j : Int) by omega]
      have hj : j < xs.length := by have := HD.out; omega
      obtain ⟨b, off, rfl, hb, hc⟩ := hx.out (by omega)
      have hcx := (hnx.1.cell (p := ⟨b, off + j, none⟩) hb).trans (hc j hj)
      obtain ⟨fn, tmps, assign, body, hy, hR⟩ := hY.out _ ⟨j, hj⟩ wr hJs (by have := HD.out; rw [downTo_len _ _ (by omega)]; omega)
      dsimp only at hy
      have HE : Hid (downTo xs.length k ++ [⟨j, hj⟩] = downTo xs.length (k + 1)) := Lib.hid (by
        have := HD.out
        rw [downTo_succ _ _ (by omega)]; congr 3; omega)
      obtain ⟨u, hu⟩ : ∃ u, u = xs.getD j 0 := ⟨_, rfl⟩
      rw [← hu] at hcx hy
      clear hu hc
      have hBs' := Lib.hid hBs; clear hBs
      gi_wp2
      refine hR.mono ?_
      rintro e W3 (⟨rfl, hJ3, hk3⟩ | ⟨rfl, hJx3⟩)
      · gi_wp2
        go_roundw
        case rel => exact ⟨k + 1, j, by have := HD.out; omega, rfl, by rw [← HE.out]; exact hJ3, hnx.trans hk3⟩
        case measure => simp [intOf]
      · gi_wp2
        refine bodyPost_ret (results_none rfl _ _ _) rfl ?_
        exact ⟨⟨_, rfl⟩, .inr ⟨_, ⟨k + 1, by have := HD.out; omega, HE.out⟩, hJx3⟩⟩

theorem back_stops (m : Nat) (hm : 1 ≤ m) (Bs n0 : Nat) (x : Option Addr) (cap : Nat) (xs : List Int) (hreach : xs.length ≤ 1000000) (w : World) (hB : Bs < w.heap.size) (hn0 : n0 ≤ w.heap.size)
    (hBs : w.cell? ⟨Bs, 0, none⟩ = some (.slice x xs.length cap)) (hx : Reads .u64 w n0 x xs) :
    SeqStopsK Fence.wide m Try.prog 32 #[.pointer (some ⟨Bs, 0, none⟩)] (fun j : Fin xs.length => #[.int .i64 (j.1 : Int), .int .u64 (xs.getD j.1 0)]) (KeepsBox n0 Bs)
      (fun ys => ys = downTo xs.length xs.length) (fun pre => ∃ k, k ≤ xs.length ∧ pre = downTo xs.length k) xs.length w := fun l J Jx W hW _ _ hY h0 =>
  back1_in m hm l Bs n0 x cap xs hreach J Jx (Lib.hid hY) W ((hW.cell (p := ⟨Bs, 0, none⟩) hB).trans hBs) (Lib.hid (hx.below (hW.mono hn0))) h0

/-! The same over a slice of ints. -/

end Go.Proofs.Ytancfpekiecoiaa
