/-
  slices.Backward over a slice of axes: a contract of the function value that it hands back, for every loop body that keeps what lay below n0 and the box of the slice.
-/
import Derived.Test.YtmeeldhejbdgjaaDoorGeoms
import Derived.Test.YtmeeldhejbdgjaaDoorGrids
namespace Go.Proofs.YtmeeldhejbdgjaaDoor
open Go.RowKit Go.Shelf

attribute [local go_sem] Oper.semAt_some

theorem backwardA_any (x : Option Addr) (n cap : Nat) (w : World) :
    Calls Tryd.prog 58 #[.slice x n cap] w fun e w' =>
      e = .returned (.func (.func 80) #[] #[.pointer (some ⟨w.heap.size, 0, none⟩)]) ∧ w.alloc (.cells #[.slice x n cap] 23) = w' := by
  go_enter Tryd.func58, Tryd.ntmps58
  go_wp2
  go_ret
  exact ⟨rfl, rfl⟩

set_option maxRecDepth 100000 in
set_option maxHeartbeats 2000000 in
theorem back1A_in (m : Nat) (hm : 1 ≤ m) (l Bs n0 : Nat) (x : Option Addr) (cap : Nat) (xa : List Ax) (hreach : xa.length ≤ 1000000) (J Jx : List (Fin xa.length) → World → Prop)
    (hY : Hid (∀ pre j W, J pre W → pre.length < xa.length → YieldAt Fence.wide (m - 1) Tryd.prog l #[.int .i64 (j.1 : Int), .agg #[.int .i64 (xa.getD j.1 noAx).n, .bool (xa.getD j.1 noAx).neg]] W fun e W' =>
      (e = .returned (.bool true) ∧ J (pre ++ [j]) W' ∧ KeepsBox n0 Bs W W') ∨ (e = .returned (.bool false) ∧ Jx (pre ++ [j]) W')))
    (W : World) (hBs : W.cell? ⟨Bs, 0, none⟩ = some (.slice x xa.length cap)) (hx : Hid (ReadsA W n0 x xa)) (h0 : J [] W) :
    CallsIn Fence.wide m Tryd.prog 80 #[.func (.yield l) #[] #[], .pointer (some ⟨Bs, 0, none⟩)] W fun e W' => (∃ v, e = .returned v) ∧
      ((∃ ys, ys = downTo xa.length xa.length ∧ J ys W') ∨ (∃ pre, (∃ k, k ≤ xa.length ∧ pre = downTo xa.length k) ∧ Jx pre W')) := by
  refine callsIn_of_wp Tryd.func80 rfl trivial ?_ rfl
  simp only [Tryd.ntmps80, List.size_toArray, List.length_cons, List.length_nil, Nat.reduceAdd, Nat.reduceSub, Array.replicate_succ, Array.replicate_zero, List.push_toArray, List.append_toArray, List.nil_append, List.cons_append]
  gi_wp2
  gi_loopw [3] (fun i wr => ∃ k d : Nat, d + k = xa.length ∧ i = .int .i64 ((d : Int) - 1) ∧ J (downTo xa.length k) wr ∧ KeepsBox n0 Bs W wr)
    (fun i _ => (intOf i + 1).toNat)
  case atStart => exact ⟨0, xa.length, by omega, by go_num, h0, KeepsBox.refl _ _ _⟩
  case round =>
    obtain ⟨k, d, hd, rfl, hJs, hnx⟩ := hrel
    have hBx := hnx.cell.trans hBs
    have HD := Lib.hid hd; clear hd
    cases d with
    | zero =>
      rw [show ((0 : Nat) : Int) - 1 = -1 from rfl]
      gi_wp2
      go_end0
      have hk := HD.out
      rw [show k = xa.length by omega] at hJs
      exact ⟨⟨_, rfl⟩, .inl ⟨_, rfl, hJs⟩⟩
    | succ j =>
      rw [show ((j + 1 : Nat) : Int) - 1 = (j : Int) by omega]
      have hj : j < xa.length := by have := HD.out; omega
      obtain ⟨b, off, rfl, hb, hc⟩ := hx.out (by omega)
      have hcx := (hnx.1.cell (p := ⟨b, off + j * 2, none⟩) hb).trans (hc j hj).1
      have hcy := (hnx.1.cell (p := ⟨b, off + j * 2 + 1, none⟩) hb).trans (hc j hj).2
      obtain ⟨fn, tmps, assign, body, hy, hR⟩ := hY.out _ ⟨j, hj⟩ wr hJs (by have := HD.out; rw [downTo_len _ _ (by omega)]; omega)
      dsimp only at hy
      have HE : Hid (downTo xa.length k ++ [⟨j, hj⟩] = downTo xa.length (k + 1)) := Lib.hid (by
        have := HD.out
        rw [downTo_succ _ _ (by omega)]; congr 3; omega)
      obtain ⟨u, hu⟩ : ∃ u, u = (xa.getD j noAx).n := ⟨_, rfl⟩
      obtain ⟨v, hv⟩ : ∃ v, v = (xa.getD j noAx).neg := ⟨_, rfl⟩
      rw [← hu] at hcx hy
      rw [← hv] at hcy hy
      clear hu hv hc
      have hBs' := Lib.hid hBs; clear hBs
      gi_wp2
      refine hR.mono ?_
      rintro e W3 (⟨rfl, hJ3, hk3⟩ | ⟨rfl, hJx3⟩)
      · gi_wp2
        go_roundw
        case rel => exact ⟨k + 1, j, by have := HD.out; omega, rfl, by rw [← HE.out]; exact hJ3, hnx.trans hk3⟩
        case measure => simp [intOf]
      · gi_wp2
        refine bodyPost_ret (results_none rfl _ _ _) rfl ?_
        exact ⟨⟨_, rfl⟩, .inr ⟨_, ⟨k + 1, by have := HD.out; omega, HE.out⟩, hJx3⟩⟩

theorem backA_stops (m : Nat) (hm : 1 ≤ m) (Bs n0 : Nat) (x : Option Addr) (cap : Nat) (xa : List Ax) (hreach : xa.length ≤ 1000000) (w : World) (hB : Bs < w.heap.size) (hn0 : n0 ≤ w.heap.size)
    (hBs : w.cell? ⟨Bs, 0, none⟩ = some (.slice x xa.length cap)) (hx : ReadsA w n0 x xa) :
    SeqStopsK Fence.wide m Tryd.prog 80 #[.pointer (some ⟨Bs, 0, none⟩)] (fun j : Fin xa.length => #[.int .i64 (j.1 : Int), .agg #[.int .i64 (xa.getD j.1 noAx).n, .bool (xa.getD j.1 noAx).neg]]) (KeepsBox n0 Bs)
      (fun ys => ys = downTo xa.length xa.length) (fun pre => ∃ k, k ≤ xa.length ∧ pre = downTo xa.length k) xa.length w := fun l J Jx W hW _ _ hY h0 =>
  back1A_in m hm l Bs n0 x cap xa hreach J Jx (Lib.hid hY) W ((hW.cell (p := ⟨Bs, 0, none⟩) hB).trans hBs) (Lib.hid (hx.below (hW.mono hn0))) h0

end Go.Proofs.YtmeeldhejbdgjaaDoor
