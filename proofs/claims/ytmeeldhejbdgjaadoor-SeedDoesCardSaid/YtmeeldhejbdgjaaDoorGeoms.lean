/-
  Several texts in one: Back, MathGeom, GeomSum, GeomEval, GeomRoots, GeomRef.
-/
import Derived.Test.YtmeeldhejbdgjaaDoorRows2
import Derived.Test.YtmeeldhejbdgjaaDoorGround
import Derived.RangeFuncNested
import Derived.RangeFuncBound
import Derived.RangeFuncCalls
import Derived.RangeFuncLeaves
import Derived.Shelf.Abstract
import Derived.Shelf.RegionOpen
import Derived.OwnWalkIn
import Derived.TacticsInMore
import Derived.LoopNIn
import Derived.LoopIn
import Derived.Deep.RegionWith
import Derived.Maps.OwnSet
import Derived.Maps.Views
import Derived.WalkSpells

/-!   slices.Backward over a slice of words, or of ints: a contract of the function value that it hands back, for every loop body that keeps what lay below n0.
-/

namespace Go.Proofs.YtmeeldhejbdgjaaDoor
open Go.RowKit Go.Shelf

attribute [local go_sem] Oper.semAt_some

/-- The places that have come when k rounds are over: the last one first. -/
def downTo (n k : Nat) : List (Fin n) := (List.finRange n).reverse.take k
theorem downTo_zero (n : Nat) : downTo n 0 = [] := by simp [downTo]
theorem downTo_len (n k : Nat) (h : k ≤ n) : (downTo n k).length = k := by simp [downTo, h]
theorem downTo_succ (n k : Nat) (h : k < n) : downTo n (k + 1) = downTo n k ++ [⟨n - 1 - k, by omega⟩] := by
  unfold downTo
  rw [List.take_succ_eq_append_getElem (by simpa using h)]
  congr 2
  simp [List.getElem_reverse]

theorem backward_any (x : Option Addr) (n cap : Nat) (w : World) :
    Calls Tryd.prog 63 #[.slice x n cap] w fun e w' =>
      e = .returned (.func (.func 85) #[] #[.pointer (some ⟨w.heap.size, 0, none⟩)]) ∧ w.alloc (.cells #[.slice x n cap] 24) = w' := by
  go_enter Tryd.func63, Tryd.ntmps63
  go_wp2
  go_ret
  exact ⟨rfl, rfl⟩

/-- What a round keeps: whatever lies below n0, and the block Bs (the box of the slice that is gone through). -/
def KeepsBox (n0 Bs : Nat) (W W' : World) : Prop := Below n0 W W' ∧ W'.heap[Bs]? = W.heap[Bs]?
theorem KeepsBox.refl (n0 Bs : Nat) (W : World) : KeepsBox n0 Bs W W := ⟨Below.refl _ _, rfl⟩
theorem KeepsBox.trans {n0 Bs : Nat} {A B C : World} (h : KeepsBox n0 Bs A B) (k : KeepsBox n0 Bs B C) : KeepsBox n0 Bs A C := ⟨h.1.trans k.1, k.2.trans h.2⟩
theorem KeepsBox.cell {n0 Bs : Nat} {A B : World} (h : KeepsBox n0 Bs A B) : B.cell? ⟨Bs, 0, none⟩ = A.cell? ⟨Bs, 0, none⟩ := World.cell?_of_block (a := ⟨Bs, 0, none⟩) h.2
theorem keepsBox_b {n0 Bs : Nat} {w : World} (hn : n0 ≤ w.heap.size) (hB : Bs < w.heap.size) : ∀ (W : World) (l : Nat) (o o' : Obj), w.heap.size ≤ l → W.heap[l]? = some o → o.isCells = false → o.isWalk = false → KeepsBox n0 Bs W (W.putObj l o') :=
  fun W l o o' hl h1 h2 h3 => ⟨belowK_b hn W l o o' hl h1 h2 h3, World.putObj_heap_other (by omega)⟩

set_option maxRecDepth 100000 in
set_option maxHeartbeats 2000000 in
theorem back1_in (m : Nat) (hm : 1 ≤ m) (l Bs n0 : Nat) (x : Option Addr) (cap : Nat) (xs : List Int) (hreach : xs.length ≤ 1000000) (J Jx : List (Fin xs.length) → World → Prop)
    (hY : Hid (∀ pre j W, J pre W → pre.length < xs.length → YieldAt Fence.wide (m - 1) Tryd.prog l #[.int .i64 (j.1 : Int), .int .u64 (xs.getD j.1 0)] W fun e W' =>
      (e = .returned (.bool true) ∧ J (pre ++ [j]) W' ∧ KeepsBox n0 Bs W W') ∨ (e = .returned (.bool false) ∧ Jx (pre ++ [j]) W')))
    (W : World) (hBs : W.cell? ⟨Bs, 0, none⟩ = some (.slice x xs.length cap)) (hx : Hid (Reads .u64 W n0 x xs)) (h0 : J [] W) :
    CallsIn Fence.wide m Tryd.prog 85 #[.func (.yield l) #[] #[], .pointer (some ⟨Bs, 0, none⟩)] W fun e W' => (∃ v, e = .returned v) ∧
      ((∃ ys, ys = downTo xs.length xs.length ∧ J ys W') ∨ (∃ pre, (∃ k, k ≤ xs.length ∧ pre = downTo xs.length k) ∧ Jx pre W')) := by
  refine callsIn_of_wp Tryd.func85 rfl trivial ?_ rfl
  simp only [Tryd.ntmps85, List.size_toArray, List.length_cons, List.length_nil, Nat.reduceAdd, Nat.reduceSub, Array.replicate_succ, Array.replicate_zero, List.push_toArray, List.append_toArray, List.nil_append, List.cons_append]
  gi_wp2
  gi_loopw [3] (fun i wr => ∃ k d : Nat, d + k = xs.length ∧ i = .int .i64 ((d : Int) - 1) ∧ J (downTo xs.length k) wr ∧ KeepsBox n0 Bs W wr)
    (fun i _ => (intOf i + 1).toNat)
  case atStart => exact ⟨0, xs.length, by omega, by go_num, h0, KeepsBox.refl _ _ _⟩
  case round =>
    obtain ⟨k, d, hd, rfl, hJs, hnx⟩ := hrel
    have hBx := hnx.cell.trans hBs
    have HD := Lib.hid hd; clear hd
    cases d with
    | zero =>
      rw [show ((0 : Nat) : Int) - 1 = -1 from rfl]
      gi_wp2
      go_end0
      have hk := HD.out
      rw [show k = xs.length by omega] at hJs
      exact ⟨⟨_, rfl⟩, .inl ⟨_, rfl, hJs⟩⟩
    | succ j =>
      rw [show ((j + 1 : Nat) : Int) - 1 = (j : Int) by omega]
      have hj : j < xs.length := by have := HD.out; omega
      obtain ⟨b, off, rfl, hb, hc⟩ := hx.out (by omega)
      have hcx := (hnx.1.cell (p := ⟨b, off + j, none⟩) hb).trans (hc j hj)
      obtain ⟨fn, tmps, assign, body, hy, hR⟩ := hY.out _ ⟨j, hj⟩ wr hJs (by have := HD.out; rw [downTo_len _ _ (by omega)]; omega)
      dsimp only at hy
      have HE : Hid (downTo xs.length k ++ [⟨j, hj⟩] = downTo xs.length (k + 1)) := Lib.hid (by
        have := HD.out
        rw [downTo_succ _ _ (by omega)]; congr 3; omega)
      obtain ⟨u, hu⟩ : ∃ u, u = xs.getD j 0 := ⟨_, rfl⟩
      rw [← hu] at hcx hy
      clear hu hc
      have hBs' := Lib.hid hBs; clear hBs
      gi_wp2
      refine hR.mono ?_
      rintro e W3 (⟨rfl, hJ3, hk3⟩ | ⟨rfl, hJx3⟩)
      · gi_wp2
        go_roundw
        case rel => exact ⟨k + 1, j, by have := HD.out; omega, rfl, by rw [← HE.out]; exact hJ3, hnx.trans hk3⟩
        case measure => simp [intOf]
      · gi_wp2
        refine bodyPost_ret (results_none rfl _ _ _) rfl ?_
        exact ⟨⟨_, rfl⟩, .inr ⟨_, ⟨k + 1, by have := HD.out; omega, HE.out⟩, hJx3⟩⟩

theorem back_stops (m : Nat) (hm : 1 ≤ m) (Bs n0 : Nat) (x : Option Addr) (cap : Nat) (xs : List Int) (hreach : xs.length ≤ 1000000) (w : World) (hB : Bs < w.heap.size) (hn0 : n0 ≤ w.heap.size)
    (hBs : w.cell? ⟨Bs, 0, none⟩ = some (.slice x xs.length cap)) (hx : Reads .u64 w n0 x xs) :
    SeqStopsK Fence.wide m Tryd.prog 85 #[.pointer (some ⟨Bs, 0, none⟩)] (fun j : Fin xs.length => #[.int .i64 (j.1 : Int), .int .u64 (xs.getD j.1 0)]) (KeepsBox n0 Bs)
      (fun ys => ys = downTo xs.length xs.length) (fun pre => ∃ k, k ≤ xs.length ∧ pre = downTo xs.length k) xs.length w := fun l J Jx W hW _ _ hY h0 =>
  back1_in m hm l Bs n0 x cap xs hreach J Jx (Lib.hid hY) W ((hW.cell (p := ⟨Bs, 0, none⟩) hB).trans hBs) (Lib.hid (hx.below (hW.mono hn0))) h0

/-! The same over a slice of ints. -/

theorem backwardI_any (x : Option Addr) (n cap : Nat) (w : World) :
    Calls Tryd.prog 42 #[.slice x n cap] w fun e w' =>
      e = .returned (.func (.func 64) #[] #[.pointer (some ⟨w.heap.size, 0, none⟩)]) ∧ w.alloc (.cells #[.slice x n cap] 44) = w' := by
  go_enter Tryd.func42, Tryd.ntmps42
  go_wp2
  go_ret
  exact ⟨rfl, rfl⟩

set_option maxRecDepth 100000 in
set_option maxHeartbeats 2000000 in
theorem back1I_in (m : Nat) (hm : 1 ≤ m) (l Bs n0 : Nat) (x : Option Addr) (cap : Nat) (xs : List Int) (hreach : xs.length ≤ 1000000) (J Jx : List (Fin xs.length) → World → Prop)
    (hY : Hid (∀ pre j W, J pre W → pre.length < xs.length → YieldAt Fence.wide (m - 1) Tryd.prog l #[.int .i64 (j.1 : Int), .int .i64 (xs.getD j.1 0)] W fun e W' =>
      (e = .returned (.bool true) ∧ J (pre ++ [j]) W' ∧ KeepsBox n0 Bs W W') ∨ (e = .returned (.bool false) ∧ Jx (pre ++ [j]) W')))
    (W : World) (hBs : W.cell? ⟨Bs, 0, none⟩ = some (.slice x xs.length cap)) (hx : Hid (Reads .i64 W n0 x xs)) (h0 : J [] W) :
    CallsIn Fence.wide m Tryd.prog 64 #[.func (.yield l) #[] #[], .pointer (some ⟨Bs, 0, none⟩)] W fun e W' => (∃ v, e = .returned v) ∧
      ((∃ ys, ys = downTo xs.length xs.length ∧ J ys W') ∨ (∃ pre, (∃ k, k ≤ xs.length ∧ pre = downTo xs.length k) ∧ Jx pre W')) := by
  refine callsIn_of_wp Tryd.func64 rfl trivial ?_ rfl
  simp only [Tryd.ntmps64, List.size_toArray, List.length_cons, List.length_nil, Nat.reduceAdd, Nat.reduceSub, Array.replicate_succ, Array.replicate_zero, List.push_toArray, List.append_toArray, List.nil_append, List.cons_append]
  gi_wp2
  gi_loopw [3] (fun i wr => ∃ k d : Nat, d + k = xs.length ∧ i = .int .i64 ((d : Int) - 1) ∧ J (downTo xs.length k) wr ∧ KeepsBox n0 Bs W wr)
    (fun i _ => (intOf i + 1).toNat)
  case atStart => exact ⟨0, xs.length, by omega, by go_num, h0, KeepsBox.refl _ _ _⟩
  case round =>
    obtain ⟨k, d, hd, rfl, hJs, hnx⟩ := hrel
    have hBx := hnx.cell.trans hBs
    have HD := Lib.hid hd; clear hd
    cases d with
    | zero =>
      rw [show ((0 : Nat) : Int) - 1 = -1 from rfl]
      gi_wp2
      go_end0
      have hk := HD.out
      rw [show k = xs.length by omega] at hJs
      exact ⟨⟨_, rfl⟩, .inl ⟨_, rfl, hJs⟩⟩
    | succ j =>
      rw [show ((j + 1 : Nat) : Int) - 1 = (j : Int) by omega]
      have hj : j < xs.length := by have := HD.out; omega
      obtain ⟨b, off, rfl, hb, hc⟩ := hx.out (by omega)
      have hcx := (hnx.1.cell (p := ⟨b, off + j, none⟩) hb).trans (hc j hj)
      obtain ⟨fn, tmps, assign, body, hy, hR⟩ := hY.out _ ⟨j, hj⟩ wr hJs (by have := HD.out; rw [downTo_len _ _ (by omega)]; omega)
      dsimp only at hy
      have HE : Hid (downTo xs.length k ++ [⟨j, hj⟩] = downTo xs.length (k + 1)) := Lib.hid (by
        have := HD.out
        rw [downTo_succ _ _ (by omega)]; congr 3; omega)
      obtain ⟨u, hu⟩ : ∃ u, u = xs.getD j 0 := ⟨_, rfl⟩
      rw [← hu] at hcx hy
      clear hu hc
      have hBs' := Lib.hid hBs; clear hBs
      gi_wp2
      refine hR.mono ?_
      rintro e W3 (⟨rfl, hJ3, hk3⟩ | ⟨rfl, hJx3⟩)
      · gi_wp2
        go_roundw
        case rel => exact ⟨k + 1, j, by have := HD.out; omega, rfl, by rw [← HE.out]; exact hJ3, hnx.trans hk3⟩
        case measure => simp [intOf]
      · gi_wp2
        refine bodyPost_ret (results_none rfl _ _ _) rfl ?_
        exact ⟨⟨_, rfl⟩, .inr ⟨_, ⟨k + 1, by have := HD.out; omega, HE.out⟩, hJx3⟩⟩

theorem backI_stops (m : Nat) (hm : 1 ≤ m) (Bs n0 : Nat) (x : Option Addr) (cap : Nat) (xs : List Int) (hreach : xs.length ≤ 1000000) (w : World) (hB : Bs < w.heap.size) (hn0 : n0 ≤ w.heap.size)
    (hBs : w.cell? ⟨Bs, 0, none⟩ = some (.slice x xs.length cap)) (hx : Reads .i64 w n0 x xs) :
    SeqStopsK Fence.wide m Tryd.prog 64 #[.pointer (some ⟨Bs, 0, none⟩)] (fun j : Fin xs.length => #[.int .i64 (j.1 : Int), .int .i64 (xs.getD j.1 0)]) (KeepsBox n0 Bs)
      (fun ys => ys = downTo xs.length xs.length) (fun pre => ∃ k, k ≤ xs.length ∧ pre = downTo xs.length k) xs.length w := fun l J Jx W hW _ _ hY h0 =>
  back1I_in m hm l Bs n0 x cap xs hreach J Jx (Lib.hid hY) W ((hW.cell (p := ⟨Bs, 0, none⟩) hB).trans hBs) (Lib.hid (hx.below (hW.mono hn0))) h0

end Go.Proofs.YtmeeldhejbdgjaaDoor

/-!   Plain mathematics of layer 8: sums of powers, numbers times powers, and how many different numbers make them nothing. No program is named here.
-/

namespace Go.Proofs.YtmeeldhejbdgjaaDoor.Fp

theorem eqm_red {p : Int} (h : kn p = true) (a : Int) : eqm p (red p a) a := by rw [red_kn _ h]; exact eqm_md p a
theorem red_of_eqm {p a b : Int} (h : eqm p a b) : red p a = red p b := by unfold red; rw [show a % p = b % p from h]
theorem eqm_of_red {p a b : Int} (h : kn p = true) (e : red p a = red p b) : eqm p a b := (eqm_red h a).symm.trans (e ▸ eqm_red h b)
theorem add_red (p a b : Int) : add p a b = red p (a + b) := rfl
theorem sub_red (p a b : Int) : sub p a b = red p (a - b) := rfl
theorem eqm_zero {p a : Int} (h : kn p = true) (e : red p a = 0) : eqm p a 0 := eqm_of_red h (by rw [e, red_kn _ h]; simp)
theorem zero_eqm {p a : Int} (h : kn p = true) (e : eqm p a 0) : red p a = 0 := by rw [red_of_eqm e, red_kn _ h]; simp
theorem eqm.sub {p a b c d : Int} (h : eqm p a b) (k : eqm p c d) : eqm p (a - c) (b - d) := by
  rw [Int.sub_eq_add_neg, Int.sub_eq_add_neg]; exact h.add k.neg

/-! Sums of powers. -/
theorem sum_head (f : Nat → Int) : ∀ n : Nat, sum f (n + 1) = f 0 + sum (fun j => f (j + 1)) n
  | 0 => by simp [sum]
  | n + 1 => by rw [sum, sum_head f n, sum]; omega
def gs (z : Int) (n : Nat) : Int := sum (fun k => z ^ k) n
theorem gs_zero (z : Int) : gs z 0 = 0 := rfl
theorem gs_one (z : Int) (n : Nat) : gs z (n + 1) = 1 + z * gs z n := by
  unfold gs
  rw [sum_head, Int.pow_zero, ← sum_mul]
  congr 1
  exact sum_congr fun j _ => by rw [Int.pow_succ, Int.mul_comm]
theorem gs_even (z : Int) : ∀ n : Nat, gs z (2 * n) = (1 + z) * gs (z * z) n
  | 0 => by simp [gs, sum]
  | n + 1 => by
    have e : gs z (2 * (n + 1)) = gs z (2 * n) + z ^ (2 * n) + z ^ (2 * n + 1) := rfl
    have e2 : gs (z * z) (n + 1) = gs (z * z) n + (z * z) ^ n := rfl
    have e3 : (z * z) ^ n = z ^ (2 * n) := by rw [Int.pow_mul, show z ^ 2 = z * z by rw [Int.pow_succ, Int.pow_one]]
    rw [e, e2, e3, gs_even z n, Int.pow_succ]
    grind
theorem gs_add (z : Int) (n : Nat) : ∀ m : Nat, gs z (n + m) = gs z n + z ^ n * gs z m
  | 0 => by simp [gs, sum]
  | m + 1 => by
    have e : gs z (n + (m + 1)) = gs z (n + m) + z ^ (n + m) := rfl
    have e2 : gs z (m + 1) = gs z m + z ^ m := rfl
    rw [e, e2, gs_add z n m, Int.pow_add]
    grind
theorem gs_eqm {p a b : Int} (h : eqm p a b) (n : Nat) : eqm p (gs a n) (gs b n) := sum_mod fun j _ => h.pow j
/-- The sum of the powers 0 to n less 1 of z, by p. -/
def gsum (p z : Int) (n : Nat) : Int := red p (gs z n)
theorem gsum_bd (p z : Int) (n : Nat) : 0 ≤ gsum p z n ∧ gsum p z n < 18446744069414584321 ∧ (kn p = true → gsum p z n < p) := red_bd _ _
section
variable {p : Int} (h : kn p = true)
include h
theorem gsum_zero (z : Int) : gsum p z 0 = 0 := by unfold gsum; rw [gs_zero, red_kn _ h]; simp
theorem gsum_one (z : Int) (n : Nat) : add p 1 (mul p z (gsum p z n)) = gsum p z (n + 1) := by
  unfold gsum
  rw [add_red, gs_one, mul_redr, mul_red]
  exact red_of_eqm (eqm.rfl.add (eqm_red h _))
theorem gsum_even (z : Int) (n : Nat) : mul p (add p 1 z) (gsum p (mul p z z) n) = gsum p z (2 * n) := by
  unfold gsum
  rw [add_red, mul_redl, mul_redr, mul_red, mul_red, gs_even]
  exact red_of_eqm (eqm.rfl.mul (gs_eqm (eqm_red h _) n))
theorem gsum_next (z : Int) (n : Nat) : add p (mul p (gsum p z n) z) 1 = gsum p z (n + 1) := by
  rw [add_comm, mul_comm]; exact gsum_one h z n
theorem gsum_tele (z : Int) (n : Nat) : mul p (gsum p z n) (sub p z 1) = sub p (pw p z n) 1 := by
  unfold gsum pw
  rw [sub_red, sub_red, mul_redl, mul_redr, mul_red]
  refine red_of_eqm ?_
  rw [Int.mul_comm, gs, geo_tele]
  exact (eqm_red h _).symm.sub eqm.rfl
theorem gsum_add (z : Int) (n m : Nat) : add p (gsum p z n) (mul p (pw p z n) (gsum p z m)) = gsum p z (n + m) := by
  unfold gsum pw
  rw [add_red, mul_redl, mul_redr, mul_red, gs_add]
  exact red_of_eqm ((eqm_red h _).add (eqm_red h _))
end

/-! Numbers times powers. -/
def hn (r : Int) : List Int → Int
  | [] => 0
  | a :: l => a + r * hn r l
theorem hn_eqm {p a b : Int} (h : eqm p a b) : ∀ l : List Int, eqm p (hn a l) (hn b l)
  | [] => eqm.rfl
  | _ :: l => eqm.rfl.add (h.mul (hn_eqm h l))
theorem hn_sum (r : Int) : ∀ l : List Int, hn r l = sum (fun j => l.getD j 0 * r ^ j) l.length
  | [] => rfl
  | a :: l => by
    rw [hn, List.length_cons, sum_head, hn_sum r l, ← sum_mul]
    simp only [List.getD_cons_zero, List.getD_cons_succ, Int.pow_zero, Int.mul_one]
    congr 1
    exact sum_congr fun j _ => by rw [Int.pow_succ]; grind
theorem hn_range (r : Int) (f : Nat → Int) (n : Nat) : hn r ((List.range n).map f) = sum (fun j => f j * r ^ j) n := by
  rw [hn_sum, List.length_map, List.length_range]
  exact sum_congr fun j hj => by simp [hj]
/-- The sum of all numbers of xs times powers of r, by p. -/
def ev (p : Int) (xs : List Int) (r : Int) : Int := red p (hn r xs)
theorem ev_bd (p : Int) (xs : List Int) (r : Int) : 0 ≤ ev p xs r ∧ ev p xs r < 18446744069414584321 ∧ (kn p = true → ev p xs r < p) := red_bd _ _
/-- The first k numbers times their powers, by p. -/
def evk (p : Int) (xs : List Int) (r : Int) (k : Nat) : Int := red p (sum (fun j => xs.getD j 0 * r ^ j) k)
theorem evk_bd (p : Int) (xs : List Int) (r : Int) (k : Nat) : 0 ≤ evk p xs r k ∧ evk p xs r k < 18446744069414584321 ∧ (kn p = true → evk p xs r k < p) := red_bd _ _
theorem evk_all (p : Int) (xs : List Int) (r : Int) : evk p xs r xs.length = ev p xs r := by unfold evk ev; rw [hn_sum]
section
variable {p : Int} (h : kn p = true)
include h
theorem ev_nil (r : Int) : ev p [] r = 0 := by unfold ev; rw [hn, red_kn _ h]; simp
theorem ev_cons (a r : Int) (l : List Int) : add p a (mul p r (ev p l r)) = ev p (a :: l) r := by
  unfold ev
  rw [add_red, mul_redr, mul_red, hn]
  exact red_of_eqm (eqm.rfl.add (eqm_red h _))
theorem ev_red (xs : List Int) (r : Int) : ev p xs (red p r) = ev p xs r := red_of_eqm (hn_eqm (eqm_red h r) xs)
theorem evk_zero (xs : List Int) (r : Int) : evk p xs r 0 = 0 := by unfold evk; rw [sum, red_kn _ h]; simp
theorem evk_succ (xs : List Int) (r : Int) (k : Nat) : add p (evk p xs r k) (mul p (xs.getD k 0) (pw p r k)) = evk p xs r (k + 1) := by
  unfold evk pw
  rw [add_red, mul_redr, mul_red, sum]
  exact red_of_eqm ((eqm_red h _).add (eqm_red h _))
/-- Sums of numbers, and numbers times one, go through. -/
theorem ev_lin (c r : Int) (xs ys : List Int) (hl : ys.length = xs.length) : ev p ((List.range xs.length).map fun j => add p (mul p c (xs.getD j 0)) (ys.getD j 0)) r = add p (mul p c (ev p xs r)) (ev p ys r) := by
  unfold ev
  rw [hn_range, hn_sum r xs, hn_sum r ys, hl]
  rw [mul_redr, mul_red, add_red]
  have e : sum (fun j => (c * xs.getD j 0 + ys.getD j 0) * r ^ j) xs.length = c * sum (fun j => xs.getD j 0 * r ^ j) xs.length + sum (fun j => ys.getD j 0 * r ^ j) xs.length := by
    rw [← sum_mul, ← sum_add]
    exact sum_congr fun j _ => by rw [Int.add_mul, Int.mul_assoc]
  refine red_of_eqm ?_
  refine (sum_mod (g := fun j => (c * xs.getD j 0 + ys.getD j 0) * r ^ j) fun j _ => ?_).trans ?_
  · rw [mul_red, add_red]
    exact ((eqm_red h _).trans ((eqm_red h _).add eqm.rfl)).mul eqm.rfl
  · rw [e]
    exact (eqm_red h _).symm.add (eqm_red h _).symm
/-- Of powers of one number it is a sum of powers. -/
theorem ev_pws (c r : Int) (n : Nat) : ev p ((List.range n).map (pw p c)) r = gsum p (mul p c r) n := by
  unfold ev gsum
  rw [hn_range]
  refine red_of_eqm ((sum_mod (g := fun j => (c * r) ^ j) fun j _ => ?_).trans (gs_eqm (p := p) (a := c * r) (b := mul p c r) ?_ n))
  · rw [Int.mul_pow]
    exact (eqm_red h _).mul eqm.rfl
  · rw [mul_red]; exact (eqm_red h _).symm
end

/-! What is left of numbers when one root is taken out. -/
def dv (r : Int) : List Int → List Int
  | [] => []
  | [_] => []
  | _ :: b :: l => hn r (b :: l) :: dv r (b :: l)
theorem dv_len (r : Int) : ∀ l : List Int, (dv r l).length = l.length - 1
  | [] => rfl
  | [_] => rfl
  | _ :: b :: l => by rw [dv, List.length_cons, dv_len r (b :: l)]; simp
theorem dv_is (r s : Int) : ∀ l : List Int, hn s l - hn r l = (s - r) * hn s (dv r l)
  | [] => by simp [hn, dv]
  | [a] => by simp [hn, dv]
  | a :: b :: l => by
    have e := dv_is r s (b :: l)
    show a + s * hn s (b :: l) - (a + r * hn r (b :: l)) = (s - r) * (hn r (b :: l) + s * hn s (dv r (b :: l)))
    grind
theorem dv_zero {p r : Int} : ∀ l : List Int, eqm p (hn r l) 0 → (∀ x ∈ dv r l, eqm p x 0) → ∀ x ∈ l, eqm p x 0
  | [], _, _ => by simp
  | [a], h, _ => by
    intro x hx
    obtain rfl : x = a := by simpa using hx
    simpa [hn] using h
  | a :: b :: l, h, hd => by
    have h1 : eqm p (hn r (b :: l)) 0 := hd _ (by rw [dv]; simp)
    have h2 := dv_zero (b :: l) h1 (fun x hx => hd x (by rw [dv]; simp [hx]))
    intro x hx
    rcases List.mem_cons.1 hx with rfl | hx
    · rw [hn] at h
      have h3 := (eqm.rfl (p := p) (a := r)).mul h1
      rw [Int.mul_zero] at h3
      have h4 := h.sub h3
      rwa [Int.add_sub_cancel, Int.sub_zero] at h4
    · exact h2 x hx
/-- Numbers with as many different roots as numbers are all nothing. -/
theorem roots_all {p : Int} (h : kn p = true) : ∀ (rs l : List Int), l.length ≤ rs.length → rs.Pairwise (fun a b => ¬ eqm p a b) → (∀ r ∈ rs, eqm p (hn r l) 0) → ∀ x ∈ l, eqm p x 0
  | [], l, hl, _, _ => by
    obtain rfl : l = [] := List.length_eq_zero_iff.1 (by simpa using hl)
    simp
  | r :: rs, l, hl, hp, hr => by
    have h0 := hr r (by simp)
    refine dv_zero l h0 (roots_all h rs (dv r l) (by rw [dv_len]; simp at hl; omega) (List.pairwise_cons.1 hp).2 fun s hs => ?_)
    have h1 := (hr s (by simp [hs])).sub h0
    rw [Int.sub_zero, dv_is] at h1
    rcases eqm_mul_zero h h1 with h2 | h2
    · exact absurd (eqm_zero_sub h2).symm ((List.pairwise_cons.1 hp).1 s hs)
    · exact h2

/-! Which seeds are roots, each different one once. -/
/-- Was the seed at place k there before, by p? -/
def met (p : Int) (ss : List Int) (k : Nat) : Bool := (List.range k).any fun j => red p (ss.getD j 0) == red p (ss.getD k 0)
/-- The different roots among the first k seeds. -/
def rl (p : Int) (xs ss : List Int) : Nat → List Int
  | 0 => []
  | k + 1 => if (ev p xs (ss.getD k 0) == 0 && !met p ss k) = true then rl p xs ss k ++ [red p (ss.getD k 0)] else rl p xs ss k
/-- How many. -/
def rts (p : Int) (xs ss : List Int) (k : Nat) : Nat := (rl p xs ss k).length
theorem rts_zero (p : Int) (xs ss : List Int) : rts p xs ss 0 = 0 := rfl
theorem rts_succ (p : Int) (xs ss : List Int) (k : Nat) : rts p xs ss (k + 1) = rts p xs ss k + if (ev p xs (ss.getD k 0) == 0 && !met p ss k) = true then 1 else 0 := by
  unfold rts; rw [rl]; split <;> simp
theorem rts_le (p : Int) (xs ss : List Int) : ∀ k, rts p xs ss k ≤ k
  | 0 => Nat.le_refl _
  | k + 1 => by rw [rts_succ]; have := rts_le p xs ss k; split <;> omega
theorem rl_mem {p : Int} {xs ss : List Int} : ∀ (k : Nat) (x : Int), x ∈ rl p xs ss k → (∃ j, j < k ∧ x = red p (ss.getD j 0)) ∧ ev p xs x = 0 ∨ kn p = false
  | 0, x, hx => by simp [rl] at hx
  | k + 1, x, hx => by
    cases h : kn p
    · exact .inr rfl
    left
    rw [rl] at hx
    split at hx
    · rename_i hc
      rcases List.mem_append.1 hx with hx | hx
      · rcases rl_mem k x hx with ⟨⟨j, hj, e⟩, h0⟩ | h'
        · exact ⟨⟨j, by omega, e⟩, h0⟩
        · rw [h] at h'; cases h'
      · obtain rfl : x = red p (ss.getD k 0) := by simpa using hx
        refine ⟨⟨k, by omega, rfl⟩, ?_⟩
        rw [ev_red h]
        simp only [Bool.and_eq_true, beq_iff_eq] at hc
        exact hc.1
    · rcases rl_mem k x hx with ⟨⟨j, hj, e⟩, h0⟩ | h'
      · exact ⟨⟨j, by omega, e⟩, h0⟩
      · rw [h] at h'; cases h'
theorem rl_apart {p : Int} (h : kn p = true) {xs ss : List Int} : ∀ k, (rl p xs ss k).Pairwise (fun a b => ¬ eqm p a b)
  | 0 => List.Pairwise.nil
  | k + 1 => by
    rw [rl]
    split
    · rename_i hc
      refine List.pairwise_append.2 ⟨rl_apart h k, List.pairwise_singleton _ _, fun x hx y hy e => ?_⟩
      obtain rfl : y = red p (ss.getD k 0) := by simpa using hy
      rcases rl_mem k x hx with ⟨⟨j, hj, rfl⟩, _⟩ | h'
      · have e2 : red p (ss.getD j 0) = red p (ss.getD k 0) := by have := red_of_eqm e; rwa [red_red, red_red] at this
        simp only [Bool.and_eq_true, Bool.not_eq_true', met, List.any_eq_false, List.mem_range, beq_iff_eq] at hc
        exact hc.2 j hj e2
      · rw [h] at h'; cases h'
    · exact rl_apart h k
/-- Fewer roots than numbers, unless these are nothing. -/
theorem rts_lt {p : Int} (h : kn p = true) {xs ss : List Int} {k j : Nat} (hj : j < xs.length) (hne : red p (xs.getD j 0) ≠ 0) : rts p xs ss k < xs.length := by
  rcases Nat.lt_or_ge (rts p xs ss k) xs.length with h1 | h1
  · exact h1
  · exfalso
    have := roots_all h (rl p xs ss k) xs h1 (rl_apart h k) (fun r hr => by
      rcases rl_mem k r hr with ⟨_, h0⟩ | h'
      · exact eqm_zero h h0
      · rw [h] at h'; cases h') xs[j] (List.getElem_mem hj)
    refine hne (zero_eqm h ?_)
    simpa [hj] using this
theorem rts_mono {p : Int} (h : kn p = true) {xs ss : List Int} : ∀ k, rts p xs ss k ≤ rts p [] ss k
  | 0 => Nat.le_refl _
  | k + 1 => by
    rw [rts_succ, rts_succ, ev_nil h]
    have := rts_mono h (xs := xs) (ss := ss) k
    cases met p ss k
    · simp only [Bool.not_false, Bool.and_true]
      split <;> simp <;> omega
    · simpa using this
theorem ev_noughts {p : Int} (h : kn p = true) {xs : List Int} (hz : ∀ j, j < xs.length → red p (xs.getD j 0) = 0) (r : Int) : ev p xs r = 0 := by
  unfold ev
  rw [hn_sum]
  refine zero_eqm h ((sum_mod (g := fun _ => 0) fun j hj => ?_).trans (eqm.of (sum_zero _)))
  have := (eqm_zero h (hz j hj)).mul (eqm.rfl (p := p) (a := r ^ j))
  rwa [Int.zero_mul] at this
theorem rts_noughts {p : Int} (h : kn p = true) {xs ss : List Int} (hz : ∀ j, j < xs.length → red p (xs.getD j 0) = 0) : ∀ k, rts p xs ss k = rts p [] ss k
  | 0 => rfl
  | k + 1 => by rw [rts_succ, rts_succ, ev_nil h, ev_noughts h hz, rts_noughts h hz k]

end Go.Proofs.YtmeeldhejbdgjaaDoor.Fp

/-!   What geom.Sum comes to, over every input: the sum of powers by a prime, or why not; and the chapter's example.
-/

namespace Go.Proofs.YtmeeldhejbdgjaaDoor
open Go.RowKit

set_option maxHeartbeats 1000000 in
theorem gsum_any (p : Int) (h : Fp.kn p = true) : ∀ (n : Nat) (z : Int) (w : World), 0 ≤ z → z < 18446744073709551616 → n ≤ 65536 →
    Calls Tryd.prog 71 #[.int .u64 p, .int .u64 z, .int .i64 (n : Int)] w (RetQ (.int .u64 (Fp.gsum p z n)) w) := by
  intro n
  induction n using Nat.strongRecOn with
  | _ n ih =>
    intro z w z0 z1 hn
    have IH := Lib.hid ih; clear ih
    have H := Lib.hid h; clear h
    by_cases h0 : n = 0
    · subst h0
      have he := Lib.hid (Fp.gsum_zero H.out z)
      go_enter Tryd.func71, Tryd.ntmps71
      go_wp2
      go_ret
      exact ⟨ret_u64 he.out.symm, 0, rfl⟩
    · have d0 : ((n : Int) == 0) = false := beq_eq_false_iff_ne.2 (by omega)
      by_cases h1 : n % 2 = 1
      · obtain ⟨m, rfl⟩ : ∃ m, n = m + 1 := ⟨n - 1, by omega⟩
        have e1 : (((m + 1 : Nat) : Int)).tmod 2 = 1 := by rw [Int.tmod_eq_emod_of_nonneg (by omega)]; omega
        have e2 : ((m + 1 : Nat) : Int) - 1 = (m : Int) := by omega
        have he := Lib.hid (Fp.gsum_one H.out z m)
        obtain ⟨v0, v1, -⟩ := Fp.gsum_bd p z m
        obtain ⟨u0, u1, -⟩ := Fp.mul_bd p z (Fp.gsum p z m)
        go_enter Tryd.func71, Tryd.ntmps71
        go_wp2_with (first
          | (go_at_call 71; refine (IH.out m (by omega) z _ z0 z1 (by omega)).mono ?_; rintro e w' ⟨rfl, n1, rfl⟩)
          | (go_at_call 24; refine (mul_any _ _ _ _ (by omega) (by omega) v0 (by omega)).mono ?_; rintro e w' ⟨rfl, n2, rfl⟩)
          | (go_at_call 25; refine (add_any _ _ _ _ (by omega) (by omega) (by omega) (by omega)).mono ?_; rintro e w' ⟨rfl, n3, rfl⟩))
        go_ret
        exact ⟨ret_u64 he.out, _, rfl⟩
      · obtain ⟨m, rfl⟩ : ∃ m, n = 2 * m := ⟨n / 2, by omega⟩
        have e1 : (((2 * m : Nat) : Int)).tmod 2 = 0 := by rw [Int.tmod_eq_emod_of_nonneg (by omega)]; omega
        have e2 : (((2 * m : Nat) : Int)).tdiv 2 = (m : Int) := by rw [Int.tdiv_eq_ediv_of_nonneg (by omega)]; omega
        have he := Lib.hid (Fp.gsum_even H.out z m)
        obtain ⟨a0, a1, -⟩ := Fp.add_bd p 1 z
        obtain ⟨u0, u1, -⟩ := Fp.mul_bd p z z
        obtain ⟨v0, v1, -⟩ := Fp.gsum_bd p (Fp.mul p z z) m
        go_enter Tryd.func71, Tryd.ntmps71
        go_wp2_with (first
          | (go_at_call 71; refine (IH.out m (by omega) _ _ u0 (by omega) (by omega)).mono ?_; rintro e w' ⟨rfl, n1, rfl⟩)
          | (go_at_call_of 24 (Value.int .u64 (Fp.add p 1 z)); refine (mul_any _ _ _ _ a0 (by omega) v0 (by omega)).mono ?_; rintro e w' ⟨rfl, n2, rfl⟩)
          | (go_at_call 24; refine (mul_any _ _ _ _ z0 z1 z0 z1).mono ?_; rintro e w' ⟨rfl, n2, rfl⟩)
          | (go_at_call 25; refine (add_any _ _ _ _ (by omega) (by omega) (by omega) (by omega)).mono ?_; rintro e w' ⟨rfl, n3, rfl⟩))
        go_ret
        exact ⟨ret_u64 he.out, _, rfl⟩

/-- What is wrong with a prime and how many there are to be. -/
def sumE (p n : Int) : Int := if Fp.kn p = true then if n < 0 ∨ 65536 < n then 1 else 0 else 2
/-- The sum, or 0. -/
def sumN (p z n : Int) : Int := if sumE p n = 0 then Fp.gsum p z n.toNat else 0
theorem sumE_ok {p n : Int} (h : Fp.kn p = true) (h0 : 0 ≤ n) (h1 : n ≤ 65536) : sumE p n = 0 := by unfold sumE; rw [if_pos h, if_neg (by omega)]
theorem sumE_no {p n : Int} (h : Fp.kn p = false) : sumE p n = 2 := by unfold sumE; rw [if_neg (by simp [h])]
theorem sumE_bad {p n : Int} (h : Fp.kn p = true) (hn : n < 0 ∨ 65536 < n) : sumE p n = 1 := by unfold sumE; rw [if_pos h, if_pos hn]
theorem sumN_ok {p z n : Int} (h : sumE p n = 0) : sumN p z n = Fp.gsum p z n.toNat := by unfold sumN; rw [if_pos h]
theorem sumN_no {p z n : Int} (h : sumE p n ≠ 0) : sumN p z n = 0 := by unfold sumN; rw [if_neg h]
theorem sumN_bd (p z n : Int) : 0 ≤ sumN p z n ∧ sumN p z n < 18446744069414584321 := by
  unfold sumN; split
  · obtain ⟨a, b, -⟩ := Fp.red_bd p (Fp.gs z n.toNat); exact ⟨a, b⟩
  · omega

set_option maxRecDepth 100000 in
set_option maxHeartbeats 1000000 in
theorem Sum_any (p z n : Int) (w : World) (z0 : 0 ≤ z) (z1 : z < 18446744073709551616) (n0 : -9223372036854775808 ≤ n) (n1 : n < 9223372036854775808) :
    Calls Tryd.prog 50 #[.int .u64 p, .int .u64 z, .int .i64 n] w (RetQ (.tuple #[.int .u64 (sumN p z n), .int .i64 (sumE p n)]) w) := by
  cases h : Fp.kn p
  · rw [sumN_no (by rw [sumE_no h]; decide), sumE_no h]
    have H := Lib.hid h; clear h
    go_enter Tryd.func50, Tryd.ntmps50
    go_wp2_with (go_at_call 39; refine (known_no p _ H.out).mono ?_; rintro e w' ⟨rfl, rfl⟩)
    go_ret2
    exact ⟨rfl, 0, rfl⟩
  · by_cases hb : n < 0 ∨ 65536 < n
    · rw [sumN_no (by rw [sumE_bad h hb]; decide), sumE_bad h hb]
      have H := Lib.hid h; clear h
      by_cases h0 : n < 0
      · go_enter Tryd.func50, Tryd.ntmps50
        go_wp2_with (go_at_call 39; refine (known_yes p _ H.out).mono ?_; rintro e w' ⟨rfl, rfl⟩)
        go_ret2
        exact ⟨rfl, 0, rfl⟩
      · have h1 : 65536 < n := by omega
        clear hb
        go_enter Tryd.func50, Tryd.ntmps50
        go_wp2_with (go_at_call 39; refine (known_yes p _ H.out).mono ?_; rintro e w' ⟨rfl, rfl⟩)
        go_ret2
        exact ⟨rfl, 0, rfl⟩
    · have hE := sumE_ok (n := n) h (by omega) (by omega)
      rw [sumN_ok hE, hE]
      obtain ⟨m, rfl⟩ := Int.eq_ofNat_of_zero_le (by omega : 0 ≤ n)
      have hm : m ≤ 65536 := by omega
      rw [show ((m : Int)).toNat = m from Int.toNat_natCast m]
      have H := Lib.hid h
      clear hb hE h n0 n1
      go_enter Tryd.func50, Tryd.ntmps50
      go_wp2_with (first
        | (go_at_call 39; refine (known_yes p _ H.out).mono ?_; rintro e w' ⟨rfl, rfl⟩)
        | (go_at_call 71; refine (gsum_any p H.out m z _ z0 z1 hm).mono ?_; rintro e w' ⟨rfl, n1, rfl⟩))
      go_ret2
      exact ⟨rfl, _, rfl⟩

end Go.Proofs.YtmeeldhejbdgjaaDoor

/-!   What geom.Eval comes to, over every input: the sum of all numbers times powers by a prime, or why not. Numbers are gone through from the last one on (slices.Backward).
-/

namespace Go.Proofs.YtmeeldhejbdgjaaDoor
open Go.RowKit Go.Shelf

attribute [local go_sem] Oper.semAt_some

/-- What stands in the sum when the places js have come. -/
def evs (p r : Int) (xs : List Int) (js : List (Fin xs.length)) : Int := js.foldl (fun t j => Fp.add p (xs.getD j.1 0) (Fp.mul p r t)) 0
theorem evs_snoc (p r : Int) (xs : List Int) (js : List (Fin xs.length)) (j : Fin xs.length) : evs p r xs (js ++ [j]) = Fp.add p (xs.getD j.1 0) (Fp.mul p r (evs p r xs js)) := by simp [evs]
theorem evs_bd (p r : Int) (xs : List Int) (js : List (Fin xs.length)) : 0 ≤ evs p r xs js ∧ evs p r xs js < 18446744069414584321 := by
  have : ∀ (l : List (Fin xs.length)) (t : Int), 0 ≤ t ∧ t < 18446744069414584321 → 0 ≤ l.foldl (fun t j => Fp.add p (xs.getD j.1 0) (Fp.mul p r t)) t ∧ l.foldl (fun t j => Fp.add p (xs.getD j.1 0) (Fp.mul p r t)) t < 18446744069414584321 := by
    intro l
    induction l with
    | nil => intro t h; exact h
    | cons j l ih => intro t _; obtain ⟨a, b, -⟩ := Fp.add_bd p (xs.getD j.1 0) (Fp.mul p r t); exact ih _ ⟨a, b⟩
  exact this js 0 (by omega)
theorem evs_down {p : Int} (h : Fp.kn p = true) (r : Int) (xs : List Int) : ∀ k, k ≤ xs.length → evs p r xs (downTo xs.length k) = Fp.ev p (xs.drop (xs.length - k)) r
  | 0, _ => by rw [downTo_zero, Nat.sub_zero, List.drop_length, Fp.ev_nil h]; rfl
  | k + 1, hk => by
    rw [downTo_succ _ _ (by omega), evs_snoc, evs_down h r xs k (by omega)]
    have hlt : xs.length - (k + 1) < xs.length := by omega
    rw [List.drop_eq_getElem_cons hlt, ← Fp.ev_cons h]
    have e1 : xs.length - 1 - k = xs.length - (k + 1) := by omega
    have e2 : xs.length - (k + 1) + 1 = xs.length - k := by omega
    simp only [e1, e2]
    simp [hlt]
theorem evs_all {p : Int} (h : Fp.kn p = true) (r : Int) (xs : List Int) : evs p r xs (downTo xs.length xs.length) = Fp.ev p xs r := by
  rw [evs_down h r xs _ (Nat.le_refl _), Nat.sub_self, List.drop_zero]

/-- Between two rounds, the places js having come: the boxes of p, of r and of the sum. -/
def EvInv (p r : Int) (xs : List Int) (w : World) (js : List (Fin xs.length)) (W : World) : Prop :=
  Boxed W w.heap.size 22 (.int .u64 p) ∧ Boxed W (w.heap.size + 1) 22 (.int .u64 r) ∧ Boxed W (w.heap.size + 2) 22 (.int .u64 (evs p r xs js)) ∧ Below w.heap.size w W

theorem EvInv.own {p r : Int} {xs : List Int} {w : World} {B : Nat} (hB : w.heap.size ≤ B) : OwnFrom B (EvInv p r xs w) := by
  rintro js W W' row ⟨h1, h2, h3, h5⟩ hg hr
  have hr' : ∀ r, row = some r → ∃ o : Obj, W.heap[r]? = some o ∧ o.isCells = false := fun r e => (hr r e).2
  exact ⟨boxed_stays h1 hg hr', boxed_stays h2 hg hr', boxed_stays h3 hg hr', h5.grown hg h5.size (fun k e => Nat.le_trans hB (hr k e).1)⟩

theorem EvInv.step {p r : Int} {xs : List Int} {w W : World} {js : List (Fin xs.length)} (h : EvInv p r xs w js W) {i : Nat} (hi : i < xs.length) {t a : Int} (ht : t = evs p r xs js) (ha : a = xs.getD i 0) (n1 : Nat) :
    EvInv p r xs w (js ++ [⟨i, hi⟩]) ((W.drewN n1).setCell ⟨w.heap.size + 2, 0, none⟩ (.int .u64 (Fp.add p a (Fp.mul p r t)))) := by
  obtain ⟨b1, b2, b3, b5⟩ := h
  have e1 : evs p r xs (js ++ [⟨i, hi⟩]) = Fp.add p a (Fp.mul p r t) := by rw [evs_snoc, ht, ha]
  refine ⟨boxed_set (W := W.drewN n1) b1 _ (by show w.heap.size ≠ w.heap.size + 2; omega), boxed_set (W := W.drewN n1) b2 _ (by show w.heap.size + 1 ≠ w.heap.size + 2; omega), ?_, ?_⟩
  · rw [e1]
    have b4 : Boxed (W.drewN n1) (w.heap.size + 2) 22 (.int .u64 (evs p r xs js)) := b3
    exact b4.set _
  · exact (below_draws b5 n1).setCell (p := ⟨w.heap.size + 2, 0, none⟩) (by show _ ≤ w.heap.size + 2; omega) _

set_option maxRecDepth 100000 in
set_option maxHeartbeats 2000000 in
theorem geval_any (p r : Int) (x : Option Addr) (n cap : Nat) (xs : List Int) (w : World) (h : Fp.kn p = true) (hx : Reads .u64 w w.heap.size x xs) (hn : xs.length = n) (hw : Words xs) (hl : n ≤ 65536) (r0 : 0 ≤ r) (r1 : r < 18446744073709551616) :
    Calls Tryd.prog 40 #[.int .u64 p, .slice x n cap, .int .u64 r] w (RetB (.int .u64 (Fp.ev p xs r)) w) := by
  subst hn
  have H := Lib.hid h; clear h
  have HX := Lib.hid hx; clear hx
  have HW := Lib.hid hw; clear hw
  refine (callsIn_wide (n := 3)).1 ?_
  refine callsIn_of_wp_marks Tryd.func40 rfl trivial ?_ rfl
  simp only [Tryd.ntmps40, List.size_toArray, List.length_cons, List.length_nil, Nat.reduceAdd, Nat.reduceSub, Array.replicate_succ, Array.replicate_zero, List.push_toArray, List.append_toArray, List.nil_append, List.cons_append]
  gi_wp2
  obtain ⟨W2, hW2⟩ : ∃ W2, ((w.alloc (.cells #[.int .u64 p] 22)).alloc (.cells #[.int .u64 r] 22)).alloc (.cells #[.int .u64 0] 22) = W2 := ⟨_, rfl⟩
  have hI0 : EvInv p r xs w [] W2 ∧ W2.heap.size = w.heap.size + 3 := by
    rw [← hW2]
    have s1 : (w.alloc (.cells #[.int .u64 p] 22)).heap.size = w.heap.size + 1 := World.size_alloc _ _
    have s2 : ((w.alloc (.cells #[.int .u64 p] 22)).alloc (.cells #[.int .u64 r] 22)).heap.size = w.heap.size + 2 := by rw [World.size_alloc, s1]
    have c2 := Boxed.new (w.alloc (.cells #[.int .u64 p] 22)) 22 (.int .u64 r)
    have c3 := Boxed.new ((w.alloc (.cells #[.int .u64 p] 22)).alloc (.cells #[.int .u64 r] 22)) 22 (.int .u64 0)
    rw [s1] at c2
    rw [s2] at c3
    have d1 := below_al (Below.refl _ w) (.cells #[.int .u64 p] 22)
    exact ⟨⟨((Boxed.new w 22 _).alloc _).alloc _, c2.alloc _, c3, below_al (below_al d1 _) _⟩, by rw [World.size_alloc, s2]⟩
  obtain ⟨hI, hs2⟩ := hI0
  rw [hW2]
  have HX2 := Lib.hid ((HX.out.below hI.2.2.2))
  have HS2 := Lib.hid hs2
  clear hW2 hs2
  refine ⟨trivial, (callsIn_wide.2 (backward_any _ _ _ _)).mono ?_⟩
  rintro e W3 ⟨rfl, rfl⟩
  have bS := Boxed.new W2 24 (.slice x xs.length cap)
  have hI3 : EvInv p r xs w [] (W2.alloc (.cells #[.slice x xs.length cap] 24)) := (EvInv.own (B := w.heap.size) (Nat.le_refl _)).alloc _ hI
  have hX3 : Reads .u64 (W2.alloc (.cells #[.slice x xs.length cap] 24)) w.heap.size x xs := (HX2.out).below ((Below.refl _ W2).alloc hI.2.2.2.size _)
  have hlt3 : W2.heap.size < (W2.alloc (.cells #[.slice x xs.length cap] 24)).heap.size := by simp
  gi_wp2
  refine wpIn_rangeFunc_ownG rfl (by omega) (gf := 85) (lb := #[.pointer (some ⟨W2.heap.size, 0, none⟩)]) rfl trivial (enters_of Tryd.func85 (by kernel_rfl) rfl)
    (back_stops 2 (by omega) W2.heap.size w.heap.size x cap xs (by omega) _ hlt3 hI3.2.2.2.size bS.cell hX3) KeepsBox.trans (keepsBox_b hI3.2.2.2.size hlt3) (Below.refl _ _) (fun _ => rfl)
    (EvInv p r xs w) (fun _ _ _ => False) (EvInv.own (hI3.2.2.2.size)) (fun _ _ _ _ _ hs _ _ => hs) hI3 ?a1 ?assign ?body ?done ?stop
  case assign =>
    intro l j W K hK
    gi_wp2
    exact hK
  case body =>
    rintro l js ⟨i, hi⟩ W hJ hlj
    have hJ' := hJ
    obtain ⟨hp, hr, ht, hb⟩ := hJ'
    have cP := hp.cell
    have cR := hr.cell
    have cT := ht.cell
    have fT := ht.frozen
    obtain ⟨t0, t1⟩ := evs_bd p r xs js
    obtain ⟨t, ht'⟩ : ∃ t, t = evs p r xs js := ⟨_, rfl⟩
    rw [← ht'] at cT t0 t1
    obtain ⟨a0, a1⟩ := HW.out i
    obtain ⟨a, ha'⟩ : ∃ a, a = xs.getD i 0 := ⟨_, rfl⟩
    rw [← ha'] at a0 a1
    have ha2 : xs[i] = a := by rw [ha']; simp [hi]
    show Code.wpIn _ _ _ _ _ _ W
    obtain ⟨m0, m1, _⟩ := Fp.mul_bd p r t
    have HT := Lib.hid ht'; have HA := Lib.hid ha'
    have hwl : w.heap.size + 2 < W.heap.size := ht.lt
    clear ht' ha' hp hr ht hb hlj hI hI3 hX3 bS hlt3
    have hmx : Tryd.prog.follows .mixedOrders = true := by kernel_rfl
    simp only [ha2]
    gi_wp2
    refine regionIn_quiet_tail 7 hmx (by kernel_rfl) (by kernel_rfl) (fun ⟨_, _, h⟩ => h) ?_
    simp only [List.take_succ_cons, List.take_zero, List.drop_succ_cons, List.drop_zero]
    repeat (first | go_big_quiet_step (first | (go_at_call 24; exact Calls.quiet_of (mul_any _ _ _ _ (by omega) (by omega) (by omega) (by omega))) | (go_at_call 25; exact Calls.quiet_of (add_any _ _ _ _ (by omega) (by omega) (by omega) (by omega)))) | quiet_step (first | (go_at_call 24; exact Calls.quiet_of (mul_any _ _ _ _ (by omega) (by omega) (by omega) (by omega))) | (go_at_call 25; exact Calls.quiet_of (add_any _ _ _ _ (by omega) (by omega) (by omega) (by omega)))))
    refine wpQuiet_nil ?_
    rintro w' ⟨nq, rfl⟩
    go_wp2
    gi_wp2
    have hs2 := HS2.out
    refine ⟨?_, ⟨?_, ?_⟩, hJ.step hi HT.out HA.out _⟩
    · exact ((keeps_draws W nq).trans (KeepsOthers.setCell _ _ _)).from _
    · exact (draws_below _ W nq).setCell (p := ⟨w.heap.size + 2, 0, none⟩) (by show _ ≤ w.heap.size + 2; omega) _
    · exact Below.heap_setCell (W.drewN nq) _ _ _ (by show W2.heap.size ≠ w.heap.size + 2; omega)
  case done =>
    rintro D ys W hD rfl hJ hK
    have cT := hJ.2.2.1.cell
    rw [evs_all H.out] at cT
    have hR : RetB (.int .u64 (Fp.ev p xs r)) w (.returned (.int .u64 (Fp.ev p xs r))) (W.putObj D (.deferred none)) :=
      ⟨rfl, hJ.2.2.2.trans (belowK_b (w := w) (Nat.le_refl _) W D _ _ (by have := hI3.2.2.2.size; omega) hK rfl rfl)⟩
    gi_wp2
    refine ⟨by simp, .inl ⟨_, _, rfl, run_takeDeferred hK, ?_⟩⟩
    exact ⟨_, results_tmp (t := 6) rfl _ _ _, hR⟩
  case stop =>
    rintro D c pre W _ _ h _
    exact h.elim

/-- What is wrong with a prime and a list of n numbers. -/
def evalE (p : Int) (n : Nat) : Int := if Fp.kn p = true then if 65536 < n then 1 else 0 else 2
/-- The sum, or 0. -/
def evalN (p : Int) (xs : List Int) (r : Int) : Int := if evalE p xs.length = 0 then Fp.ev p xs r else 0
theorem evalE_ok {p : Int} {n : Nat} (h : Fp.kn p = true) (h1 : n ≤ 65536) : evalE p n = 0 := by unfold evalE; rw [if_pos h, if_neg (by omega)]
theorem evalE_no {p : Int} {n : Nat} (h : Fp.kn p = false) : evalE p n = 2 := by unfold evalE; rw [if_neg (by simp [h])]
theorem evalE_bad {p : Int} {n : Nat} (h : Fp.kn p = true) (hn : 65536 < n) : evalE p n = 1 := by unfold evalE; rw [if_pos h, if_pos hn]
theorem evalN_ok {p r : Int} {xs : List Int} (h : evalE p xs.length = 0) : evalN p xs r = Fp.ev p xs r := by unfold evalN; rw [if_pos h]
theorem evalN_no {p r : Int} {xs : List Int} (h : evalE p xs.length ≠ 0) : evalN p xs r = 0 := by unfold evalN; rw [if_neg h]
theorem evalN_bd (p r : Int) (xs : List Int) : 0 ≤ evalN p xs r ∧ evalN p xs r < 18446744069414584321 := by
  unfold evalN; split
  · obtain ⟨a, b, -⟩ := Fp.ev_bd p xs r; exact ⟨a, b⟩
  · omega

set_option maxHeartbeats 1000000 in
theorem Eval_any (p r : Int) (x : Option Addr) (n cap : Nat) (xs : List Int) (w : World) (hx : Reads .u64 w w.heap.size x xs) (hn : xs.length = n) (hw : Words xs) (hl : n ≤ 140737488355328) (r0 : 0 ≤ r) (r1 : r < 18446744073709551616) :
    Calls Tryd.prog 19 #[.int .u64 p, .slice x n cap, .int .u64 r] w (RetB (.tuple #[.int .u64 (evalN p xs r), .int .i64 (evalE p n)]) w) := by
  subst hn
  cases h : Fp.kn p
  · rw [evalN_no (by rw [evalE_no h]; decide), evalE_no h]
    have H := Lib.hid h
    clear h hx hw
    go_enter Tryd.func19, Tryd.ntmps19
    go_wp2_with (go_at_call 39; refine (known_no p _ H.out).mono ?_; rintro e w' ⟨rfl, rfl⟩)
    go_ret2
    exact ⟨rfl, Below.refl _ _⟩
  · by_cases hb : 65536 < xs.length
    · rw [evalN_no (by rw [evalE_bad h hb]; decide), evalE_bad h hb]
      have H := Lib.hid h
      have hd : decide (65536 < (xs.length : Int)) = true := by simp; omega
      clear h hx hw
      go_enter Tryd.func19, Tryd.ntmps19
      go_wp2_with (go_at_call 39; refine (known_yes p _ H.out).mono ?_; rintro e w' ⟨rfl, rfl⟩)
      go_ret2
      exact ⟨rfl, Below.refl _ _⟩
    · have hE := evalE_ok (n := xs.length) h (by omega)
      rw [evalN_ok hE, hE]
      have HC := Lib.hid (geval_any p r x xs.length cap xs w h hx rfl hw (by omega) r0 r1)
      have H := Lib.hid h
      have hd : decide (65536 < (xs.length : Int)) = false := by simp; omega
      clear h hx hw hb hE
      go_enter Tryd.func19, Tryd.ntmps19
      go_wp2_with (first
        | (go_at_call 39; refine (known_yes p _ H.out).mono ?_; rintro e w' ⟨rfl, rfl⟩)
        | (go_at_call 40; refine HC.out.mono ?_; rintro e w1 ⟨rfl, hB⟩))
      go_ret2
      exact ⟨rfl, hB⟩

end Go.Proofs.YtmeeldhejbdgjaaDoor

/-!   What geom.Roots comes to, over every input: how many different numbers by p among the seeds make a list nothing, or why not. Seeds that were met are kept in a map.
-/

namespace Go.Proofs.YtmeeldhejbdgjaaDoor
open Go.RowKit Go.Maps

/-! A map of words to bools. -/
theorem law_u64 : Keyed Tryd.prog 22 := int_keyed Tryd.underlying22
theorem zero_bool (w : World) : (zeroValue 4).run Tryd.prog w = .ok (.bool false) w := by kernel_rfl
set_option maxRecDepth 100000 in
theorem plainElem_bool_inv {v : Value} {x : Bool} {ps : List MemPlace} (h : plainElem (H := Unit) Tryd.prog 4 v = some (.lit (.bool x), ps)) : v = .bool x := by
  unfold plainElem at h
  rw [Tryd.underlying4] at h
  cases v <;> simp at h
  rw [h.1]
theorem u64_wf {a : Int} (h0 : 0 ≤ a) (h1 : a < 18446744073709551616) : (Lit.int .u64 a).wf = true := WalkArith.wf_u64 ⟨h0, by omega⟩

/-- Block b is a map of at most n words that reads as D. -/
def Marks (w : World) (b n : Nat) (D : DataW Unit) : Prop := w.ownsMap Tryd.prog 22 (plainElem Tryd.prog 4) b n D
theorem Marks.below {w w' : World} {b n : Nat} {D : DataW Unit} (h : Marks w b n D) (hb : Below w.heap.size w w') : Marks w' b n D := by
  have hlt := World.ownsMap.lt h
  obtain ⟨es, clock, h1, h2⟩ := h
  exact ⟨es, clock, (hb.block b hlt).trans h1, h2⟩

/-- The map D tells of a number whether one of the first k seeds is it, by p. -/
def Seen (p : Int) (ss : List Int) (k : Nat) (D : DataW Unit) : Prop := ∀ a : Int, D.atKey (.int .u64 a) (.lit (.bool false)) = .lit (.bool ((List.range k).any fun j => Fp.red p (ss.getD j 0) == a))
theorem Seen.zero (p : Int) (ss : List Int) : Seen p ss 0 (.map []) := fun _ => rfl
theorem Seen.again {p : Int} {ss : List Int} {k : Nat} {D : DataW Unit} (h : Seen p ss k D) (hm : Fp.met p ss k = true) : Seen p ss (k + 1) D := fun a => by
  rw [h a, List.range_succ, List.any_append, List.any_cons, List.any_nil, Bool.or_false]
  by_cases e : Fp.red p (ss.getD k 0) = a
  · subst e
    unfold Fp.met at hm
    rw [hm, Bool.true_or]
  · rw [beq_eq_false_iff_ne.2 e, Bool.or_false]
theorem Seen.put {p : Int} {ss : List Int} {k : Nat} {D : DataW Unit} (h : Seen p ss k D) (hD : IsMap D) : Seen p ss (k + 1) (D.put (.int .u64 (Fp.red p (ss.getD k 0))) (.lit (.bool true))) := fun a => by
  rw [List.range_succ, List.any_append, List.any_cons, List.any_nil, Bool.or_false]
  by_cases e : Fp.red p (ss.getD k 0) = a
  · subst e
    rw [atKey_put_same hD (by exact trivial), beq_self_eq_true, Bool.or_true]
  · rw [atKey_put_other (by intro e'; cases e'; exact e rfl), h a, beq_eq_false_iff_ne.2 e, Bool.or_false]

/-- What is wrong with a prime, a list of n numbers and m seeds. -/
def rootsE (p : Int) (n m : Nat) : Int := if Fp.kn p = true then if 65536 < n ∨ 65536 < m then 1 else 0 else 2
/-- How many, or 0. -/
def rootsN (p : Int) (xs ss : List Int) : Nat := if rootsE p xs.length ss.length = 0 then Fp.rts p xs ss ss.length else 0
theorem rootsE_ok {p : Int} {n m : Nat} (h : Fp.kn p = true) (h1 : n ≤ 65536) (h2 : m ≤ 65536) : rootsE p n m = 0 := by unfold rootsE; rw [if_pos h, if_neg (by omega)]
theorem rootsE_no {p : Int} {n m : Nat} (h : Fp.kn p = false) : rootsE p n m = 2 := by unfold rootsE; rw [if_neg (by simp [h])]
theorem rootsE_bad {p : Int} {n m : Nat} (h : Fp.kn p = true) (hn : 65536 < n ∨ 65536 < m) : rootsE p n m = 1 := by unfold rootsE; rw [if_pos h, if_pos hn]
theorem rootsN_ok {p : Int} {xs ss : List Int} (h : rootsE p xs.length ss.length = 0) : rootsN p xs ss = Fp.rts p xs ss ss.length := by unfold rootsN; rw [if_pos h]
theorem rootsN_no {p : Int} {xs ss : List Int} (h : rootsE p xs.length ss.length ≠ 0) : rootsN p xs ss = 0 := by unfold rootsN; rw [if_neg h]

end Go.Proofs.YtmeeldhejbdgjaaDoor

/-!   What the document's answers of layer 8 (brackenref08: Eval, Sum, Roots) come to, over every input: the same numbers as the program's.
-/

namespace Go.Proofs.YtmeeldhejbdgjaaDoor
open Go.RowKit

set_option maxRecDepth 100000 in
set_option maxHeartbeats 1000000 in
theorem reval_yes (p r : Int) (x : Option Addr) (n cap : Nat) (xs : List Int) (w : World) (h : Fp.kn p = true) (hx : Reads .u64 w w.heap.size x xs) (hn : xs.length = n) (hw : Words xs) (hl : n ≤ 65536) (r0 : 0 ≤ r) (r1 : r < 18446744073709551616) :
    Calls Tryd.prog 33 #[.int .u64 p, .slice x n cap, .int .u64 r] w (RetQ (.tuple #[.int .u64 (Fp.ev p xs r), .int .i64 0]) w) := by
  have hd1 : decide (65536 < (n : Int)) = false := by simp; omega
  have HS := Lib.hid (fun k => Fp.evk_succ h xs r k)
  have HP := Lib.hid (fun k => Fp.pw_succ p r k)
  have HZ := Lib.hid (Fp.evk_zero h xs r)
  have HO : Hid (Fp.pw p r 0 = 1) := Lib.hid (by rw [Fp.pw_zero, Fp.red_one h])
  have HA : Hid (Fp.evk p xs r n = Fp.ev p xs r) := Lib.hid (by rw [← hn]; exact Fp.evk_all p xs r)
  have H := Lib.hid h
  have HX := Lib.hid hx
  have HW := Lib.hid hw
  have HN := Lib.hid hn
  clear h hx hw hn
  go_enter Tryd.func33, Tryd.ntmps33
  go_wp2_with (go_at_call 51; refine (rknown_yes p _ H.out).mono ?_; rintro e w' ⟨rfl, rfl⟩)
  go_loopw [8, 9, 20] (fun s q i wr => ∃ k d : Nat, k ≤ n ∧ i = .int .i64 (k : Int) ∧ s = .int .u64 (Fp.evk p xs r k) ∧ q = .int .u64 (Fp.pw p r k) ∧ wr = w.drewN d) (fun _ _ i _ => n - (intOf i).toNat)
  case atStart => exact ⟨0, 0, Nat.zero_le _, rfl, by rw [HZ.out], by rw [HO.out], rfl⟩
  case round =>
    obtain ⟨k, d, hk, rfl, rfl, rfl, rfl⟩ := hrel
    obtain ⟨s0, s1, -⟩ := Fp.evk_bd p xs r k
    obtain ⟨q0, q1, -⟩ := Fp.pw_bd p r k
    by_cases hlt : k < n
    · obtain ⟨b, off, rfl, hb, hcx⟩ := HX.out (by have := HN.out; omega)
      have hx1 := hcx k (by have := HN.out; omega)
      obtain ⟨u0, u1⟩ := HW.out k
      have hS := HS.out k
      obtain ⟨u, hu⟩ : ∃ u, u = xs.getD k 0 := ⟨_, rfl⟩
      rw [← hu] at hx1 u0 u1 hS
      have HS' := Lib.hid hS
      have HP' := Lib.hid (HP.out k)
      obtain ⟨m0, m1, -⟩ := Fp.mul_bd p u (Fp.pw p r k)
      clear hcx hu hS
      go_wp2_with (first
        | (go_at_call 57; refine (rmul_any _ _ _ _ (by omega) (by omega) (by omega) (by omega)).mono ?_; rintro e w' ⟨rfl, rfl⟩)
        | (go_at_call 56; refine (radd_any _ _ _ _ (by omega) (by omega) (by omega) (by omega)).mono ?_; rintro e w' ⟨rfl, nd, rfl⟩))
      go_roundw
      case rel => exact ⟨k + 1, _, by omega, by go_num, by rw [HS'.out], by rw [HP'.out], rfl⟩
      case measure => simp [intOf]; omega
    · obtain rfl : k = n := by omega
      have hR : RetQ (.tuple #[.int .u64 (Fp.ev p xs r), .int .i64 0]) w (.returned (.tuple #[.int .u64 (Fp.evk p xs r k), .int .i64 0])) (w.drewN d) := ⟨by rw [HA.out], _, rfl⟩
      clear HS HP HX
      go_wp2
      go_ret2
      exact hR

set_option maxRecDepth 100000 in
set_option maxHeartbeats 1000000 in
theorem reval_any (p r : Int) (x : Option Addr) (n cap : Nat) (xs : List Int) (w : World) (hx : Reads .u64 w w.heap.size x xs) (hn : xs.length = n) (hw : Words xs) (hl : n ≤ 140737488355328) (r0 : 0 ≤ r) (r1 : r < 18446744073709551616) :
    Calls Tryd.prog 33 #[.int .u64 p, .slice x n cap, .int .u64 r] w (RetQ (.tuple #[.int .u64 (evalN p xs r), .int .i64 (evalE p n)]) w) := by
  subst hn
  cases h : Fp.kn p
  · rw [evalN_no (by rw [evalE_no h]; decide), evalE_no h]
    have H := Lib.hid h
    clear h hx hw
    go_enter Tryd.func33, Tryd.ntmps33
    go_wp2_with (go_at_call 51; refine (rknown_no p _ H.out).mono ?_; rintro e w' ⟨rfl, rfl⟩)
    go_ret2
    exact ⟨rfl, 0, rfl⟩
  · by_cases hb : 65536 < xs.length
    · rw [evalN_no (by rw [evalE_bad h hb]; decide), evalE_bad h hb]
      have H := Lib.hid h
      have hd : decide (65536 < (xs.length : Int)) = true := by simp; omega
      clear h hx hw
      go_enter Tryd.func33, Tryd.ntmps33
      go_wp2_with (go_at_call 51; refine (rknown_yes p _ H.out).mono ?_; rintro e w' ⟨rfl, rfl⟩)
      go_ret2
      exact ⟨rfl, 0, rfl⟩
    · have hE := evalE_ok (n := xs.length) h (by omega)
      rw [evalN_ok hE, hE]
      exact reval_yes p r x _ cap xs w h hx rfl hw (by omega) r0 r1

theorem words_ones (n : Nat) : Words ((List.range n).map fun _ => 1) := fun j => by
  by_cases h : j < n
  · simp [h]
  · simp [h]
theorem ev_ones (p r : Int) (n : Nat) : Fp.ev p ((List.range n).map fun _ => 1) r = Fp.gsum p r n := by
  unfold Fp.ev Fp.gsum Fp.gs
  rw [Fp.hn_range]
  congr 1
  exact Fp.sum_congr fun j _ => Int.one_mul _

/-- Is one of the first j seeds the one at place k, by p? -/
def metk (p : Int) (ss : List Int) (k j : Nat) : Bool := (List.range j).any fun i => Fp.red p (ss.getD i 0) == Fp.red p (ss.getD k 0)
theorem metk_succ (p : Int) (ss : List Int) (k j : Nat) : metk p ss k (j + 1) = (metk p ss k j || (Fp.red p (ss.getD j 0) == Fp.red p (ss.getD k 0))) := by
  unfold metk; rw [List.range_succ, List.any_append]; simp

end Go.Proofs.YtmeeldhejbdgjaaDoor
