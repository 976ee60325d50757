/-
  slices.Chunk over a slice of words: a contract of the function value that it hands back, for every loop body that keeps what lay below n0 and the two boxes.
-/
import Derived.Test.YtmeeldhejbdgjaaDoorGeoms
import Derived.Sort.QuietIn
namespace Go.Proofs.YtmeeldhejbdgjaaDoor
open Go.RowKit Go.Shelf

attribute [local go_sem] Oper.semAt_some

/-- The first k places. -/
def upTo (n k : Nat) : List (Fin n) := (List.finRange n).take k
theorem upTo_zero (n : Nat) : upTo n 0 = [] := by simp [upTo]
theorem upTo_len (n k : Nat) (h : k ≤ n) : (upTo n k).length = k := by simp [upTo, h]
theorem upTo_succ (n k : Nat) (h : k < n) : upTo n (k + 1) = upTo n k ++ [⟨k, h⟩] := by
  unfold upTo
  rw [List.take_succ_eq_append_getElem (by simpa using h)]
  simp

theorem chunk_any (x : Option Addr) (n cap L : Nat) (hL : 1 ≤ L) (w : World) :
    Calls Tryd.prog 81 #[.slice x n cap, .int .i64 (L : Int)] w fun e w' =>
      e = .returned (.func (.func 97) #[] #[.pointer (some ⟨w.heap.size, 0, none⟩), .pointer (some ⟨w.heap.size + 1, 0, none⟩)]) ∧ (w.alloc (.cells #[.slice x n cap] 24)).alloc (.cells #[.int .i64 (L : Int)] 3) = w' := by
  have d : decide ((L : Int) < 1) = false := by simp; omega
  go_enter Tryd.func81, Tryd.ntmps81
  go_wp2
  go_ret
  exact ⟨rfl, rfl⟩

/-- What a round keeps: whatever lies below n0, and two blocks. -/
def Keeps2 (n0 B C : Nat) (W W' : World) : Prop := Below n0 W W' ∧ W'.heap[B]? = W.heap[B]? ∧ W'.heap[C]? = W.heap[C]?
theorem Keeps2.refl (n0 B C : Nat) (W : World) : Keeps2 n0 B C W W := ⟨Below.refl _ _, rfl, rfl⟩
theorem Keeps2.trans {n0 B C : Nat} {W W' W'' : World} (h : Keeps2 n0 B C W W') (k : Keeps2 n0 B C W' W'') : Keeps2 n0 B C W W'' := ⟨h.1.trans k.1, k.2.1.trans h.2.1, k.2.2.trans h.2.2⟩
theorem Keeps2.cell1 {n0 B C : Nat} {W W' : World} (h : Keeps2 n0 B C W W') : W'.cell? ⟨B, 0, none⟩ = W.cell? ⟨B, 0, none⟩ := World.cell?_of_block (a := ⟨B, 0, none⟩) h.2.1
theorem Keeps2.cell2 {n0 B C : Nat} {W W' : World} (h : Keeps2 n0 B C W W') : W'.cell? ⟨C, 0, none⟩ = W.cell? ⟨C, 0, none⟩ := World.cell?_of_block (a := ⟨C, 0, none⟩) h.2.2
theorem keeps2_b {n0 B C : Nat} {w : World} (hn : n0 ≤ w.heap.size) (hB : B < w.heap.size) (hC : C < w.heap.size) : ∀ (W : World) (l : Nat) (o o' : Obj), w.heap.size ≤ l → W.heap[l]? = some o → o.isCells = false → o.isWalk = false → Keeps2 n0 B C W (W.putObj l o') :=
  fun W l o o' hl h1 h2 h3 => ⟨belowK_b hn W l o o' hl h1 h2 h3, World.putObj_heap_other (by omega), World.putObj_heap_other (by omega)⟩

set_option maxRecDepth 100000 in
set_option maxHeartbeats 2000000 in
theorem chunk1_in (q : Nat) (hq : 1 ≤ q) (l Bs Bn n0 : Nat) (b off cap K L m : Nat) (hm : Hid (∀ k, k < K ↔ k * L < m)) (h2 : L ≤ 1000000) (h1 : 1 ≤ L) (hc : m ≤ cap) (hreach : m ≤ 1000000) (J Jx : List (Fin K) → World → Prop) (hD : Hid (∀ pre W n, J pre W → J pre (W.drewN n)))
    (hY : Hid (∀ pre j W, J pre W → pre.length < K → YieldAt Fence.wide (q - 1) Tryd.prog l #[.slice (some ⟨b, off + j.1 * L, none⟩) (min L (m - j.1 * L)) (min L (m - j.1 * L))] W fun e W' =>
      (e = .returned (.bool true) ∧ J (pre ++ [j]) W' ∧ Keeps2 n0 Bs Bn W W') ∨ (e = .returned (.bool false) ∧ Jx (pre ++ [j]) W')))
    (W : World) (hBs : W.cell? ⟨Bs, 0, none⟩ = some (.slice (some ⟨b, off, none⟩) m cap)) (hBn : W.cell? ⟨Bn, 0, none⟩ = some (.int .i64 (L : Int))) (h0 : J [] W) :
    CallsIn Fence.wide q Tryd.prog 97 #[.func (.yield l) #[] #[], .pointer (some ⟨Bs, 0, none⟩), .pointer (some ⟨Bn, 0, none⟩)] W fun e W' => (∃ v, e = .returned v) ∧
      ((∃ ys, ys = upTo K K ∧ J ys W') ∨ (∃ pre, (∃ k, k ≤ K ∧ pre = upTo K k) ∧ Jx pre W')) := by
  refine callsIn_of_wp Tryd.func97 rfl trivial ?_ rfl
  simp only [Tryd.ntmps97, List.size_toArray, List.length_cons, List.length_nil, Nat.reduceAdd, Nat.reduceSub, Array.replicate_succ, Array.replicate_zero, List.push_toArray, List.append_toArray, List.nil_append, List.cons_append]
  have HM := hm
  have HBn := Lib.hid hBn
  gi_wp2
  gi_loopw [4] (fun i wr => ∃ k s : Nat, k ≤ K ∧ Hid (s = k * L) ∧ i = .int .i64 (s : Int) ∧ J (upTo K k) wr ∧ Keeps2 n0 Bs Bn W wr)
    (fun i _ => m - (intOf i).toNat)
  case atStart => exact ⟨0, 0, Nat.zero_le _, Lib.hid (Nat.zero_mul L).symm, by go_num, h0, Keeps2.refl _ _ _ _⟩
  case round =>
    obtain ⟨k, s, hk, HS, rfl, hJs, hnx⟩ := hrel
    have cS := hnx.cell1.trans hBs
    have cN := hnx.cell2.trans hBn
    by_cases hlt : k < K
    · have hs : s < m := by rw [HS.out]; exact (HM.out k).1 hlt
      have HE : Hid (upTo K k ++ [⟨k, hlt⟩] = upTo K (k + 1)) := Lib.hid (upTo_succ _ _ hlt).symm
      have hlen : (upTo K k).length < K := by rw [upTo_len _ _ hk]; exact hlt
      have HA := Lib.hid (fun n (hJ : J (upTo K k) (wr.drewN n)) => hY.out _ ⟨k, hlt⟩ (wr.drewN n) hJ hlen)
      dsimp only at HA
      rw [← HS.out] at HA
      have d1 : decide (s < m) = true := by simpa using hs
      clear hm hBs hBn
      by_cases hfit : s + L ≤ m
      · rw [show min L (m - s) = L by omega] at HA
        gi_wp2
        gi_quiet (skip)
        obtain ⟨fn, tmps, assign, body, hy, hR⟩ := HA.out nq (hD.out _ _ _ hJs)
        gi_wp2
        refine hR.mono ?_
        rintro e W3 (⟨rfl, hJ3, hk3⟩ | ⟨rfl, hJx3⟩)
        · have hk4 := hnx.trans (Keeps2.trans ⟨draws_below n0 wr nq, rfl, rfl⟩ hk3)
          have cN' := hk4.cell2.trans HBn.out
          have HK4 := Lib.hid hk4
          clear hk3 hnx hk4 cN cS
          gi_wp2
          go_roundw
          case rel => exact ⟨k + 1, s + L, hlt, Lib.hid (by rw [HS.out, Nat.succ_mul]), by go_num, by rw [← HE.out]; exact hJ3, HK4.out⟩
          case measure => simp [intOf]; omega
        · gi_wp2
          refine bodyPost_ret (results_none rfl _ _ _) rfl ?_
          exact ⟨⟨_, rfl⟩, .inr ⟨_, ⟨k + 1, hlt, HE.out⟩, hJx3⟩⟩
      · obtain ⟨t, ht⟩ : ∃ t, m = s + t := ⟨m - s, by omega⟩
        rw [show min L (m - s) = t by omega] at HA
        subst ht
        have ht1 : t < L := by omega
        clear hfit
        gi_wp2
        gi_quiet (skip)
        obtain ⟨fn, tmps, assign, body, hy, hR⟩ := HA.out nq (hD.out _ _ _ hJs)
        gi_wp2
        refine hR.mono ?_
        rintro e W3 (⟨rfl, hJ3, hk3⟩ | ⟨rfl, hJx3⟩)
        · have hk4 := hnx.trans (Keeps2.trans ⟨draws_below n0 wr nq, rfl, rfl⟩ hk3)
          have cN' := hk4.cell2.trans HBn.out
          have HK4 := Lib.hid hk4
          clear hk3 hnx hk4 cN cS
          gi_wp2
          go_roundw
          case rel => exact ⟨k + 1, s + L, hlt, Lib.hid (by rw [HS.out, Nat.succ_mul]), by go_num, by rw [← HE.out]; exact hJ3, HK4.out⟩
          case measure => simp [intOf]; omega
        · gi_wp2
          refine bodyPost_ret (results_none rfl _ _ _) rfl ?_
          exact ⟨⟨_, rfl⟩, .inr ⟨_, ⟨k + 1, hlt, HE.out⟩, hJx3⟩⟩
    · obtain rfl : k = K := by omega
      have hs : m ≤ s := by have := (HM.out k).2; rw [← HS.out] at this; omega
      have d1 : decide (s < m) = false := by simp; omega
      clear hm
      gi_wp2
      go_end0
      exact ⟨⟨_, rfl⟩, .inl ⟨_, rfl, hJs⟩⟩

theorem chunk_stops (q : Nat) (hq : 1 ≤ q) (Bs Bn n0 : Nat) (b off cap K L m : Nat) (hm : ∀ k, k < K ↔ k * L < m) (h2 : L ≤ 1000000) (h1 : 1 ≤ L) (hc : m ≤ cap) (hreach : m ≤ 1000000) (w : World) (hB : Bs < w.heap.size) (hC : Bn < w.heap.size)
    (hBs : w.cell? ⟨Bs, 0, none⟩ = some (.slice (some ⟨b, off, none⟩) m cap)) (hBn : w.cell? ⟨Bn, 0, none⟩ = some (.int .i64 (L : Int))) :
    SeqStopsK Fence.wide q Tryd.prog 97 #[.pointer (some ⟨Bs, 0, none⟩), .pointer (some ⟨Bn, 0, none⟩)] (fun j : Fin K => #[.slice (some ⟨b, off + j.1 * L, none⟩) (min L (m - j.1 * L)) (min L (m - j.1 * L))]) (Keeps2 n0 Bs Bn)
      (fun ys => ys = upTo K K) (fun pre => ∃ k, k ≤ K ∧ pre = upTo K k) K w := fun l J Jx W hW hA _ hY h0 =>
  chunk1_in q hq l Bs Bn n0 b off cap K L m (Lib.hid hm) h2 h1 hc hreach J Jx (Lib.hid fun pre W n hJ => hA pre W (W.drewN n) none hJ ⟨rfl, rfl, rfl, Nat.le_refl _, fun _ _ _ => rfl⟩ (fun r e => by cases e)) (Lib.hid hY) W
    ((hW.cell (p := ⟨Bs, 0, none⟩) hB).trans hBs) ((hW.cell (p := ⟨Bn, 0, none⟩) hC).trans hBn) h0

end Go.Proofs.YtmeeldhejbdgjaaDoor
