/-
  The radices of a size as package factor tells them: a contract of the function value that tells them one by one, for every loop body.
-/
import Derived.Test.YtmcnamlgbkbiaaaDoorMathFac
import Derived.Test.YtmcnamlgbkbiaaaDoorInts
import Derived.RangeFuncNested
import Derived.RangeFuncBound
import Derived.RangeFuncCalls
import Derived.RangeFuncLeaves
import Derived.RangeFuncBox
import Derived.Shelf.Abstract
import Derived.Shelf.RegionOpen
import Derived.OwnWalkIn
import Derived.TacticsInMore
import Derived.LoopNIn
import Derived.LoopIn
namespace Go.Proofs.YtmcnamlgbkbiaaaDoor
open Go.RowKit Go.Shelf

attribute [local go_sem] Oper.semAt_some

theorem radices_any (n : Int) (w : World) :
    Calls Tryd.prog 64 #[.int .i64 n] w fun e w' =>
      e = .returned (.func (.func 67) #[] #[.pointer (some ⟨w.heap.size, 0, none⟩)]) ∧ w.alloc (.cells #[.int .i64 n] 3) = w' := by
  go_enter Tryd.func64, Tryd.ntmps64
  go_wp2
  go_ret
  exact ⟨rfl, rfl⟩

theorem four_idx (j a : Int) (h : j = 0 ∧ a = 4 ∨ j = 1 ∧ a = 2 ∨ j = 2 ∧ a = 3 ∨ j = 3 ∧ a = 5) (w : World) :
    (Instr.index 74 (.agg #[.int .i64 4, .int .i64 2, .int .i64 3, .int .i64 5]) (.int .i64 j)).run Tryd.prog w = .ok (.int .i64 a) w := by
  rcases h with ⟨rfl, rfl⟩ | ⟨rfl, rfl⟩ | ⟨rfl, rfl⟩ | ⟨rfl, rfl⟩ <;> kernel_rfl

theorem four_at (i : Nat) (r : Fac.Rad) (hr : Fac.four[i]? = some r) (w : World) :
    (Instr.index 74 (.agg #[.int .i64 4, .int .i64 2, .int .i64 3, .int .i64 5]) (.int .i64 (i : Int))).run Tryd.prog w = .ok (.int .i64 (r.1 : Int)) w := by
  refine four_idx _ _ ?_ w
  have hi : i < 4 := by
    rcases Nat.lt_or_ge i 4 with h | h
    · exact h
    · rw [List.getElem?_eq_none (by simpa [Fac.four] using h)] at hr; cases hr
  have : i = 0 ∨ i = 1 ∨ i = 2 ∨ i = 3 := by omega
  rcases this with rfl | rfl | rfl | rfl <;> simp [Fac.four] at hr <;> subst hr <;> simp

set_option maxRecDepth 100000 in
set_option maxHeartbeats 2000000 in
theorem rads1_in (k : Nat) (hk : 1 ≤ k) (l Bn n : Nat) (h1 : 1 ≤ n) (h2 : n ≤ 4096) (J Jx : List Fac.Rad → World → Prop)
    (hY : Hid (∀ pre x W, J pre W → pre.length < 12 → YieldAt Fence.wide (k - 1) Tryd.prog l #[.int .i64 (x.1 : Int)] W fun e W' =>
      (e = .returned (.bool true) ∧ J (pre ++ [x]) W' ∧ True) ∨ (e = .returned (.bool false) ∧ Jx (pre ++ [x]) W')))
    (W : World) (hB : W.cell? ⟨Bn, 0, none⟩ = some (.int .i64 (n : Int))) (h0 : J [] W) :
    CallsIn Fence.wide k Tryd.prog 67 #[.func (.yield l) #[] #[], .pointer (some ⟨Bn, 0, none⟩)] W fun e W' => (∃ v, e = .returned v) ∧
      ((∃ ys, ys = Fac.rads n ∧ J ys W') ∨ (∃ pre, True ∧ Jx pre W')) := by
  have HL := Lib.hid (Fac.rads_len n h1 h2)
  have HE := Lib.hid (Fac.enough n h1 h2)
  refine callsIn_of_wp Tryd.func67 rfl trivial ?_ rfl
  simp only [Tryd.ntmps67, List.size_toArray, List.length_cons, List.length_nil, Nat.reduceAdd, Nat.reduceSub, Array.replicate_succ, Array.replicate_zero, List.push_toArray, List.append_toArray, List.nil_append, List.cons_append]
  gi_wp2
  gi_loopw [3, 8] (fun s i wr => ∃ (j f m : Nat) (pre : List Fac.Rad), j ≤ 4 ∧ i = .int .i64 (j : Int) ∧ s = .int .i64 (m : Int) ∧ Fac.Enough f (Fac.four.drop j) m ∧ m ≤ 4096 ∧ pre ++ Fac.tell f (Fac.four.drop j) m = Fac.rads n ∧ J pre wr)
    (fun _ i _ => (4 - intOf i).toNat)
  case atStart => exact ⟨0, 16, n, [], by omega, rfl, rfl, HE.out, h2, rfl, h0⟩
  case round =>
    obtain ⟨j, f, m, pre, hj, rfl, rfl, hE, hm, hP, hJ⟩ := hrel
    rcases Nat.lt_or_ge j 4 with hj4 | hj4
    · obtain ⟨r, hr⟩ : ∃ r, Fac.four[j]? = some r := ⟨_, List.getElem?_eq_getElem (by simpa [Fac.four] using hj4)⟩
      have hd : Fac.four.drop j = r :: Fac.four.drop (j + 1) := by
        rw [List.drop_eq_getElem_cons (by simpa [Fac.four] using hj4)]
        rw [List.getElem?_eq_getElem (by simpa [Fac.four] using hj4)] at hr
        rw [Option.some.inj hr]
      rw [hd] at hE hP
      have hix := four_at j r hr
      have HS := Lib.hid (And.intro hE hP)
      have HD := Lib.hid hd
      obtain ⟨r1, r2⟩ := r.2
      have hdj : decide ((j : Int) < 4) = true := by simp; omega
      clear hE hP hd hr HE h0
      gi_wp2
      gi_loopw [3] (fun s wi => ∃ (g q : Nat) (pre : List Fac.Rad), s = .int .i64 (q : Int) ∧ q ≤ 4096 ∧ Fac.Enough g (r :: Fac.four.drop (j + 1)) q ∧ pre ++ Fac.tell g (r :: Fac.four.drop (j + 1)) q = Fac.rads n ∧ J pre wi)
        (fun s _ => (intOf s).toNat)
      case atStart => exact ⟨f, m, pre, rfl, hm, HS.out.1, HS.out.2, hJ⟩
      case round =>
        clear HS hJ pre f
        obtain ⟨f, q, pre, rfl, hq, hE, hP, hJ⟩ := hrel
        have hn0 : ((r.1 : Nat) : Int) ≠ 0 := by omega
        have hc := cast_mod q r.1
        have hcd := cast_div q r.1
        obtain ⟨g, rfl⟩ := hE.pos
        by_cases hd : q % r.1 = 0
        · have b1 : (((q : Nat) : Int) % ((r.1 : Nat) : Int) == 0) = true := by rw [hc, hd]; rfl
          rw [Fac.tell_yes hd] at hP
          have hE' := hE.yes hd
          have hlt : pre.length < 12 := by
            have := congrArg List.length hP
            have h12 := HL.out
            simp at this; omega
          obtain ⟨fn, tmps, assign, body, hy, hR⟩ := hY.out pre r wr hJ hlt
          obtain ⟨d, hdd⟩ : ∃ d, d = q / r.1 := ⟨_, rfl⟩
          have hh := Fac.div_half q r
          have hq1 := hE.2.2
          rw [← hdd] at hcd hh hE' hP
          have HP := Lib.hid (And.intro hE' hP)
          clear hc hd hE hE' hP hJ hdd
          gi_wp2
          refine hR.mono ?_
          rintro e W3 (⟨rfl, hJ3, _⟩ | ⟨rfl, hJx3⟩)
          · gi_wp2
            go_roundw
            case rel => exact ⟨g, d, pre ++ [r], rfl, by omega, HP.out.1, by rw [← HP.out.2]; simp, hJ3⟩
            case measure => simp [intOf]; omega
          · gi_wp2
            refine bodyPost_ret (results_none rfl _ _ _) rfl ?_
            exact ⟨⟨_, rfl⟩, .inr ⟨_, trivial, hJx3⟩⟩
        · have b1 : (((q : Nat) : Int) % ((r.1 : Nat) : Int) == 0) = false := by rw [hc]; exact beq_eq_false_iff_ne.2 (by omega)
          rw [Fac.tell_no hd] at hP
          have HP := Lib.hid (And.intro hE.no hP)
          clear hc hd hE hP
          gi_wp2
          go_roundw
          case rel => exact ⟨j + 1, g, q, pre, by omega, by congr 1, rfl, HP.out.1, hq, HP.out.2, hJ⟩
          case measure => simp [intOf]; omega
    · obtain rfl : j = 4 := by omega
      have hP' : pre = Fac.rads n := by
        have : Fac.four.drop 4 = [] := rfl
        rw [this, Fac.tell_nil, List.append_nil] at hP
        exact hP
      clear hE hP HE
      gi_wp2
      go_end0
      exact ⟨⟨_, rfl⟩, .inl ⟨_, hP', hJ⟩⟩

theorem rads_stops (k : Nat) (hk : 1 ≤ k) (Bn n : Nat) (h1 : 1 ≤ n) (h2 : n ≤ 4096) (w : World) (hB : Bn < w.heap.size) (hc : w.cell? ⟨Bn, 0, none⟩ = some (.int .i64 (n : Int))) :
    SeqStopsK Fence.wide k Tryd.prog 67 #[.pointer (some ⟨Bn, 0, none⟩)] (fun r : Fac.Rad => #[.int .i64 (r.1 : Int)]) (fun _ _ => True)
      (fun ys => ys = Fac.rads n) (fun _ => True) 12 w := fun l J Jx W hW _ _ hY h0 =>
  rads1_in k hk l Bn n h1 h2 J Jx (Lib.hid hY) W ((hW.cell (p := ⟨Bn, 0, none⟩) hB).trans hc) h0

end Go.Proofs.YtmcnamlgbkbiaaaDoor
