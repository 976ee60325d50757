/-
  The comparisons of two slices of words, and of two slices of events, as the document's packages make them; the chapter's example.
-/
import Derived.Test.YtbdcpjpdonednaaSparse
import Derived.Test.YtbdcpjpdonednaaStrike
namespace Go.Proofs.Ytbdcpjpdonednaa
open Go.RowKit

set_option maxHeartbeats 1000000 in
theorem sameW_any (x y : Option Addr) (n m cap cap' : Nat) (xs ys : List Int) (w : World) (B : Nat) (hx : Reads .u64 w B x xs) (hy : Reads .u64 w B y ys) (hn : xs.length = n) (hm : ys.length = m) (hl : n ≤ 140737488355328) (hl' : m ≤ 140737488355328) :
    Calls Try.prog 19 #[.slice x n cap, .slice y m cap'] w (RetQ (.bool (decide (xs = ys))) w) := by
  subst hn
  subst hm
  have HX := Lib.hid hx; clear hx
  have HY := Lib.hid hy; clear hy
  by_cases hnm : xs.length = ys.length
  · have t : ((xs.length : Int) != (ys.length : Int)) = false := by rw [hnm]; simp
    have HN := Lib.hid hnm; clear hnm
    go_enter Try.func19, Try.ntmps19
    go_wp2
    go_loopw [13] (fun i wr => ∃ k q : Nat, k ≤ xs.length ∧ i = .int .i64 k ∧ wr = w.drewN q ∧ Hid (∀ j, j < k → xs.getD j 0 = ys.getD j 0)) (fun i _ => xs.length - (intOf i).toNat)
    case atStart => exact ⟨0, 0, Nat.zero_le _, rfl, rfl, Lib.hid (fun j hj => by omega)⟩
    case round =>
      obtain ⟨k, q, hk, rfl, rfl, HA⟩ := hrel
      by_cases hlt : k < xs.length
      · have hlt' : k < ys.length := by have := HN.out; omega
        obtain ⟨b, off, rfl, hb, hc⟩ := HX.out (by omega)
        obtain ⟨b', off', rfl, hb', hc'⟩ := HY.out (by omega)
        have c1 := hc k hlt
        have c2 := hc' k hlt'
        obtain ⟨u, hu⟩ : ∃ u, u = xs.getD k 0 := ⟨_, rfl⟩
        obtain ⟨v, hv⟩ : ∃ v, v = ys.getD k 0 := ⟨_, rfl⟩
        rw [← hu] at c1
        rw [← hv] at c2
        by_cases he : u = v
        · have t2 : (u != v) = false := by rw [he]; simp
          have HA' : Hid (∀ j, j < k + 1 → xs.getD j 0 = ys.getD j 0) := Lib.hid (fun j hj => by
            by_cases e : j = k
            · rw [e, ← hu, ← hv]; exact he
            · exact HA.out j (by omega))
          clear he hu hv hc hc' HX HY
          go_wp2
          go_quiet (fail)
          go_wp2
          go_roundw
          case rel => exact ⟨k + 1, _, by omega, by go_num, rfl, HA'⟩
          case measure => simp [intOf]; omega
        · have t2 : (u != v) = true := by rw [bne_iff_ne]; exact he
          have HE : Hid (decide (xs = ys) = false) := Lib.hid (decide_eq_false (fun e => he (by rw [hu, hv, e])))
          clear he hu hv hc hc' HX HY
          go_wp2
          go_quiet (fail)
          go_wp2
          go_ret
          exact ⟨ret_b HE.out.symm, q + nq, by rw [World.drewN_drewN]⟩
      · have HE : Hid (decide (xs = ys) = true) := Lib.hid (decide_eq_true (by
          apply List.ext_getElem HN.out
          intro j h1 h2
          have := HA.out j (by omega)
          simpa [h1, h2] using this))
        clear HX HY
        go_wp2
        go_ret
        exact ⟨ret_b HE.out.symm, _, rfl⟩
  · have t : ((xs.length : Int) != (ys.length : Int)) = true := by rw [bne_iff_ne]; omega
    have HE : Hid (decide (xs = ys) = false) := Lib.hid (decide_eq_false (fun e => hnm (by rw [e])))
    clear hnm
    go_enter Try.func19, Try.ntmps19
    go_wp2
    go_ret
    exact ⟨ret_b HE.out.symm, 0, rfl⟩

set_option maxHeartbeats 1000000 in
theorem sameE_any (x y : Option Addr) (n m cap cap' : Nat) (xs ys : List Ev) (w : World) (B : Nat) (hx : ReadsE w B x xs) (hy : ReadsE w B y ys) (hn : xs.length = n) (hm : ys.length = m) (hl : n ≤ 9223372036854775807) (hl' : m ≤ 9223372036854775807) :
    Calls Try.prog 18 #[.slice x n cap, .slice y m cap'] w (RetQ (.bool (decide (xs = ys))) w) := by
  subst hn
  subst hm
  have HX := Lib.hid hx; clear hx
  have HY := Lib.hid hy; clear hy
  by_cases hnm : xs.length = ys.length
  · have t : ((xs.length : Int) != (ys.length : Int)) = false := by rw [hnm]; simp
    have HN := Lib.hid hnm; clear hnm
    go_enter Try.func18, Try.ntmps18
    go_wp2
    go_loopw [13] (fun i wr => ∃ k q : Nat, k ≤ xs.length ∧ i = .int .i64 k ∧ wr = w.drewN q ∧ Hid (∀ j, j < k → xs.getD j noEv = ys.getD j noEv)) (fun i _ => xs.length - (intOf i).toNat)
    case atStart => exact ⟨0, 0, Nat.zero_le _, rfl, rfl, Lib.hid (fun j hj => by omega)⟩
    case round =>
      obtain ⟨k, q, hk, rfl, rfl, HA⟩ := hrel
      by_cases hlt : k < xs.length
      · have hlt' : k < ys.length := by have := HN.out; omega
        obtain ⟨b, off, rfl, hb, hc⟩ := HX.out (by omega)
        obtain ⟨b', off', rfl, hb', hc'⟩ := HY.out (by omega)
        have hcu := hc k hlt
        have hcv := hc' k hlt'
        obtain ⟨u, hu⟩ : ∃ u, u = xs.getD k noEv := ⟨_, rfl⟩
        obtain ⟨v, hv⟩ : ∃ v, v = ys.getD k noEv := ⟨_, rfl⟩
        rw [← hu] at hcu
        rw [← hv] at hcv
        have hne := fun w => neq_ev u v w
        obtain ⟨u1, u2, u3, u4, u5, u6⟩ := u
        obtain ⟨v1, v2, v3, v4, v5, v6⟩ := v
        obtain ⟨c1, c2, c3, c4, c5, c6⟩ := hcu
        obtain ⟨e1, e2, e3, e4, e5, e6⟩ := hcv
        unfold evV at hne
        dsimp only at c1 c2 c3 c4 c5 c6 e1 e2 e3 e4 e5 e6 hne
        clear hc hc' HX HY
        have g1 := run_eqGuard_agg (P := Try.prog) (hm := ev_guard)
        by_cases he : (⟨u1, u2, u3, u4, u5, u6⟩ : Ev) = ⟨v1, v2, v3, v4, v5, v6⟩
        · have t2 : (!decide ((⟨u1, u2, u3, u4, u5, u6⟩ : Ev) = ⟨v1, v2, v3, v4, v5, v6⟩)) = false := by rw [decide_eq_true he]; rfl
          have HA' : Hid (∀ j, j < k + 1 → xs.getD j noEv = ys.getD j noEv) := Lib.hid (fun j hj => by
            by_cases e : j = k
            · rw [e, ← hu, ← hv]; exact he
            · exact HA.out j (by omega))
          rw [t2] at hne
          clear he hu hv t2
          go_wp2
          go_quiet (fail)
          go_wp2
          go_roundw
          case rel => exact ⟨k + 1, _, by omega, by go_num, rfl, HA'⟩
          case measure => simp [intOf]; omega
        · have t2 : (!decide ((⟨u1, u2, u3, u4, u5, u6⟩ : Ev) = ⟨v1, v2, v3, v4, v5, v6⟩)) = true := by rw [decide_eq_false he]; rfl
          have HE : Hid (decide (xs = ys) = false) := Lib.hid (decide_eq_false (fun e => he (by rw [hu, hv, e])))
          rw [t2] at hne
          clear he hu hv t2
          go_wp2
          go_quiet (fail)
          go_wp2
          go_ret
          exact ⟨ret_b HE.out.symm, q + nq, by rw [World.drewN_drewN]⟩
      · have HE : Hid (decide (xs = ys) = true) := Lib.hid (decide_eq_true (by
          apply List.ext_getElem HN.out
          intro j h1 h2
          have := HA.out j (by omega)
          simpa [h1, h2] using this))
        clear HX HY
        go_wp2
        go_ret
        exact ⟨ret_b HE.out.symm, _, rfl⟩
  · have t : ((xs.length : Int) != (ys.length : Int)) = true := by rw [bne_iff_ne]; omega
    have HE : Hid (decide (xs = ys) = false) := Lib.hid (decide_eq_false (fun e => hnm (by rw [e])))
    clear hnm
    go_enter Try.func18, Try.ntmps18
    go_wp2
    go_ret
    exact ⟨ret_b HE.out.symm, 0, rfl⟩

/-- Two events, made anew. -/
def two (a b : Int) : Obj := .cells #[.int .i64 0, .int .i64 0, .int .i64 a, .int .i64 0, .int .i64 0, .int .u64 0, .int .i64 0, .int .i64 0, .int .i64 b, .int .i64 0, .int .i64 0, .int .u64 0] 38
theorem two_reads (W : World) (a b : Int) : ReadsE (W.alloc (two a b)) (W.alloc (two a b)).heap.size (some ⟨W.heap.size, 0, none⟩) [⟨0, 0, a, 0, 0, 0⟩, ⟨0, 0, b, 0, 0, 0⟩] := fun _ => by
  refine ⟨W.heap.size, 0, rfl, by simp [two], fun j hj => ?_⟩
  have hj' : j = 0 ∨ j = 1 := by simp at hj; omega
  unfold two
  rcases hj' with rfl | rfl
  · refine ⟨?_, ?_, ?_, ?_, ?_, ?_⟩ <;> simp
  · refine ⟨?_, ?_, ?_, ?_, ?_, ?_⟩ <;> simp
theorem two_ok {a b : Int} (ha : 0 ≤ a ∧ a < 10) (hb : 0 ≤ b ∧ b < 10) : EvsOk [⟨0, 0, a, 0, 0, 0⟩, ⟨0, 0, b, 0, 0, 0⟩] := by
  intro s hs
  simp at hs
  rcases hs with rfl | rfl
  · unfold EvOk; dsimp only; omega
  · unfold EvOk; dsimp only; omega

set_option maxRecDepth 100000 in
set_option maxHeartbeats 2000000 in
theorem live10_any (w : World) : Calls Try.prog 9 #[] w (RetB (.bool true) w) := by
  have e1 : spB [⟨0, 0, 3, 0, 0, 0⟩, ⟨0, 0, 4, 0, 0, 0⟩] = false := by decide
  have e2 : spB [⟨0, 0, 3, 0, 0, 0⟩, ⟨0, 0, 5, 0, 0, 0⟩] = true := by decide
  have H1 := Lib.hid (fun W => Sparse_any (some ⟨W.heap.size, 0, none⟩) 2 2 [⟨0, 0, 3, 0, 0, 0⟩, ⟨0, 0, 4, 0, 0, 0⟩] (W.alloc (two 3 4)) (two_reads W 3 4) rfl (two_ok (by omega) (by omega)))
  have H2 := Lib.hid (fun W => Sparse_any (some ⟨W.heap.size, 0, none⟩) 2 2 [⟨0, 0, 3, 0, 0, 0⟩, ⟨0, 0, 5, 0, 0, 0⟩] (W.alloc (two 3 5)) (two_reads W 3 5) rfl (two_ok (by omega) (by omega)))
  rw [e1, chk_ok (by omega)] at H1
  rw [e2, chk_ok (by omega)] at H2
  unfold two at H1 H2
  clear e1 e2
  go_enter Try.func9, Try.ntmps9
  go_wp2_with (first
    | (go_at_call 12; have _t := H1; refine (H1.out w).mono ?_; rintro e w1 ⟨rfl, hb1⟩; clear H1)
    | (go_at_call 12; refine (H2.out w1).mono ?_; rintro e w2 ⟨rfl, hb2⟩))
  go_ret
  exact ⟨rfl, below_on (below_al (below_on (below_al (Below.refl _ _) _) hb1) _) hb2⟩

end Go.Proofs.Ytbdcpjpdonednaa
