/-
  The walk of the law GeomDoes: it returns true for every two words, every int and any two slices of words; nothing that was there is written.
-/
import Derived.Test.YtancfpekiecoiaaGeomRef
namespace Go.Proofs.Ytancfpekiecoiaa
open Go.RowKit

set_option maxRecDepth 100000 in
set_option maxHeartbeats 2000000 in
theorem geomdoes_main (p z i : Int) (x y : Option Addr) (n m cap cap' : Nat) (xs ss : List Int) (w : World) (hx : Reads .u64 w w.heap.size x xs) (hy : Reads .u64 w w.heap.size y ss) (hn : xs.length = n) (hm : ss.length = m) (hw : Words xs) (hw' : Words ss) (hc : m ≤ cap')
    (z0 : 0 ≤ z) (z1 : z < 18446744073709551616) (i0 : -9223372036854775808 ≤ i) (i1 : i < 9223372036854775808) (hl : n ≤ 40 ∨ 65536 < n) (hl1 : n ≤ 65540) (hl' : m ≤ 40) (hi : i ≤ 400 ∨ 65536 < i) :
    Calls Try.prog 3 #[.int .u64 p, .int .u64 z, .int .i64 i, .slice x n cap, .slice y m cap'] w fun e w' => e = .returned (.bool true) ∧ Below w.heap.size w w' := by
  have H1 := Lib.hid (fun W => Sum_any p z i W z0 z1 i0 i1)
  have H2 := Lib.hid (fun W => rsum_any p z i W z0 z1 i0 i1)
  have H3 := Lib.hid (fun W (hB : Below w.heap.size w W) => Eval_any p z x n cap xs W ((hx.below hB).more hB.size) hn hw (by omega) z0 z1)
  have H4 := Lib.hid (fun W (hB : Below w.heap.size w W) => reval_any p z x n cap xs W ((hx.below hB).more hB.size) hn hw (by omega) z0 z1)
  have H5 := Lib.hid (fun W (hB : Below w.heap.size w W) => Roots_any p x y n m cap cap' xs ss W ((hx.below hB).more hB.size) ((hy.below hB).more hB.size) hn hm hw hw' (by omega) (by omega))
  have H6 := Lib.hid (fun W (hB : Below w.heap.size w W) => rroots_any p x y n m cap cap' xs ss W ((hx.below hB).more hB.size) ((hy.below hB).more hB.size) hn hm hw hw' (by omega) (by omega) hc)
  generalize sumN p z i = a1 at H1 H2
  generalize sumE p i = a2 at H1 H2
  generalize evalN p xs z = a3 at H3 H4
  generalize evalE p n = a4 at H3 H4
  generalize rootsN p xs ss = a5 at H5 H6
  generalize rootsE p n m = a6 at H5 H6
  have t1 : (a1 == a1) = true := by simp
  have t2 : (a2 == a2) = true := by simp
  have t3 : (a3 == a3) = true := by simp
  have t4 : (a4 == a4) = true := by simp
  have t5 : ((a5 : Int) == (a5 : Int)) = true := by simp
  have t6 : (a6 == a6) = true := by simp
  have d3 : decide (65540 < (n : Int)) = false := by simp; omega
  have d4 : decide (40 < (m : Int)) = false := by simp; omega
  obtain ⟨q1, q2, h1, h2, h3⟩ : ∃ q1 q2 : Bool, decide (40 < (n : Int)) = q1 ∧ decide ((n : Int) ≤ 65536) = q2 ∧ (q1 = false ∨ q2 = false) := ⟨_, _, rfl, rfl, by
    rcases hl with h | h
    · exact .inl (decide_eq_false (by omega))
    · exact .inr (decide_eq_false (by omega))⟩
  obtain ⟨q3, q4, h4, h5, h6⟩ : ∃ q1 q2 : Bool, decide (400 < i) = q1 ∧ decide (i ≤ 65536) = q2 ∧ (q1 = false ∨ q2 = false) := ⟨_, _, rfl, rfl, by
    rcases hi with h | h
    · exact .inl (decide_eq_false (by omega))
    · exact .inr (decide_eq_false (by omega))⟩
  clear hx hy hn hm hw hw' hl hi hl1 hl' z0 z1 i0 i1 hc
  rcases h3 with rfl | rfl <;> rcases h6 with rfl | rfl
  all_goals
    first | cases q1 | skip
    all_goals first | cases q3 | skip
    all_goals first | cases q2 | skip
    all_goals first | cases q4 | skip
  all_goals
    go_enter Try.func3, Try.ntmps3
    go_wp2_with (go_at_call 7; refine (live8_any _).mono ?_; rintro e w' ⟨rfl, nd, rfl⟩)
    refine (H1.out _).mono ?_
    rintro e w' ⟨rfl, n1, rfl⟩
    go_wp2_with fail
    refine (H2.out _).mono ?_
    rintro e w2 ⟨rfl, b2⟩
    have B2 := Lib.hid (below_of_draws b2)
    clear b2
    go_wp2_with fail
    refine (H3.out _ B2.out).mono ?_
    rintro e w3 ⟨rfl, b3⟩
    have B3 := Lib.hid (B2.out.trans (b3.mono B2.out.size))
    clear b3
    go_wp2_with fail
    refine (H4.out _ B3.out).mono ?_
    rintro e w' ⟨rfl, n4, rfl⟩
    have B4 := Lib.hid (below_draws B3.out n4)
    go_wp2_with fail
    refine (H5.out _ B4.out).mono ?_
    rintro e w5 ⟨rfl, b5⟩
    have B5 := Lib.hid (B4.out.trans (b5.mono B4.out.size))
    clear b5
    go_wp2_with fail
    refine (H6.out _ B5.out).mono ?_
    rintro e w' ⟨rfl, n6, rfl⟩
    go_wp2_with fail
    go_ret
    exact ⟨rfl, below_draws B5.out _⟩

set_option maxRecDepth 100000 in
set_option maxHeartbeats 2000000 in
theorem walk_GeomDoes (p z i : Int) (x : Option Addr) (len cap : Nat) (zs : List Int) (y : Option Addr) (len' cap' : Nat) (zs' : List Int) (w : World) (_hp : (Lit.int .u64 p).wf = true) (hz : (Lit.int .u64 z).wf = true) (hi : (Lit.int .i64 i).wf = true) (hr : RowIn .u64 w x len cap zs) (hr' : RowIn .u64 w y len' cap' zs') :
    Calls Try.prog 3 #[.int .u64 p, .int .u64 z, .int .i64 i, .slice x len cap, .slice y len' cap'] w fun e w' => e = .returned (.bool true) ∧ Below w.heap.size w w' := by
  obtain ⟨xs, -, hn, hcp, hm, hx, hw⟩ := hr.reads
  obtain ⟨ys, -, hn', hcp', hm', hy, hw'⟩ := hr'.reads
  have zb := bounds_u64 hz
  have ib := bounds_i64 hi
  unfold maxLen at hm hm'
  by_cases hM : (len ≤ 40 ∨ 65536 < len) ∧ len ≤ 65540 ∧ len' ≤ 40 ∧ (i ≤ 400 ∨ 65536 < i)
  · exact geomdoes_main p z i x y len len' cap cap' xs ys w hx hy hn hn' hw hw' hcp' (by omega) (by omega) (by omega) (by omega) hM.1 hM.2.1 hM.2.2.1 hM.2.2.2
  · have D := Lib.hid (fun n => draws_below w.heap.size w n)
    clear hr hr' hx hy hn hn' hw hw'
    obtain ⟨q1, h1⟩ : ∃ q, decide (40 < (len : Int)) = q := ⟨_, rfl⟩
    obtain ⟨q2, h2⟩ : ∃ q, decide ((len : Int) ≤ 65536) = q := ⟨_, rfl⟩
    obtain ⟨q3, h3⟩ : ∃ q, decide (65540 < (len : Int)) = q := ⟨_, rfl⟩
    obtain ⟨q4, h4⟩ : ∃ q, decide (40 < (len' : Int)) = q := ⟨_, rfl⟩
    obtain ⟨q5, h5⟩ : ∃ q, decide (400 < i) = q := ⟨_, rfl⟩
    obtain ⟨q6, h6⟩ : ∃ q, decide (i ≤ 65536) = q := ⟨_, rfl⟩
    have hq : (((q1 && q2) || q3) || q4) = true ∨ (q5 = true ∧ q6 = true) := by
      subst h1 h2 h3 h4 h5 h6
      simp only [Bool.or_eq_true, Bool.and_eq_true, decide_eq_true_eq]
      omega
    clear hM
    rcases hq with hq | ⟨rfl, rfl⟩
    all_goals
      cases q1 <;> cases q2 <;> cases q3 <;> cases q4 <;> first
        | (exfalso; revert hq; decide)
        | (go_enter Try.func3, Try.ntmps3
           go_wp2_with (go_at_call 7; refine (live8_any _).mono ?_; rintro e w' ⟨rfl, nd, rfl⟩)
           go_ret
           exact ⟨rfl, D.out _⟩)

end Go.Proofs.Ytancfpekiecoiaa
