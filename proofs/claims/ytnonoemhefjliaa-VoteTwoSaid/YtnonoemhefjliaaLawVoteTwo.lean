/-
  The walk of VoteTwo: what is told two of the three words are; it is lost just if all three are different.
-/
import Derived.Test.YtnonoemhefjliaaLawVoteOrder
namespace Go.Proofs.Ytnonoemhefjliaa
open Go.RowKit

set_option maxRecDepth 100000 in
set_option maxHeartbeats 4000000 in
theorem two_in (a b c u n1 n2 n3 : Int) (ps : List Int) (m0 m1 m2 x1 x2 x3 : Bool) (w : World)
    (h : t3 a b c = u ∧ p3 a b c = ps ∧ e3 a b c = 0) (t0 : (a == u) = m0) (t1 : (b == u) = m1) (t2 : (c == u) = m2) (d1 : (a != b) = x1) (d2 : (b != c) = x2) (d3 : (a != c) = x3)
    (hc : (m0 = true ∧ m1 = true ∧ m2 = true ∧ x1 = false ∧ x2 = false ∧ x3 = false ∧ ps = [] ∧ n1 = 1 ∧ n2 = 2 ∧ n3 = 3) ∨ (m0 = false ∧ m1 = true ∧ m2 = true ∧ x1 = true ∧ x2 = false ∧ x3 = true ∧ ps = [0] ∧ n1 = 0 ∧ n2 = 1 ∧ n3 = 2) ∨
      (m0 = true ∧ m1 = false ∧ m2 = true ∧ x1 = true ∧ x2 = true ∧ x3 = false ∧ ps = [1] ∧ n1 = 1 ∧ n2 = 1 ∧ n3 = 2) ∨ (m0 = true ∧ m1 = true ∧ m2 = false ∧ x1 = false ∧ x2 = true ∧ x3 = true ∧ ps = [2] ∧ n1 = 1 ∧ n2 = 2 ∧ n3 = 2)) :
    Calls Try.prog 6 #[.int .u64 a, .int .u64 b, .int .u64 c] w fun e w' => e = .returned (.bool true) ∧ Below w.heap.size w w' := by
  have HV := Lib.hid (live13_any w)
  have P1 := Lib.hid (three_new a b c)
  rw [h.1, h.2.1, h.2.2] at P1
  clear h
  have HL : Hid (∀ W W' : World, Below (W.alloc (.cells #[.int .u64 a, .int .u64 b, .int .u64 c] 27)).heap.size (W.alloc (.cells #[.int .u64 a, .int .u64 b, .int .u64 c] 27)) W' → W'.cell? ⟨W.heap.size, 0, none⟩ = some (.int .u64 a) ∧ W'.cell? ⟨W.heap.size, 1, none⟩ = some (.int .u64 b) ∧ W'.cell? ⟨W.heap.size, 2, none⟩ = some (.int .u64 c)) := Lib.hid (fun W W' hB => by
    have hl : W.heap.size < (W.alloc (.cells #[.int .u64 a, .int .u64 b, .int .u64 c] 27)).heap.size := by simp
    exact ⟨(hB.cell (p := ⟨W.heap.size, 0, none⟩) hl).trans (by simp), (hB.cell (p := ⟨W.heap.size, 1, none⟩) hl).trans (by simp), (hB.cell (p := ⟨W.heap.size, 2, none⟩) hl).trans (by simp)⟩)
  have HC : Hid (∀ W B x k p, Owns .i64 3 W B (.slice x 1 k) [p] → ∃ g, x = some ⟨g, 0, none⟩ ∧ W.cell? ⟨g, 0, none⟩ = some (.int .i64 p)) := Lib.hid (fun W B x k p hO => by obtain ⟨g, h1, -, -, h4⟩ := one_cell hO; exact ⟨g, h1, h4⟩)
  obtain ⟨rfl, rfl, rfl, rfl, rfl, rfl, rfl, rfl, rfl, rfl⟩ | ⟨rfl, rfl, rfl, rfl, rfl, rfl, rfl, rfl, rfl, rfl⟩ | ⟨rfl, rfl, rfl, rfl, rfl, rfl, rfl, rfl, rfl, rfl⟩ | ⟨rfl, rfl, rfl, rfl, rfl, rfl, rfl, rfl, rfl, rfl⟩ := hc
  · go_enter Try.func6, Try.ntmps6
    go_wp2_with (first
      | (go_at_call 9; refine HV.out.mono ?_; rintro e w1 ⟨rfl, hb1⟩; have B1 := Lib.hid hb1; clear hb1 HV)
      | (go_at_call 12; refine (P1.out w1).mono ?_; rintro e w2 ⟨x1, k1, rfl, hO, hB⟩; have B2 := Lib.hid (below_on' (below_al B1.out _) hB); obtain ⟨l0, l1, l2⟩ := HL.out _ _ hB; clear hO hB P1 B1 HL HC))
    go_loopw [11, 54] (fun v i wr => ∃ k : Int, i = .int .i64 k ∧ wr = w2 ∧ ((k = 0 ∧ v = .int .i64 0) ∨ (k = 1 ∧ v = .int .i64 1) ∨ (k = 2 ∧ v = .int .i64 2) ∨ (k = 3 ∧ v = .int .i64 3))) (fun _ i _ => 3 - (intOf i).toNat)
    case atStart => exact ⟨0, rfl, rfl, .inl ⟨rfl, rfl⟩⟩
    case round =>
      obtain ⟨k, rfl, rfl, ⟨rfl, rfl⟩ | ⟨rfl, rfl⟩ | ⟨rfl, rfl⟩ | ⟨rfl, rfl⟩⟩ := hrel
      · go_wp2
        go_roundw
        case rel => exact ⟨1, by go_num, by first | rfl | trivial, .inr (.inl ⟨rfl, rfl⟩)⟩
        case measure => simp [intOf]
      · go_wp2
        go_roundw
        case rel => exact ⟨2, by go_num, by first | rfl | trivial, .inr (.inr (.inl ⟨rfl, rfl⟩))⟩
        case measure => simp [intOf]
      · go_wp2
        go_roundw
        case rel => exact ⟨3, by go_num, by first | rfl | trivial, .inr (.inr (.inr ⟨rfl, rfl⟩))⟩
        case measure => simp [intOf]
      · go_wp2
        go_ret
        exact ⟨rfl, B2.out⟩
  · go_enter Try.func6, Try.ntmps6
    go_wp2_with (first
      | (go_at_call 9; refine HV.out.mono ?_; rintro e w1 ⟨rfl, hb1⟩; have B1 := Lib.hid hb1; clear hb1 HV)
      | (go_at_call 12; refine (P1.out w1).mono ?_; rintro e w2 ⟨x1, k1, rfl, hO, hB⟩; have B2 := Lib.hid (below_on' (below_al B1.out _) hB); obtain ⟨l0, l1, l2⟩ := HL.out _ _ hB; obtain ⟨g, rfl, cg⟩ := HC.out _ _ _ _ _ hO; clear hO hB P1 B1 HL HC))
    go_loopw [11, 54] (fun v i wr => ∃ k : Int, i = .int .i64 k ∧ wr = w2 ∧ ((k = 0 ∧ v = .int .i64 0) ∨ (k = 1 ∧ v = .int .i64 0) ∨ (k = 2 ∧ v = .int .i64 1) ∨ (k = 3 ∧ v = .int .i64 2))) (fun _ i _ => 3 - (intOf i).toNat)
    case atStart => exact ⟨0, rfl, rfl, .inl ⟨rfl, rfl⟩⟩
    case round =>
      obtain ⟨k, rfl, rfl, ⟨rfl, rfl⟩ | ⟨rfl, rfl⟩ | ⟨rfl, rfl⟩ | ⟨rfl, rfl⟩⟩ := hrel
      · go_wp2
        go_roundw
        case rel => exact ⟨1, by go_num, by first | rfl | trivial, .inr (.inl ⟨rfl, rfl⟩)⟩
        case measure => simp [intOf]
      · go_wp2
        go_roundw
        case rel => exact ⟨2, by go_num, by first | rfl | trivial, .inr (.inr (.inl ⟨rfl, rfl⟩))⟩
        case measure => simp [intOf]
      · go_wp2
        go_roundw
        case rel => exact ⟨3, by go_num, by first | rfl | trivial, .inr (.inr (.inr ⟨rfl, rfl⟩))⟩
        case measure => simp [intOf]
      · go_wp2
        go_ret
        exact ⟨rfl, B2.out⟩
  · go_enter Try.func6, Try.ntmps6
    go_wp2_with (first
      | (go_at_call 9; refine HV.out.mono ?_; rintro e w1 ⟨rfl, hb1⟩; have B1 := Lib.hid hb1; clear hb1 HV)
      | (go_at_call 12; refine (P1.out w1).mono ?_; rintro e w2 ⟨x1, k1, rfl, hO, hB⟩; have B2 := Lib.hid (below_on' (below_al B1.out _) hB); obtain ⟨l0, l1, l2⟩ := HL.out _ _ hB; obtain ⟨g, rfl, cg⟩ := HC.out _ _ _ _ _ hO; clear hO hB P1 B1 HL HC))
    go_loopw [11, 54] (fun v i wr => ∃ k : Int, i = .int .i64 k ∧ wr = w2 ∧ ((k = 0 ∧ v = .int .i64 0) ∨ (k = 1 ∧ v = .int .i64 1) ∨ (k = 2 ∧ v = .int .i64 1) ∨ (k = 3 ∧ v = .int .i64 2))) (fun _ i _ => 3 - (intOf i).toNat)
    case atStart => exact ⟨0, rfl, rfl, .inl ⟨rfl, rfl⟩⟩
    case round =>
      obtain ⟨k, rfl, rfl, ⟨rfl, rfl⟩ | ⟨rfl, rfl⟩ | ⟨rfl, rfl⟩ | ⟨rfl, rfl⟩⟩ := hrel
      · go_wp2
        go_roundw
        case rel => exact ⟨1, by go_num, by first | rfl | trivial, .inr (.inl ⟨rfl, rfl⟩)⟩
        case measure => simp [intOf]
      · go_wp2
        go_roundw
        case rel => exact ⟨2, by go_num, by first | rfl | trivial, .inr (.inr (.inl ⟨rfl, rfl⟩))⟩
        case measure => simp [intOf]
      · go_wp2
        go_roundw
        case rel => exact ⟨3, by go_num, by first | rfl | trivial, .inr (.inr (.inr ⟨rfl, rfl⟩))⟩
        case measure => simp [intOf]
      · go_wp2
        go_ret
        exact ⟨rfl, B2.out⟩
  · go_enter Try.func6, Try.ntmps6
    go_wp2_with (first
      | (go_at_call 9; refine HV.out.mono ?_; rintro e w1 ⟨rfl, hb1⟩; have B1 := Lib.hid hb1; clear hb1 HV)
      | (go_at_call 12; refine (P1.out w1).mono ?_; rintro e w2 ⟨x1, k1, rfl, hO, hB⟩; have B2 := Lib.hid (below_on' (below_al B1.out _) hB); obtain ⟨l0, l1, l2⟩ := HL.out _ _ hB; obtain ⟨g, rfl, cg⟩ := HC.out _ _ _ _ _ hO; clear hO hB P1 B1 HL HC))
    go_loopw [11, 54] (fun v i wr => ∃ k : Int, i = .int .i64 k ∧ wr = w2 ∧ ((k = 0 ∧ v = .int .i64 0) ∨ (k = 1 ∧ v = .int .i64 1) ∨ (k = 2 ∧ v = .int .i64 2) ∨ (k = 3 ∧ v = .int .i64 2))) (fun _ i _ => 3 - (intOf i).toNat)
    case atStart => exact ⟨0, rfl, rfl, .inl ⟨rfl, rfl⟩⟩
    case round =>
      obtain ⟨k, rfl, rfl, ⟨rfl, rfl⟩ | ⟨rfl, rfl⟩ | ⟨rfl, rfl⟩ | ⟨rfl, rfl⟩⟩ := hrel
      · go_wp2
        go_roundw
        case rel => exact ⟨1, by go_num, by first | rfl | trivial, .inr (.inl ⟨rfl, rfl⟩)⟩
        case measure => simp [intOf]
      · go_wp2
        go_roundw
        case rel => exact ⟨2, by go_num, by first | rfl | trivial, .inr (.inr (.inl ⟨rfl, rfl⟩))⟩
        case measure => simp [intOf]
      · go_wp2
        go_roundw
        case rel => exact ⟨3, by go_num, by first | rfl | trivial, .inr (.inr (.inr ⟨rfl, rfl⟩))⟩
        case measure => simp [intOf]
      · go_wp2
        go_ret
        exact ⟨rfl, B2.out⟩

set_option maxRecDepth 100000 in
set_option maxHeartbeats 4000000 in
theorem two_lost (a b c : Int) (w : World) (h : t3 a b c = 0 ∧ p3 a b c = [] ∧ e3 a b c = 10) (d1 : (a != b) = true) (d2 : (b != c) = true) (d3 : (a != c) = true) :
    Calls Try.prog 6 #[.int .u64 a, .int .u64 b, .int .u64 c] w fun e w' => e = .returned (.bool true) ∧ Below w.heap.size w w' := by
  have HV := Lib.hid (live13_any w)
  have P1 := Lib.hid (three_new a b c)
  rw [h.1, h.2.1, h.2.2] at P1
  clear h
  go_enter Try.func6, Try.ntmps6
  go_wp2_with (first
    | (go_at_call 9; refine HV.out.mono ?_; rintro e w1 ⟨rfl, hb1⟩; have B1 := Lib.hid hb1; clear hb1 HV)
    | (go_at_call 12; refine (P1.out w1).mono ?_; rintro e w2 ⟨x1, k1, rfl, hO, hB⟩; have B2 := Lib.hid (below_on' (below_al B1.out _) hB); clear hO hB P1 B1))
  go_ret
  exact ⟨rfl, B2.out⟩

theorem walk_VoteTwo (a b c : Int) (_ha : (Lit.int .u64 a).wf = true) (_hb : (Lit.int .u64 b).wf = true) (_hc : (Lit.int .u64 c).wf = true) (w : World) :
    Calls Try.prog 6 #[.int .u64 a, .int .u64 b, .int .u64 c] w fun e w' => e = .returned (.bool true) ∧ Below w.heap.size w w' := by
  by_cases hbc : b = c
  · by_cases hab : a = b
    · subst hab
      subst hbc
      exact two_in a a a a 1 2 3 [] true true true false false false w ⟨by simp [t3], by simp [p3], by simp [e3]⟩ (by simp) (by simp) (by simp) (by simp) (by simp) (by simp) (.inl ⟨rfl, rfl, rfl, rfl, rfl, rfl, rfl, rfl, rfl, rfl⟩)
    · subst hbc
      exact two_in a b b b 0 1 2 [0] false true true true false true w ⟨by simp [t3], by simp [p3, hab], by simp [e3]⟩ (by simpa using hab) (by simp) (by simp) (by simpa using hab) (by simp) (by simpa using hab) (.inr (.inl ⟨rfl, rfl, rfl, rfl, rfl, rfl, rfl, rfl, rfl, rfl⟩))
  · by_cases hca : c = a
    · subst hca
      exact two_in c b c c 1 1 2 [1] true false true true true false w ⟨by simp [t3, hbc], by simp [p3, hbc], by simp [e3]⟩ (by simp) (by simpa using hbc) (by simp) (by simpa using fun e => hbc e.symm) (by simpa using hbc) (by simp) (.inr (.inr (.inl ⟨rfl, rfl, rfl, rfl, rfl, rfl, rfl, rfl, rfl, rfl⟩)))
    · by_cases hab : a = b
      · subst hab
        exact two_in a a c a 1 2 2 [2] true true false false true true w ⟨by simp [t3, hbc, hca], by simp [p3, hbc, hca], by simp [e3]⟩ (by simp) (by simp) (by simpa using hca) (by simp) (by simpa using hbc) (by simpa using hbc) (.inr (.inr (.inr ⟨rfl, rfl, rfl, rfl, rfl, rfl, rfl, rfl, rfl, rfl⟩)))
      · exact two_lost a b c w ⟨by simp [t3, hbc, hca, hab], by simp [p3, hbc, hca, hab], by simp [e3, hbc, hca, hab]⟩ (by simpa using hab) (by simpa using hbc) (by simpa using fun e => hca e.symm)

end Go.Proofs.Ytnonoemhefjliaa
