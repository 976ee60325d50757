/-
  The walk of VoteOrder: in whatever order three words stand, the same one is told, and the place moves along.
-/
import Derived.Test.YtnonoemhefjliaaVoteLive
namespace Go.Proofs.Ytnonoemhefjliaa
open Go.RowKit

/-- Three, of three words made anew. -/
theorem three_new (a b c : Int) (W : World) : Calls Try.prog 12 #[.slice (some ⟨W.heap.size, 0, none⟩) 3 3] (W.alloc (.cells #[.int .u64 a, .int .u64 b, .int .u64 c] 27)) (RetT (W.alloc (.cells #[.int .u64 a, .int .u64 b, .int .u64 c] 27)) (t3 a b c) (p3 a b c) (e3 a b c)) := by
  have h := three_any (some ⟨W.heap.size, 0, none⟩) 3 3 [a, b, c] (W.alloc (trio .u64 27 a b c)) _ (reads_trio W .u64 27 a b c) rfl
  exact h

set_option maxRecDepth 100000 in
set_option maxHeartbeats 4000000 in
theorem order_one (a b c u p q r : Int) (w : World) (hc : (p = 0 ∧ q = 2 ∧ r = 2) ∨ (p = 1 ∧ q = 0 ∧ r = 1) ∨ (p = 2 ∧ q = 1 ∧ r = 0))
    (h1 : t3 a b c = u ∧ p3 a b c = [p] ∧ e3 a b c = 0) (h2 : t3 b c a = u ∧ p3 b c a = [q] ∧ e3 b c a = 0) (h3 : t3 c b a = u ∧ p3 c b a = [r] ∧ e3 c b a = 0) :
    Calls Try.prog 5 #[.int .u64 a, .int .u64 b, .int .u64 c] w fun e w' => e = .returned (.bool true) ∧ Below w.heap.size w w' := by
  have HV := Lib.hid (live13_any w)
  have P1 := Lib.hid (three_new a b c)
  have P2 := Lib.hid (three_new b c a)
  have P3 := Lib.hid (three_new c b a)
  rw [h1.1, h1.2.1, h1.2.2] at P1
  rw [h2.1, h2.2.1, h2.2.2] at P2
  rw [h3.1, h3.2.1, h3.2.2] at P3
  clear h1 h2 h3
  obtain ⟨rfl, rfl, rfl⟩ | ⟨rfl, rfl, rfl⟩ | ⟨rfl, rfl, rfl⟩ := hc
  all_goals
    go_enter Try.func5, Try.ntmps5
    go_wp2_with (first
      | (go_at_call 9; refine HV.out.mono ?_; rintro e w1 ⟨rfl, hb1⟩; have B1 := Lib.hid hb1; clear hb1 HV)
      | (go_at_call 12; refine (P1.out w1).mono ?_; rintro e w2 ⟨x1, k1, rfl, hO, hB⟩; have B2 := Lib.hid (below_on' (below_al B1.out _) hB); have O1 := Lib.hid hO; clear hO hB P1 B1)
      | (go_at_call 12; refine (P2.out w2).mono ?_; rintro e w3 ⟨x2, k2, rfl, hO, hB⟩; have B3 := Lib.hid (below_on' (below_al B2.out _) hB); have T2 := Lib.hid (below_on' (below_al (Below.refl _ w2) _) hB); have O2 := Lib.hid hO; clear hO hB P2 B2)
      | (go_at_call 12; refine (P3.out w3).mono ?_; rintro e w4 ⟨x3, k3, rfl, hO, hB⟩; have B4 := Lib.hid (below_on' (below_al B3.out _) hB); have T3 := Lib.hid (below_on' (below_al (Below.refl _ w3) _) hB); obtain ⟨g1, rfl, -, l1, c1⟩ := one_cell O1.out; obtain ⟨g2, rfl, -, l2, c2⟩ := one_cell O2.out; obtain ⟨g3, rfl, -, l3, c3⟩ := one_cell hO; have c2' := (T3.out.cell (p := ⟨g2, 0, none⟩) l2).trans c2; have c1' := ((below_on' T2.out T3.out).cell (p := ⟨g1, 0, none⟩) l1).trans c1; clear hO hB P3 B3 c1 c2 T2 T3 O1 O2 l1 l2 l3))
    go_quiet (fail)
    go_wp2
    go_ret
    exact ⟨rfl, below_draws B4.out _⟩

set_option maxRecDepth 100000 in
set_option maxHeartbeats 4000000 in
theorem order_none (a b c u er : Int) (w : World) (he : er = 0 ∨ (er = 10 ∧ u = 0))
    (h1 : t3 a b c = u ∧ p3 a b c = [] ∧ e3 a b c = er) (h2 : t3 b c a = u ∧ p3 b c a = [] ∧ e3 b c a = er) (h3 : t3 c b a = u ∧ p3 c b a = [] ∧ e3 c b a = er) :
    Calls Try.prog 5 #[.int .u64 a, .int .u64 b, .int .u64 c] w fun e w' => e = .returned (.bool true) ∧ Below w.heap.size w w' := by
  have HV := Lib.hid (live13_any w)
  have P1 := Lib.hid (three_new a b c)
  have P2 := Lib.hid (three_new b c a)
  have P3 := Lib.hid (three_new c b a)
  rw [h1.1, h1.2.1, h1.2.2] at P1
  rw [h2.1, h2.2.1, h2.2.2] at P2
  rw [h3.1, h3.2.1, h3.2.2] at P3
  clear h1 h2 h3
  obtain rfl | ⟨rfl, rfl⟩ := he
  · go_enter Try.func5, Try.ntmps5
    go_wp2_with (first
      | (go_at_call 9; refine HV.out.mono ?_; rintro e w1 ⟨rfl, hb1⟩; have B1 := Lib.hid hb1; clear hb1 HV)
      | (go_at_call 12; refine (P1.out w1).mono ?_; rintro e w2 ⟨x1, k1, rfl, hO, hB⟩; have B2 := Lib.hid (below_on' (below_al B1.out _) hB); clear hO hB P1 B1)
      | (go_at_call 12; refine (P2.out w2).mono ?_; rintro e w3 ⟨x2, k2, rfl, hO, hB⟩; have B3 := Lib.hid (below_on' (below_al B2.out _) hB); clear hO hB P2 B2)
      | (go_at_call 12; refine (P3.out w3).mono ?_; rintro e w4 ⟨x3, k3, rfl, hO, hB⟩; have B4 := Lib.hid (below_on' (below_al B3.out _) hB); clear hO hB P3 B3))
    go_quiet (fail)
    go_wp2
    go_ret
    exact ⟨rfl, below_draws B4.out _⟩
  · go_enter Try.func5, Try.ntmps5
    go_wp2_with (first
      | (go_at_call 9; refine HV.out.mono ?_; rintro e w1 ⟨rfl, hb1⟩; have B1 := Lib.hid hb1; clear hb1 HV)
      | (go_at_call 12; refine (P1.out w1).mono ?_; rintro e w2 ⟨x1, k1, rfl, hO, hB⟩; have B2 := Lib.hid (below_on' (below_al B1.out _) hB); clear hO hB P1 B1)
      | (go_at_call 12; refine (P2.out w2).mono ?_; rintro e w3 ⟨x2, k2, rfl, hO, hB⟩; have B3 := Lib.hid (below_on' (below_al B2.out _) hB); clear hO hB P2 B2)
      | (go_at_call 12; refine (P3.out w3).mono ?_; rintro e w4 ⟨x3, k3, rfl, hO, hB⟩; have B4 := Lib.hid (below_on' (below_al B3.out _) hB); clear hO hB P3 B3))
    go_ret
    exact ⟨rfl, B4.out⟩

theorem walk_VoteOrder (a b c : Int) (_ha : (Lit.int .u64 a).wf = true) (_hb : (Lit.int .u64 b).wf = true) (_hc : (Lit.int .u64 c).wf = true) (w : World) :
    Calls Try.prog 5 #[.int .u64 a, .int .u64 b, .int .u64 c] w fun e w' => e = .returned (.bool true) ∧ Below w.heap.size w w' := by
  by_cases hbc : b = c
  · by_cases hab : a = b
    · refine order_none a b c b 0 w (.inl rfl) ?_ ?_ ?_
      all_goals simp [t3, p3, e3, hab, ← hbc]
    · have hba : ¬ b = a := fun e => hab e.symm
      refine order_one a b c b 0 2 2 w (.inl ⟨rfl, rfl, rfl⟩) ?_ ?_ ?_
      all_goals simp [t3, p3, e3, hab, hba, ← hbc]
  · have hcb : ¬ c = b := fun e => hbc e.symm
    by_cases hca : c = a
    · refine order_one a b c c 1 0 1 w (.inr (.inl ⟨rfl, rfl, rfl⟩)) ?_ ?_ ?_
      all_goals simp [t3, p3, e3, hbc, ← hca]
    · have hac : ¬ a = c := fun e => hca e.symm
      by_cases hab : a = b
      · refine order_one a b c a 2 1 0 w (.inr (.inr ⟨rfl, rfl, rfl⟩)) ?_ ?_ ?_
        all_goals simp [t3, p3, e3, hbc, hcb, hab]
      · have hba : ¬ b = a := fun e => hab e.symm
        refine order_none a b c 0 10 w (.inr ⟨rfl, rfl⟩) ?_ ?_ ?_
        all_goals simp [t3, p3, e3, hbc, hcb, hca, hac, hab, hba]

end Go.Proofs.Ytnonoemhefjliaa
