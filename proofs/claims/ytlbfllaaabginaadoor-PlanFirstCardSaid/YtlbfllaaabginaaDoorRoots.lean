/-
  Several texts in one: Root, RefRoot, Factor, Sizes, RefFac, Tab.
-/
import Derived.Test.YtlbfllaaabginaaDoorRows2
import Derived.Test.YtlbfllaaabginaaDoorGround
import Derived.Test.YtlbfllaaabginaaDoorRows
import Derived.Deep.RegionWith
import Derived.RangeFuncNested
import Derived.RangeFuncBound
import Derived.RangeFuncCalls
import Derived.RangeFuncLeaves
import Derived.RangeFuncBox
import Derived.Shelf.Abstract
import Derived.Shelf.RegionOpen
import Derived.OwnWalkIn
import Derived.TacticsInMore
import Derived.LoopNIn
import Derived.LoopIn
import Derived.ProofKit
import Derived.OpenShut
import Derived.MakeChecks
import Derived.LaidLaws
import Derived.LaidMore

/-!   What each function of package root comes to, over every input, in a world where the table of generators is as its own text lays it: nothing that was there is written.
-/

namespace Go.Proofs.YtlbfllaaabginaaDoor
open Go.RowKit

/-- The table of generators stands in its variable's own block, as it was laid. -/
def Gl (w : World) : Prop :=
  w.cell? ⟨0, 0, none⟩ = some (.int .u64 18446744069414584321) ∧ w.cell? ⟨0, 1, none⟩ = some (.int .u64 7) ∧
  w.cell? ⟨0, 2, none⟩ = some (.int .u64 998244353) ∧ w.cell? ⟨0, 3, none⟩ = some (.int .u64 3) ∧
  w.cell? ⟨0, 4, none⟩ = some (.int .u64 2013265921) ∧ w.cell? ⟨0, 5, none⟩ = some (.int .u64 31)
theorem Gl.lt {w : World} (h : Gl w) : 0 < w.heap.size := World.block_lt_of_cell? _ _ h.1
theorem Gl.below {w w' : World} {B : Nat} (h : Gl w) (hB : 0 < B) (hb : Below B w w') : Gl w' := by
  obtain ⟨h0, h1, h2, h3, h4, h5⟩ := h
  exact ⟨(hb.cell hB).trans h0, (hb.cell hB).trans h1, (hb.cell hB).trans h2, (hb.cell hB).trans h3, (hb.cell hB).trans h4, (hb.cell hB).trans h5⟩
theorem Gl.draws {w : World} (h : Gl w) (n : Nat) : Gl (w.drewN n) := h
theorem below_then {w w1 w2 : World} (h : Below w.heap.size w w1) (h2 : Below w1.heap.size w1 w2) : Below w.heap.size w w2 := h.trans (h2.mono h.size)
theorem Gl.then {w w1 : World} (h : Gl w) (hb : Below w.heap.size w w1) : Gl w1 := h.below h.lt hb

theorem tab_at (j a b : Int) (h : j = 0 ∧ a = 18446744069414584321 ∧ b = 7 ∨ j = 1 ∧ a = 998244353 ∧ b = 3 ∨ j = 2 ∧ a = 2013265921 ∧ b = 31) (w : World) :
    (Instr.index 128 (.agg #[.int .u64 18446744069414584321, .int .u64 7, .int .u64 998244353, .int .u64 3, .int .u64 2013265921, .int .u64 31]) (.int .i64 j)).run Tryd.prog w = .ok (.agg #[.int .u64 a, .int .u64 b]) w := by
  rcases h with ⟨rfl, rfl, rfl⟩ | ⟨rfl, rfl, rfl⟩ | ⟨rfl, rfl, rfl⟩ <;> kernel_rfl

theorem rgen_any (p : Int) (w : World) (hG : Gl w) :
    Calls Tryd.prog 87 #[.int .u64 p] w (RetB (.int .u64 (Fp.gen p)) w) := by
  obtain ⟨h0, h1, h2, h3, h4, h5⟩ := hG
  have i0 := tab_at 0 _ _ (.inl ⟨rfl, rfl, rfl⟩)
  have i1 := tab_at 1 _ _ (.inr (.inl ⟨rfl, rfl, rfl⟩))
  have i2 := tab_at 2 _ _ (.inr (.inr ⟨rfl, rfl, rfl⟩))
  by_cases e0 : p = 18446744069414584321
  · subst e0
    go_enter Tryd.func87, Tryd.ntmps87
    go_wp2
    refine wp_loop_rounds 1 ?_
    rw [rounds_succ]
    go_wp2
    go_ret
    exact ⟨rfl, below_al (Below.refl _ _) _⟩
  by_cases e1 : p = 998244353
  · subst e1
    clear e0
    go_enter Tryd.func87, Tryd.ntmps87
    go_wp2
    refine wp_loop_rounds 2 ?_
    rw [rounds_succ]
    go_wp2
    rw [rounds_succ]
    go_wp2
    go_ret
    exact ⟨rfl, below_al (below_al (Below.refl _ _) _) _⟩
  by_cases e2 : p = 2013265921
  · subst e2
    clear e0 e1
    go_enter Tryd.func87, Tryd.ntmps87
    go_wp2
    refine wp_loop_rounds 3 ?_
    rw [rounds_succ]
    go_wp2
    rw [rounds_succ]
    go_wp2
    rw [rounds_succ]
    go_wp2
    go_ret
    exact ⟨rfl, below_al (below_al (below_al (Below.refl _ _) _) _) _⟩
  have HE : Hid ((0 : Int) = (Fp.gen p : Int)) := Lib.hid (by unfold Fp.gen; rw [if_neg e0, if_neg e1, if_neg e2]; rfl)
  have d0 : ((18446744069414584321 : Int) == p) = false := beq_eq_false_iff_ne.2 (Ne.symm e0)
  have d1 : ((998244353 : Int) == p) = false := beq_eq_false_iff_ne.2 (Ne.symm e1)
  have d2 : ((2013265921 : Int) == p) = false := beq_eq_false_iff_ne.2 (Ne.symm e2)
  clear e0 e1 e2
  go_enter Tryd.func87, Tryd.ntmps87
  go_wp2
  refine wp_loop_rounds 4 ?_
  rw [rounds_succ]
  go_wp2
  rw [rounds_succ]
  go_wp2
  rw [rounds_succ]
  go_wp2
  rw [rounds_succ]
  go_wp2
  go_ret
  exact ⟨ret_u64 HE.out, below_al (below_al (below_al (Below.refl _ _) _) _) _⟩

theorem rootCheck_any (p n : Int) (w : World) (hn : -9223372036854775808 ≤ n ∧ n < 9223372036854775808) :
    Calls Tryd.prog 85 #[.int .u64 p, .int .i64 n] w fun e w' => e = .returned (.int .i64 (if Fp.kn p = false then 2 else if n < 1 ∨ 8192 < n then 1 else 0)) ∧ w = w' := by
  cases h : Fp.kn p
  · have H := Lib.hid h; clear h
    go_enter Tryd.func85, Tryd.ntmps85
    go_wp2_with (go_at_call 60; refine (known_no p _ H.out).mono ?_; rintro e w' ⟨rfl, rfl⟩)
    go_ret
    exact ⟨rfl, rfl⟩
  · have H := Lib.hid h; clear h
    by_cases h1 : n < 1
    · go_enter Tryd.func85, Tryd.ntmps85
      go_wp2_with (go_at_call 60; refine (known_yes p _ H.out).mono ?_; rintro e w' ⟨rfl, rfl⟩)
      go_ret
      exact ⟨rfl, rfl⟩
    by_cases h2 : 8192 < n
    · go_enter Tryd.func85, Tryd.ntmps85
      go_wp2_with (go_at_call 60; refine (known_yes p _ H.out).mono ?_; rintro e w' ⟨rfl, rfl⟩)
      go_ret
      exact ⟨rfl, rfl⟩
    · go_enter Tryd.func85, Tryd.ntmps85
      go_wp2_with (go_at_call 60; refine (known_yes p _ H.out).mono ?_; rintro e w' ⟨rfl, rfl⟩)
      go_ret
      exact ⟨rfl, rfl⟩

/-- What Root tells: an error's number, and the root. -/
def rootE (p n : Int) : Int := if Fp.kn p = false then 2 else if n < 1 ∨ 8192 < n then 1 else if (p - 1) % n ≠ 0 then 5 else 0
def rootN (p n : Int) : Int := if rootE p n = 0 then Fp.rt p n.toNat else 0
theorem rootE_cases (p n : Int) : Fp.kn p = false ∧ rootE p n = 2 ∨ Fp.kn p = true ∧ (n < 1 ∨ 8192 < n) ∧ rootE p n = 1 ∨ Fp.kn p = true ∧ 1 ≤ n ∧ n ≤ 8192 ∧ (p - 1) % n ≠ 0 ∧ rootE p n = 5 ∨ Fp.kn p = true ∧ 1 ≤ n ∧ n ≤ 8192 ∧ (p - 1) % n = 0 ∧ rootE p n = 0 := by
  unfold rootE
  cases h : Fp.kn p
  · simp
  · simp only [Bool.true_eq_false, if_false]
    by_cases h1 : n < 1 ∨ 8192 < n
    · simp [h1]
    · by_cases h2 : (p - 1) % n = 0
      · simp [h1, h2]; omega
      · simp [h1, h2]; omega
theorem rootN_bd (p n : Int) : 0 ≤ rootN p n ∧ rootN p n < 18446744069414584321 := by
  unfold rootN
  split
  · exact ⟨(Fp.rt_bd p n.toNat).1, (Fp.rt_bd p n.toNat).2.1⟩
  · omega
theorem root_exp {p n : Int} (h : Fp.kn p = true) (h1 : 1 ≤ n) : 0 ≤ (p - 1) / n ∧ (p - 1) / n < 18446744073709551616 ∧ ((p - 1) / n).toNat = (p.toNat - 1) / n.toNat := by
  obtain ⟨p1, p2⟩ := Fp.kn_bd h
  obtain ⟨q, rfl⟩ := Int.eq_ofNat_of_zero_le (show 0 ≤ p by omega)
  obtain ⟨m, rfl⟩ := Int.eq_ofNat_of_zero_le (show 0 ≤ n by omega)
  have e : ((q : Int) - 1) / (m : Int) = (((q - 1) / m : Nat) : Int) := by
    rw [Int.natCast_ediv]; congr 1; omega
  have hl := Nat.div_le_self (q - 1) m
  rw [e]
  have eq : ((q : Int)).toNat - 1 = q - 1 := by omega
  have em : ((m : Int)).toNat = m := by omega
  rw [eq, em]
  generalize (q - 1) / m = z at *
  exact ⟨by omega, by omega, by omega⟩
theorem tup_i {a b x : Int} (h : a = b) : Ending.returned (.tuple #[.int .u64 a, .int .i64 x]) = .returned (.tuple #[.int .u64 b, .int .i64 x]) := by rw [h]

set_option maxRecDepth 100000 in
theorem root_any (p n : Int) (w : World) (hG : Gl w) (hn : -9223372036854775808 ≤ n ∧ n < 9223372036854775808) :
    Calls Tryd.prog 62 #[.int .u64 p, .int .i64 n] w (RetB (.tuple #[.int .u64 (rootN p n), .int .i64 (rootE p n)]) w) := by
  have HC := Lib.hid (rootCheck_any p n)
  unfold rootN
  rcases rootE_cases p n with ⟨h, hE⟩ | ⟨h, h1, hE⟩ | ⟨h, h1, h2, h3, hE⟩ | ⟨h, h1, h2, h3, hE⟩
  · rw [hE, if_neg (by omega)]
    have ec : Hid ((if Fp.kn p = false then (2 : Int) else if n < 1 ∨ 8192 < n then 1 else 0) = 2) := Lib.hid (by rw [if_pos h])
    clear hE hG h
    go_enter Tryd.func62, Tryd.ntmps62
    go_wp2_with (go_at_call 85; refine (HC.out _ hn).mono ?_; rw [ec.out]; rintro e w' ⟨rfl, rfl⟩)
    go_ret2
    exact ⟨rfl, Below.refl _ _⟩
  · rw [hE, if_neg (by omega)]
    have ec : Hid ((if Fp.kn p = false then (2 : Int) else if n < 1 ∨ 8192 < n then 1 else 0) = 1) := Lib.hid (by rw [if_neg (by simp [h]), if_pos h1])
    clear hE hG h h1
    go_enter Tryd.func62, Tryd.ntmps62
    go_wp2_with (go_at_call 85; refine (HC.out _ hn).mono ?_; rw [ec.out]; rintro e w' ⟨rfl, rfl⟩)
    go_ret2
    exact ⟨rfl, Below.refl _ _⟩
  · rw [hE, if_neg (by omega)]
    have ec : Hid ((if Fp.kn p = false then (2 : Int) else if n < 1 ∨ 8192 < n then 1 else 0) = 0) := Lib.hid (by rw [if_neg (by simp [h]), if_neg (by omega)])
    obtain ⟨p1, p2⟩ := Fp.kn_bd h
    have d : ((p - 1) % n != 0) = true := by rw [bne_iff_ne]; exact h3
    clear hE hG h h3
    go_enter Tryd.func62, Tryd.ntmps62
    go_wp2_with (go_at_call 85; refine (HC.out _ hn).mono ?_; rw [ec.out]; rintro e w' ⟨rfl, rfl⟩)
    go_ret2
    exact ⟨rfl, Below.refl _ _⟩
  · rw [hE, if_pos rfl]
    have ec : Hid ((if Fp.kn p = false then (2 : Int) else if n < 1 ∨ 8192 < n then 1 else 0) = 0) := Lib.hid (by rw [if_neg (by simp [h]), if_neg (by omega)])
    obtain ⟨p1, p2⟩ := Fp.kn_bd h
    have d : ((p - 1) % n != 0) = false := by rw [h3]; rfl
    obtain ⟨x0, x1, x2⟩ := root_exp h h1
    obtain ⟨g0, g1⟩ := Fp.gen_bd p
    have HE : Hid (Fp.pw p (Fp.gen p) ((p - 1) / n).toNat = Fp.rt p n.toNat) := Lib.hid (by rw [x2]; rfl)
    have HG := Lib.hid hG
    clear hE hG h h3 x2
    go_enter Tryd.func62, Tryd.ntmps62
    go_wp2_with (go_at_call 85; refine (HC.out _ hn).mono ?_; rw [ec.out]; rintro e w' ⟨rfl, rfl⟩)
    refine wp_region_since (by kernel_rfl) (by kernel_rfl) ?_
    repeat (go_big_quiet_step (first
      | (go_at_call 87; rename_i s; exact since_call s (rgen_any _ _ (HG.out.below HG.out.lt s.below)))
      | (go_at_call 86; rename_i s; exact since_quiet s (pow_any _ _ _ _ (by omega) (by omega) (by omega) (by omega)))))
    refine wpQuiet_nil ?_
    rintro _ ⟨⟨W, hB⟩, rfl⟩
    go_wp2
    go_ret2
    exact ⟨tup_i HE.out, hB⟩

/-- What Order tells. -/
def orderE (p n : Int) : Int := if Fp.kn p = false then 2 else if n < 1 ∨ 8192 < n then 1 else 0
def orderB (p a n : Int) : Bool := if orderE p n = 0 then Fp.ord p a n.toNat else false
theorem orderE_cases (p n : Int) : orderE p n = 2 ∧ Fp.kn p = false ∨ orderE p n = 1 ∧ Fp.kn p = true ∧ (n < 1 ∨ 8192 < n) ∨ orderE p n = 0 ∧ Fp.kn p = true ∧ 1 ≤ n ∧ n ≤ 8192 := by
  unfold orderE
  cases h : Fp.kn p
  · simp
  · simp only [Bool.true_eq_false, if_false]
    by_cases h1 : n < 1 ∨ 8192 < n
    · simp [h1]
    · simp [h1]; omega
theorem tup_b {a b : Bool} {x : Int} (h : a = b) : Ending.returned (.tuple #[.bool a, .int .i64 x]) = .returned (.tuple #[.bool b, .int .i64 x]) := by rw [h]

/-- What Back tells. -/
def backN (p n : Int) : Int := if rootE p n = 0 then Fp.inv p (Fp.rt p n.toNat) else 0
theorem rt_dvd {p n : Int} (h : Fp.kn p = true) (h1 : 1 ≤ n) (h3 : (p - 1) % n = 0) : n.toNat ∣ p.toNat - 1 := by
  have hb := Fp.kn_bd h
  have := Int.dvd_of_emod_eq_zero h3
  rw [← Int.natCast_dvd_natCast]
  rwa [show ((n.toNat : Nat) : Int) = n by omega, show ((p.toNat - 1 : Nat) : Int) = p - 1 by omega]

theorem back_any (p n : Int) (w : World) (hG : Gl w) (hn : -9223372036854775808 ≤ n ∧ n < 9223372036854775808) :
    Calls Tryd.prog 103 #[.int .u64 p, .int .i64 n] w (RetB (.tuple #[.int .u64 (backN p n), .int .i64 (rootE p n)]) w) := by
  have HR := Lib.hid (root_any p n w hG hn); clear hG
  by_cases hE : rootE p n = 0
  · rcases rootE_cases p n with ⟨h, hE'⟩ | ⟨h, h1, hE'⟩ | ⟨h, h1, h2, h3, hE'⟩ | ⟨h, h1, h2, h3, -⟩
    · omega
    · omega
    · omega
    have hz := Fp.rt_ne h (rt_dvd h h1 h3) (by omega)
    obtain ⟨x0, x1, -⟩ := Fp.rt_bd p n.toNat
    unfold backN
    unfold rootN at HR
    rw [hE, if_pos rfl] at HR
    rw [hE, if_pos rfl]
    have HI := Lib.hid (fun W => inv_yes p (Fp.rt p n.toNat) W h x0 (by omega) hz)
    clear hE h h1 h2 h3 hz
    go_enter Tryd.func103, Tryd.ntmps103
    go_wp2_with (first
      | (go_at_call 62; refine HR.out.mono ?_; rintro e w1 ⟨rfl, hB⟩)
      | (go_at_call 84; refine (HI.out _).mono ?_; rintro e w' ⟨rfl, nd, rfl⟩))
    go_ret2
    exact ⟨rfl, below_draws hB _⟩
  · unfold backN
    unfold rootN at HR
    rw [if_neg hE] at HR
    rw [if_neg hE]
    have t : (rootE p n != 0) = true := by rw [bne_iff_ne]; exact hE
    clear hE
    go_enter Tryd.func103, Tryd.ntmps103
    go_wp2_with (go_at_call 62; refine HR.out.mono ?_; rintro e w1 ⟨rfl, hB⟩)
    go_ret2
    exact ⟨rfl, hB⟩

end Go.Proofs.YtlbfllaaabginaaDoor

/-!   What the document's own answers of layer 3 come to (brackenref03): the same numbers as root's.
-/

namespace Go.Proofs.YtlbfllaaabginaaDoor
open Go.RowKit

theorem rrgen_any (p : Int) (w : World) :
    Calls Tryd.prog 90 #[.int .u64 p] w fun e w' => e = .returned (.int .u64 (Fp.gen p)) ∧ w = w' := by
  by_cases e0 : p = 18446744069414584321
  · subst e0
    go_enter Tryd.func90, Tryd.ntmps90
    go_wp2
    go_ret
    exact ⟨rfl, rfl⟩
  by_cases e1 : p = 998244353
  · subst e1
    clear e0
    go_enter Tryd.func90, Tryd.ntmps90
    go_wp2
    go_ret
    exact ⟨rfl, rfl⟩
  by_cases e2 : p = 2013265921
  · subst e2
    clear e0 e1
    go_enter Tryd.func90, Tryd.ntmps90
    go_wp2
    go_ret
    exact ⟨rfl, rfl⟩
  have HE : Hid ((0 : Int) = (Fp.gen p : Int)) := Lib.hid (by unfold Fp.gen; rw [if_neg e0, if_neg e1, if_neg e2]; rfl)
  have d0 : (p == 18446744069414584321) = false := beq_eq_false_iff_ne.2 e0
  have d1 : (p == 998244353) = false := beq_eq_false_iff_ne.2 e1
  have d2 : (p == 2013265921) = false := beq_eq_false_iff_ne.2 e2
  clear e0 e1 e2
  go_enter Tryd.func90, Tryd.ntmps90
  go_wp2
  go_ret
  exact ⟨ret_u64 HE.out, rfl⟩

theorem may_any (p n : Int) (w : World) (hn : -9223372036854775808 ≤ n ∧ n < 9223372036854775808) :
    Calls Tryd.prog 89 #[.int .u64 p, .int .i64 n] w fun e w' => e = .returned (.int .i64 (if Fp.kn p = false then 2 else if n < 1 ∨ 8192 < n then 1 else 0)) ∧ w = w' := by
  cases h : Fp.kn p
  · have H := Lib.hid h; clear h
    go_enter Tryd.func89, Tryd.ntmps89
    go_wp2_with (go_at_call 65; refine (rknown_no p _ H.out).mono ?_; rintro e w' ⟨rfl, rfl⟩)
    go_ret
    exact ⟨rfl, rfl⟩
  · have H := Lib.hid h; clear h
    by_cases h1 : n < 1
    · go_enter Tryd.func89, Tryd.ntmps89
      go_wp2_with (go_at_call 65; refine (rknown_yes p _ H.out).mono ?_; rintro e w' ⟨rfl, rfl⟩)
      go_ret
      exact ⟨rfl, rfl⟩
    by_cases h2 : 8192 < n
    · go_enter Tryd.func89, Tryd.ntmps89
      go_wp2_with (go_at_call 65; refine (rknown_yes p _ H.out).mono ?_; rintro e w' ⟨rfl, rfl⟩)
      go_ret
      exact ⟨rfl, rfl⟩
    · go_enter Tryd.func89, Tryd.ntmps89
      go_wp2_with (go_at_call 65; refine (rknown_yes p _ H.out).mono ?_; rintro e w' ⟨rfl, rfl⟩)
      go_ret
      exact ⟨rfl, rfl⟩

theorem rroot_any (p n : Int) (w : World) (hn : -9223372036854775808 ≤ n ∧ n < 9223372036854775808) :
    Calls Tryd.prog 67 #[.int .u64 p, .int .i64 n] w (RetQ (.tuple #[.int .u64 (rootN p n), .int .i64 (rootE p n)]) w) := by
  have HC := Lib.hid (may_any p n)
  unfold rootN
  rcases rootE_cases p n with ⟨h, hE⟩ | ⟨h, h1, hE⟩ | ⟨h, h1, h2, h3, hE⟩ | ⟨h, h1, h2, h3, hE⟩
  · rw [hE, if_neg (by omega)]
    have ec : Hid ((if Fp.kn p = false then (2 : Int) else if n < 1 ∨ 8192 < n then 1 else 0) = 2) := Lib.hid (by rw [if_pos h])
    clear hE h
    go_enter Tryd.func67, Tryd.ntmps67
    go_wp2_with (go_at_call 89; refine (HC.out _ hn).mono ?_; rw [ec.out]; rintro e w' ⟨rfl, rfl⟩)
    go_ret2
    exact ⟨rfl, 0, rfl⟩
  · rw [hE, if_neg (by omega)]
    have ec : Hid ((if Fp.kn p = false then (2 : Int) else if n < 1 ∨ 8192 < n then 1 else 0) = 1) := Lib.hid (by rw [if_neg (by simp [h]), if_pos h1])
    clear hE h h1
    go_enter Tryd.func67, Tryd.ntmps67
    go_wp2_with (go_at_call 89; refine (HC.out _ hn).mono ?_; rw [ec.out]; rintro e w' ⟨rfl, rfl⟩)
    go_ret2
    exact ⟨rfl, 0, rfl⟩
  · rw [hE, if_neg (by omega)]
    have ec : Hid ((if Fp.kn p = false then (2 : Int) else if n < 1 ∨ 8192 < n then 1 else 0) = 0) := Lib.hid (by rw [if_neg (by simp [h]), if_neg (by omega)])
    obtain ⟨p1, p2⟩ := Fp.kn_bd h
    have d : ((p - 1) % n != 0) = true := by rw [bne_iff_ne]; exact h3
    clear hE h h3
    go_enter Tryd.func67, Tryd.ntmps67
    go_wp2_with (go_at_call 89; refine (HC.out _ hn).mono ?_; rw [ec.out]; rintro e w' ⟨rfl, rfl⟩)
    go_ret2
    exact ⟨rfl, 0, rfl⟩
  · rw [hE, if_pos rfl]
    have ec : Hid ((if Fp.kn p = false then (2 : Int) else if n < 1 ∨ 8192 < n then 1 else 0) = 0) := Lib.hid (by rw [if_neg (by simp [h]), if_neg (by omega)])
    obtain ⟨p1, p2⟩ := Fp.kn_bd h
    have d : ((p - 1) % n != 0) = false := by rw [h3]; rfl
    obtain ⟨x0, x1, x2⟩ := root_exp h h1
    obtain ⟨g0, g1⟩ := Fp.gen_bd p
    have HE : Hid (Fp.pw p (Fp.gen p) ((p - 1) / n).toNat = Fp.rt p n.toNat) := Lib.hid (by rw [x2]; rfl)
    clear hE h h3 x2
    go_enter Tryd.func67, Tryd.ntmps67
    go_wp2_with (go_at_call 89; refine (HC.out _ hn).mono ?_; rw [ec.out]; rintro e w' ⟨rfl, rfl⟩)
    go_quiet (first
      | (go_at_call 90; exact Calls.quiet_of_same (flip_same (rrgen_any _ _)))
      | (go_at_call 71; exact Calls.quiet_of_same (flip_same (rpow_any _ _ _ _ (by omega) (by omega) (by omega) (by omega)))))
    go_wp2
    go_ret2
    exact ⟨tup_i HE.out, _, rfl⟩

end Go.Proofs.YtlbfllaaabginaaDoor

/-!   The radices of a size as package factor tells them: a contract of the function value that tells them one by one, for every loop body.
-/

namespace Go.Proofs.YtlbfllaaabginaaDoor
open Go.RowKit Go.Shelf

attribute [local go_sem] Oper.semAt_some

theorem radices_any (n : Int) (w : World) :
    Calls Tryd.prog 64 #[.int .i64 n] w fun e w' =>
      e = .returned (.func (.func 88) #[] #[.pointer (some ⟨w.heap.size, 0, none⟩)]) ∧ w.alloc (.cells #[.int .i64 n] 3) = w' := by
  go_enter Tryd.func64, Tryd.ntmps64
  go_wp2
  go_ret
  exact ⟨rfl, rfl⟩

theorem four_idx (j a : Int) (h : j = 0 ∧ a = 4 ∨ j = 1 ∧ a = 2 ∨ j = 2 ∧ a = 3 ∨ j = 3 ∧ a = 5) (w : World) :
    (Instr.index 109 (.agg #[.int .i64 4, .int .i64 2, .int .i64 3, .int .i64 5]) (.int .i64 j)).run Tryd.prog w = .ok (.int .i64 a) w := by
  rcases h with ⟨rfl, rfl⟩ | ⟨rfl, rfl⟩ | ⟨rfl, rfl⟩ | ⟨rfl, rfl⟩ <;> kernel_rfl

theorem four_at (i : Nat) (r : Fac.Rad) (hr : Fac.four[i]? = some r) (w : World) :
    (Instr.index 109 (.agg #[.int .i64 4, .int .i64 2, .int .i64 3, .int .i64 5]) (.int .i64 (i : Int))).run Tryd.prog w = .ok (.int .i64 (r.1 : Int)) w := by
  refine four_idx _ _ ?_ w
  have hi : i < 4 := by
    rcases Nat.lt_or_ge i 4 with h | h
    · exact h
    · rw [List.getElem?_eq_none (by simpa [Fac.four] using h)] at hr; cases hr
  have : i = 0 ∨ i = 1 ∨ i = 2 ∨ i = 3 := by omega
  rcases this with rfl | rfl | rfl | rfl <;> simp [Fac.four] at hr <;> subst hr <;> simp

set_option maxRecDepth 100000 in
set_option maxHeartbeats 2000000 in
theorem rads1_in (k : Nat) (hk : 1 ≤ k) (l Bn n : Nat) (h1 : 1 ≤ n) (h2 : n ≤ 4096) (J Jx : List Fac.Rad → World → Prop)
    (hY : Hid (∀ pre x W, J pre W → pre.length < 12 → YieldAt Fence.wide (k - 1) Tryd.prog l #[.int .i64 (x.1 : Int)] W fun e W' =>
      (e = .returned (.bool true) ∧ J (pre ++ [x]) W' ∧ True) ∨ (e = .returned (.bool false) ∧ Jx (pre ++ [x]) W')))
    (W : World) (hB : W.cell? ⟨Bn, 0, none⟩ = some (.int .i64 (n : Int))) (h0 : J [] W) :
    CallsIn Fence.wide k Tryd.prog 88 #[.func (.yield l) #[] #[], .pointer (some ⟨Bn, 0, none⟩)] W fun e W' => (∃ v, e = .returned v) ∧
      ((∃ ys, ys = Fac.rads n ∧ J ys W') ∨ (∃ pre, True ∧ Jx pre W')) := by
  have HL := Lib.hid (Fac.rads_len n h1 h2)
  have HE := Lib.hid (Fac.enough n h1 h2)
  refine callsIn_of_wp Tryd.func88 rfl trivial ?_ rfl
  simp only [Tryd.ntmps88, List.size_toArray, List.length_cons, List.length_nil, Nat.reduceAdd, Nat.reduceSub, Array.replicate_succ, Array.replicate_zero, List.push_toArray, List.append_toArray, List.nil_append, List.cons_append]
  gi_wp2
  gi_loopw [3, 8] (fun s i wr => ∃ (j f m : Nat) (pre : List Fac.Rad), j ≤ 4 ∧ i = .int .i64 (j : Int) ∧ s = .int .i64 (m : Int) ∧ Fac.Enough f (Fac.four.drop j) m ∧ m ≤ 4096 ∧ pre ++ Fac.tell f (Fac.four.drop j) m = Fac.rads n ∧ J pre wr)
    (fun _ i _ => (4 - intOf i).toNat)
  case atStart => exact ⟨0, 16, n, [], by omega, rfl, rfl, HE.out, h2, rfl, h0⟩
  case round =>
    obtain ⟨j, f, m, pre, hj, rfl, rfl, hE, hm, hP, hJ⟩ := hrel
    rcases Nat.lt_or_ge j 4 with hj4 | hj4
    · obtain ⟨r, hr⟩ : ∃ r, Fac.four[j]? = some r := ⟨_, List.getElem?_eq_getElem (by simpa [Fac.four] using hj4)⟩
      have hd : Fac.four.drop j = r :: Fac.four.drop (j + 1) := by
        rw [List.drop_eq_getElem_cons (by simpa [Fac.four] using hj4)]
        rw [List.getElem?_eq_getElem (by simpa [Fac.four] using hj4)] at hr
        rw [Option.some.inj hr]
      rw [hd] at hE hP
      have hix := four_at j r hr
      have HS := Lib.hid (And.intro hE hP)
      have HD := Lib.hid hd
      obtain ⟨r1, r2⟩ := r.2
      have hdj : decide ((j : Int) < 4) = true := by simp; omega
      clear hE hP hd hr HE h0
      gi_wp2
      gi_loopw [3] (fun s wi => ∃ (g q : Nat) (pre : List Fac.Rad), s = .int .i64 (q : Int) ∧ q ≤ 4096 ∧ Fac.Enough g (r :: Fac.four.drop (j + 1)) q ∧ pre ++ Fac.tell g (r :: Fac.four.drop (j + 1)) q = Fac.rads n ∧ J pre wi)
        (fun s _ => (intOf s).toNat)
      case atStart => exact ⟨f, m, pre, rfl, hm, HS.out.1, HS.out.2, hJ⟩
      case round =>
        clear HS hJ pre f
        obtain ⟨f, q, pre, rfl, hq, hE, hP, hJ⟩ := hrel
        have hn0 : ((r.1 : Nat) : Int) ≠ 0 := by omega
        have hc := cast_mod q r.1
        have hcd := cast_div q r.1
        obtain ⟨g, rfl⟩ := hE.pos
        by_cases hd : q % r.1 = 0
        · have b1 : (((q : Nat) : Int) % ((r.1 : Nat) : Int) == 0) = true := by rw [hc, hd]; rfl
          rw [Fac.tell_yes hd] at hP
          have hE' := hE.yes hd
          have hlt : pre.length < 12 := by
            have := congrArg List.length hP
            have h12 := HL.out
            simp at this; omega
          obtain ⟨fn, tmps, assign, body, hy, hR⟩ := hY.out pre r wr hJ hlt
          obtain ⟨d, hdd⟩ : ∃ d, d = q / r.1 := ⟨_, rfl⟩
          have hh := Fac.div_half q r
          have hq1 := hE.2.2
          rw [← hdd] at hcd hh hE' hP
          have HP := Lib.hid (And.intro hE' hP)
          clear hc hd hE hE' hP hJ hdd
          gi_wp2
          refine hR.mono ?_
          rintro e W3 (⟨rfl, hJ3, _⟩ | ⟨rfl, hJx3⟩)
          · gi_wp2
            go_roundw
            case rel => exact ⟨g, d, pre ++ [r], rfl, by omega, HP.out.1, by rw [← HP.out.2]; simp, hJ3⟩
            case measure => simp [intOf]; omega
          · gi_wp2
            refine bodyPost_ret (results_none rfl _ _ _) rfl ?_
            exact ⟨⟨_, rfl⟩, .inr ⟨_, trivial, hJx3⟩⟩
        · have b1 : (((q : Nat) : Int) % ((r.1 : Nat) : Int) == 0) = false := by rw [hc]; exact beq_eq_false_iff_ne.2 (by omega)
          rw [Fac.tell_no hd] at hP
          have HP := Lib.hid (And.intro hE.no hP)
          clear hc hd hE hP
          gi_wp2
          go_roundw
          case rel => exact ⟨j + 1, g, q, pre, by omega, by congr 1, rfl, HP.out.1, hq, HP.out.2, hJ⟩
          case measure => simp [intOf]; omega
    · obtain rfl : j = 4 := by omega
      have hP' : pre = Fac.rads n := by
        have : Fac.four.drop 4 = [] := rfl
        rw [this, Fac.tell_nil, List.append_nil] at hP
        exact hP
      clear hE hP HE
      gi_wp2
      go_end0
      exact ⟨⟨_, rfl⟩, .inl ⟨_, hP', hJ⟩⟩

theorem rads_stops (k : Nat) (hk : 1 ≤ k) (Bn n : Nat) (h1 : 1 ≤ n) (h2 : n ≤ 4096) (w : World) (hB : Bn < w.heap.size) (hc : w.cell? ⟨Bn, 0, none⟩ = some (.int .i64 (n : Int))) :
    SeqStopsK Fence.wide k Tryd.prog 88 #[.pointer (some ⟨Bn, 0, none⟩)] (fun r : Fac.Rad => #[.int .i64 (r.1 : Int)]) (fun _ _ => True)
      (fun ys => ys = Fac.rads n) (fun _ => True) 12 w := fun l J Jx W hW _ _ hY h0 =>
  rads1_in k hk l Bn n h1 h2 J Jx (Lib.hid hY) W ((hW.cell (p := ⟨Bn, 0, none⟩) hB).trans hc) h0

end Go.Proofs.YtlbfllaaabginaaDoor

/-!   What Smooth and Radices of package factor come to, over every input.
-/

namespace Go.Proofs.YtlbfllaaabginaaDoor
open Go.RowKit Go.Shelf

attribute [local go_sem] Oper.semAt_some

theorem smooth_out (n : Int) (w : World) (h : ¬ (1 ≤ n ∧ n ≤ 4096)) :
    Calls Tryd.prog 61 #[.int .i64 n] w fun e w' => e = .returned (.bool false) ∧ w = w' := by
  by_cases h1 : n < 1
  · have d1 : decide (n < 1) = true := by simpa using h1
    clear h
    go_enter Tryd.func61, Tryd.ntmps61
    go_wp2
    go_ret
    exact ⟨rfl, rfl⟩
  · have d1 : decide (n < 1) = false := by simpa using h1
    have d2 : decide (4096 < n) = true := by simp; omega
    clear h
    go_enter Tryd.func61, Tryd.ntmps61
    go_wp2
    go_ret
    exact ⟨rfl, rfl⟩

/-- Between two rounds of Smooth: the box of the product. -/
def SmInv (w : World) (pre : List Fac.Rad) (W : World) : Prop := Boxed W w.heap.size 3 (.int .i64 (Fac.prod pre : Nat)) ∧ Below w.heap.size w W
theorem SmInv.own {w : World} {B : Nat} (hB : w.heap.size ≤ B) : OwnFrom B (SmInv w) := by
  rintro js W W' row ⟨h1, h2⟩ hg hr
  exact ⟨boxed_stays h1 hg (fun r e => (hr r e).2), h2.grown hg h2.size (fun k e => Nat.le_trans hB (hr k e).1)⟩

set_option maxRecDepth 100000 in
set_option maxHeartbeats 2000000 in
theorem smooth_in (n : Nat) (w : World) (h1 : 1 ≤ n) (h2 : n ≤ 4096) :
    Calls Tryd.prog 61 #[.int .i64 (n : Int)] w (RetB (.bool (((Fac.prod (Fac.rads n) : Nat) : Int) == (n : Int))) w) := by
  have d1 : decide ((n : Int) < 1) = false := by simp; omega
  have d2 : decide ((4096 : Int) < (n : Int)) = false := by simp; omega
  refine (callsIn_wide (n := 3)).1 ?_
  refine callsIn_of_wp_marks Tryd.func61 rfl trivial ?_ rfl
  simp only [Tryd.ntmps61, List.size_toArray, List.length_cons, List.length_nil, Nat.reduceAdd, Nat.reduceSub, Array.replicate_succ, Array.replicate_zero, List.push_toArray, List.append_toArray, List.nil_append, List.cons_append]
  gi_wp2_with (refine ⟨trivial, ?_⟩; gi_at_call 64; refine (callsIn_wide.2 (radices_any _ _)).mono ?_; rintro e w' ⟨rfl, rfl⟩)
  obtain ⟨W1, hW1⟩ : ∃ W1, w.alloc (.cells #[.int .i64 1] 3) = W1 := ⟨_, rfl⟩
  have b1 : Boxed W1 w.heap.size 3 (.int .i64 1) := by rw [← hW1]; exact Boxed.new w 3 _
  have hs1 : W1.heap.size = w.heap.size + 1 := by rw [← hW1]; simp
  have hB1 : Below w.heap.size w W1 := by rw [← hW1]; exact (Below.refl _ w).alloc (Nat.le_refl _) _
  rw [hW1]
  have bN := Boxed.new W1 3 (.int .i64 (n : Int))
  have hI0 : SmInv w [] (W1.alloc (.cells #[.int .i64 (n : Int)] 3)) := ⟨b1.alloc _, hB1.alloc hB1.size _⟩
  rw [hs1] at bN
  clear hW1 d1 d2
  refine wpIn_rangeFunc_ownG rfl (by omega) (gf := 88) (lb := #[.pointer (some ⟨w.heap.size + 1, 0, none⟩)]) rfl trivial (enters_of Tryd.func88 (by kernel_rfl) rfl)
    (rads_stops 2 (by omega) (w.heap.size + 1) n h1 h2 _ (by simp [hs1]) bN.cell) (fun _ _ => trivial) (fun _ _ _ _ _ _ _ _ => trivial) (Below.refl _ _) (fun _ => rfl)
    (SmInv w) (fun _ _ _ => False) (SmInv.own (by simp; omega)) (fun _ _ _ _ _ hs _ _ => hs) hI0 ?a1 ?assign ?body ?done ?stop
  case assign =>
    intro l j W K hK
    gi_wp2
    exact hK
  case body =>
    rintro l pre r W ⟨hb, hB⟩ hl
    have cP := hb.cell
    have fP := hb.frozen
    obtain ⟨u, hu⟩ : ∃ u, u = Fac.prod (pre ++ [r]) := ⟨_, rfl⟩
    have hm : u ≤ 244140625 := by rw [hu]; exact Fac.prod_short (by simp; omega)
    have hz : ((Fac.prod pre : Nat) : Int) * (r.1 : Int) = (u : Int) := by rw [hu, Fac.prod_append, Fac.prod_one, Int.natCast_mul]
    have HU := Lib.hid hu
    obtain ⟨p, hp⟩ : ∃ p, p = Fac.prod pre := ⟨_, rfl⟩
    rw [← hp] at cP hz
    have HB := Lib.hid (And.intro hb hB)
    clear hb hB hp hu hI0 bN b1 hB1 h1 h2
    gi_wp2
    obtain ⟨hb, hB⟩ := HB.out
    refine ⟨(KeepsOthers.setCell _ _ _).from _, trivial, ?_, hB.setCell (p := ⟨w.heap.size, 0, none⟩) (Nat.le_refl _) _⟩
    rw [← HU.out]
    exact hb.set _
  case done =>
    rintro D ys W hD rfl ⟨hb, hB⟩ hK
    have cP := hb.cell
    gi_wp2
    refine ⟨by simp, .inl ⟨_, _, rfl, run_takeDeferred hK, ?_⟩⟩
    exact ⟨_, results_tmp rfl _ _ _, rfl, hB.trans (belowK_b (w := w) (Nat.le_refl _) W D _ _ (by simp at hD; omega) hK rfl rfl)⟩
  case stop =>
    rintro D c pre W _ _ h _
    exact h.elim

theorem smooth_any (n : Int) (w : World) : Calls Tryd.prog 61 #[.int .i64 n] w (RetB (.bool (Fac.sm n)) w) := by
  by_cases h : 1 ≤ n ∧ n ≤ 4096
  · obtain ⟨m, rfl⟩ : ∃ m : Nat, n = (m : Int) := ⟨n.toNat, by omega⟩
    have e : (((Fac.prod (Fac.rads m) : Nat) : Int) == (m : Int)) = Fac.sm (m : Int) := by
      rw [Bool.eq_iff_iff, beq_iff_eq]
      simp [Fac.sm]
      omega
    rw [← e]
    exact smooth_in m w (by omega) (by omega)
  · rw [Fac.sm_no h]
    exact (smooth_out n w h).mono fun _ _ ⟨he, hw⟩ => ⟨he, hw ▸ Below.refl _ _⟩

/-- Between two rounds of AppendSeq: the box of the list. -/
def ApInv (w : World) (pre : List Fac.Rad) (W : World) : Prop := (∃ v, Boxed W w.heap.size 65 v ∧ Owns .i64 3 W w.heap.size v (Fac.ints pre)) ∧ Below w.heap.size w W
theorem ApInv.own {w : World} {B : Nat} (hB : w.heap.size ≤ B) : OwnFrom B (ApInv w) := by
  rintro js W W' row ⟨⟨v, h1, h2⟩, h3⟩ hg hr
  exact ⟨⟨v, boxed_stays h1 hg (fun r e => (hr r e).2), owned_stays h2 hg (fun r e => (hr r e).2)⟩, h3.grown hg h3.size (fun k e => Nat.le_trans hB (hr k e).1)⟩

end Go.Proofs.YtlbfllaaabginaaDoor

/-!   What the document's own answers of layer 4 come to (brackenref04).
-/

namespace Go.Proofs.YtlbfllaaabginaaDoor
open Go.RowKit

/-- It returns the list and the number m, the list in a row of its own. -/
def OutRet (w : World) (xs : List Int) (m : Int) (e : Ending) (w' : World) : Prop := ∃ v, e = .returned (.tuple #[v, .int .i64 m]) ∧ Owns .i64 3 w' w.heap.size v xs ∧ Below w.heap.size w w'

set_option maxHeartbeats 1000000 in
theorem rout_any (r : Fac.Rad) : ∀ (f m : Nat) (w : World), Fac.Enough f [r] m → m ≤ 4096 →
    Calls Tryd.prog 91 #[.int .i64 (m : Int), .int .i64 (r.1 : Int)] w (OutRet w (Fac.ints (Fac.tell f [r] m)) (Fac.left f [r] m : Nat)) := by
  intro f
  induction f with
  | zero => intro m w h; have := h.1; simp at this
  | succ f ih =>
    intro m w hE hm
    obtain ⟨r1, r2⟩ := r.2
    have hn0 : ((r.1 : Nat) : Int) ≠ 0 := by omega
    by_cases hd : m % r.1 = 0
    · rw [Fac.tell_yes hd, Fac.left_yes hd]
      have b1 : (((m : Nat) : Int) % ((r.1 : Nat) : Int) != 0) = false := by rw [cast_mod, hd]; rfl
      obtain ⟨q, hq⟩ : ∃ q, q = m / r.1 := ⟨_, rfl⟩
      have hcd : ((m : Nat) : Int) / ((r.1 : Nat) : Int) = (q : Int) := by rw [hq]; exact cast_div m r.1
      have hh := Fac.div_half m r
      have hp := Fac.div_pos hd hE.2.2
      have HI := Lib.hid (ih (m / r.1) w (hE.yes hd) (by omega))
      have HT : Hid ((Fac.ints (Fac.tell f [r] (m / r.1))).length ≤ 12) := Lib.hid (by rw [Fac.ints_len]; exact Fac.tell_len f [r] (m / r.1) hp (by omega))
      rw [show Fac.ints (r :: Fac.tell f [r] (m / r.1)) = [(r.1 : Int)] ++ Fac.ints (Fac.tell f [r] (m / r.1)) from rfl]
      generalize Fac.ints (Fac.tell f [r] (m / r.1)) = ys at HI HT ⊢
      generalize ((Fac.left f [r] (m / r.1) : Nat) : Int) = z at HI ⊢
      rw [← hq] at HI hh
      obtain ⟨i0, hi, hz0, hz1, hz2⟩ := info_parts info_int
      clear ih hE hd hq hp
      go_enter Tryd.func91, Tryd.ntmps91
      go_wp2_with (first
        | (go_at_call 91; refine HI.out.mono ?_; rintro e w1 ⟨v, rfl, hO, hB⟩; obtain ⟨x, cap, rfl, hS⟩ := hO.src; have HS := Lib.hid hS; clear hS)
        | (at_builtin; refine wpList_append_list rfl _ _ 65 rfl w.heap.size 3 i0 .i64 8 Tryd.underlying65 hi hz0 hz1 hz2 _ [(r.1 : Int)] rfl (owns_one w1 .i64 _ _ _ hB.size) x _ cap ys rfl (HS.out.keep ((Below.refl _ w1).alloc (Nat.le_refl _) _)) (by have := HT.out; unfold maxLen; simp; omega) (by have := HT.out; simp; omega) (by have := hB.size; simp; omega) ?_; intro v' w2 hO2 hg2))
      go_ret2
      refine ⟨_, rfl, hO2, ?_⟩
      exact (hB.alloc hB.size _).grown hg2 (by have := hB.size; simp; omega) (fun k e => by have e' : some w1.heap.size = some k := e; cases e'; exact hB.size)
    · rw [Fac.tell_no hd, Fac.left_no hd, Fac.tell_nil, Fac.left_nil]
      have b1 : (((m : Nat) : Int) % ((r.1 : Nat) : Int) != 0) = true := by rw [cast_mod, bne_iff_ne]; omega
      clear ih hE hd
      go_enter Tryd.func91, Tryd.ntmps91
      go_wp2
      go_ret2
      exact ⟨_, rfl, Owns.nil, Below.refl _ _⟩

theorem rradices_out (n : Int) (w : World) (h : ¬ (1 ≤ n ∧ n ≤ 4096)) :
    Calls Tryd.prog 68 #[.int .i64 n] w (RetB (.tuple #[.slice none 0 0, .int .i64 4]) w) := by
  by_cases h1 : n < 1
  · have d1 : decide (n < 1) = true := by simpa using h1
    clear h
    go_enter Tryd.func68, Tryd.ntmps68
    go_wp2
    go_ret2
    exact ⟨rfl, Below.refl _ _⟩
  · have d1 : decide (n < 1) = false := by simpa using h1
    have d2 : decide (4096 < n) = true := by simp; omega
    clear h
    go_enter Tryd.func68, Tryd.ntmps68
    go_wp2
    go_ret2
    exact ⟨rfl, Below.refl _ _⟩

theorem four_cell (w : World) (t : TypeId) (j : Nat) (r : Fac.Rad) (hr : Fac.four[j]? = some r) :
    (w.alloc (.cells #[.int .i64 4, .int .i64 2, .int .i64 3, .int .i64 5] t)).cell? ⟨w.heap.size, j, none⟩ = some (.int .i64 (r.1 : Int)) := by
  have hi : j < 4 := by
    rcases Nat.lt_or_ge j 4 with h | h
    · exact h
    · rw [List.getElem?_eq_none (by simpa [Fac.four] using h)] at hr; cases hr
  have : j = 0 ∨ j = 1 ∨ j = 2 ∨ j = 3 := by omega
  rcases this with rfl | rfl | rfl | rfl <;> simp [Fac.four] at hr <;> subst hr <;> simp

set_option maxHeartbeats 2000000 in
theorem rradices_in (n : Nat) (w : World) (h1 : 1 ≤ n) (h2 : n ≤ 4096) :
    Calls Tryd.prog 68 #[.int .i64 (n : Int)] w fun e w' =>
      (Fac.over n = 1 → ∃ v, e = .returned (.tuple #[v, .int .i64 0]) ∧ Owns .i64 3 w' w.heap.size v (Fac.ints (Fac.rads n)) ∧ Below w.heap.size w w') ∧
      (Fac.over n ≠ 1 → RetB (.tuple #[.slice none 0 0, .int .i64 4]) w e w') := by
  have d1 : decide ((n : Int) < 1) = false := by simp; omega
  have d2 : decide ((4096 : Int) < (n : Int)) = false := by simp; omega
  have HE := Lib.hid (Fac.enough n h1 h2)
  have HL := Lib.hid (Fac.rads_len n h1 h2)
  obtain ⟨i0, hi, hz0, hz1, hz2⟩ := info_parts info_int
  have hB0 : Hid (Below w.heap.size w (w.alloc (.cells #[.int .i64 4, .int .i64 2, .int .i64 3, .int .i64 5] 3))) := Lib.hid ((Below.refl _ w).alloc (Nat.le_refl _) _)
  go_enter Tryd.func68, Tryd.ntmps68
  go_wp2
  obtain ⟨W, hW⟩ : ∃ W, W = w.alloc (.cells #[.int .i64 4, .int .i64 2, .int .i64 3, .int .i64 5] 3) := ⟨_, rfl⟩
  have hF := Lib.hid (four_cell w 3)
  have hs : Hid (W.heap.size = w.heap.size + 1) := Lib.hid (by rw [hW]; simp)
  rw [← hW] at hF hB0 ⊢
  clear hW
  go_loopw [0, 4, 17] (fun s v i wr => ∃ (j f m : Nat) (pre : List Fac.Rad) (o : Value), j ≤ 4 ∧ i = .int .i64 (j : Int) ∧ s = .int .i64 (m : Int) ∧ o = v ∧ Fac.Enough f (Fac.four.drop j) m ∧ m ≤ 4096 ∧ pre ++ Fac.tell f (Fac.four.drop j) m = Fac.rads n ∧ Fac.left f (Fac.four.drop j) m = Fac.over n ∧ Owns .i64 3 wr W.heap.size o (Fac.ints pre) ∧ Below W.heap.size W wr)
    (fun _ _ i _ => (4 - intOf i).toNat)
  case atStart => exact ⟨0, 16, n, [], _, by omega, rfl, rfl, rfl, HE.out, h2, rfl, rfl, Owns.nil, Below.refl _ _⟩
  case round =>
    obtain ⟨j, f, m, pre, o, hj, rfl, rfl, rfl, hE, hm, hP, hL, hO, hB⟩ := hrel
    rcases Nat.lt_or_ge j 4 with hj4 | hj4
    · obtain ⟨r, hr⟩ : ∃ r, Fac.four[j]? = some r := ⟨_, List.getElem?_eq_getElem (by simpa [Fac.four] using hj4)⟩
      have hd : Fac.four.drop j = r :: Fac.four.drop (j + 1) := by
        rw [List.drop_eq_getElem_cons (by simpa [Fac.four] using hj4)]
        rw [List.getElem?_eq_getElem (by simpa [Fac.four] using hj4)] at hr
        rw [Option.some.inj hr]
      rw [hd] at hE hP hL
      have hm1 := hE.2.2
      have hE1 : Fac.Enough 13 [r] m := ⟨by simp, by show m < 8192; omega, hm1⟩
      obtain ⟨f', hE', hT, hL'⟩ := Fac.tell_split 13 f m hE hE1
      have hcl := (hB.cell (p := ⟨w.heap.size, j, none⟩) (by have := hs.out; show w.heap.size < W.heap.size; omega)).trans (hF.out j r hr)
      have hpl : Hid ((Fac.ints pre).length ≤ 12) := Lib.hid (by rw [Fac.ints_len]; have := congrArg List.length hP; have h12 := HL.out; simp at this; omega)
      have HT : Hid ((Fac.ints (Fac.tell 13 [r] m)).length ≤ 12) := Lib.hid (by rw [Fac.ints_len]; exact Fac.tell_len 13 [r] m hm1 hm)
      have hle := Fac.left_le 13 [r] m
      rw [hT] at hP
      rw [hL'] at hL
      have HP := Lib.hid (And.intro hE' (And.intro hP hL))
      have HR := Lib.hid (rout_any r 13 m wr hE1 hm)
      have hdj : decide ((j : Int) < 4) = true := by simp; omega
      have HO := Lib.hid hO
      have HB := Lib.hid hB
      obtain ⟨z, hz⟩ : ∃ z, z = Fac.left 13 [r] m := ⟨_, rfl⟩
      rw [← hz] at hle HP HR
      generalize hys : Fac.tell 13 [r] m = ys at HT HP HR
      clear hE hP hL hd hr HE hE1 hE' hT hL' hO hB hz hys
      go_wp2_with (first
        | (go_at_call 91; refine HR.out.mono ?_; rintro e w1 ⟨v, rfl, hO1, hB1⟩; obtain ⟨x, cap, rfl, hS⟩ := hO1.src; have HS := Lib.hid hS; clear hS)
        | (at_builtin; refine wpList_append_list rfl _ _ 65 rfl W.heap.size 3 i0 .i64 8 Tryd.underlying65 hi hz0 hz1 hz2 _ (Fac.ints pre) rfl (HO.out.below hB1) x _ cap (Fac.ints ys) rfl HS.out (by have := HT.out; have := hpl.out; unfold maxLen; omega) (by have := HT.out; have := hpl.out; omega) (Nat.le_trans HB.out.size hB1.size) ?_; intro v' w2 hO2 hg2))
      go_roundw
      case rel =>
        refine ⟨j + 1, f', z, pre ++ ys, _, by omega, by congr 1, rfl, rfl, HP.out.1, by omega, by rw [List.append_assoc]; exact HP.out.2.1, HP.out.2.2, by rw [Fac.ints_append]; exact hO2, ?_⟩
        exact (HB.out.trans (hB1.mono HB.out.size)).grown hg2 (Nat.le_trans HB.out.size hB1.size) (fun k e => HO.out.ownBlock k e)
      case measure => simp [intOf]; omega
    · obtain rfl : j = 4 := by omega
      rw [show Fac.four.drop 4 = [] from rfl] at hP hL
      rw [Fac.tell_nil, List.append_nil] at hP
      rw [Fac.left_nil] at hL
      have HP := Lib.hid (And.intro hP hL)
      have HO := Lib.hid hO
      have hBW : Hid (Below w.heap.size w wr) := Lib.hid (hB0.out.trans (hB.mono (by have := hs.out; omega)))
      clear hE hP hL HE hO hB
      by_cases hm1 : m = 1
      · have b1 : ((m : Int) != 1) = false := by rw [hm1]; rfl
        go_wp2
        go_ret2
        refine ⟨fun _ => ⟨_, rfl, ?_, hBW.out⟩, fun h => absurd (HP.out.2.symm.trans hm1) h⟩
        rw [← HP.out.1]
        exact HO.out.mono (by have := hs.out; omega)
      · have b1 : ((m : Int) != 1) = true := by rw [bne_iff_ne]; omega
        go_wp2
        go_ret2
        exact ⟨fun h => absurd (HP.out.2.trans h) hm1, fun _ => ⟨rfl, hBW.out⟩⟩

theorem rradices_no (n : Int) (w : World) (h : Fac.sm n = false) :
    Calls Tryd.prog 68 #[.int .i64 n] w (RetB (.tuple #[.slice none 0 0, .int .i64 4]) w) := by
  by_cases hr : 1 ≤ n ∧ n ≤ 4096
  · obtain ⟨m, rfl⟩ : ∃ m : Nat, n = (m : Int) := ⟨n.toNat, by omega⟩
    rw [Fac.sm_over (by omega) (by omega)] at h
    exact (rradices_in m w (by omega) (by omega)).mono fun e w' hh => hh.2 (by simpa using h)
  · exact rradices_out n w hr

theorem rradices_yes (n : Nat) (w : World) (h : Fac.sm (n : Int) = true) :
    Calls Tryd.prog 68 #[.int .i64 (n : Int)] w fun e w' =>
      ∃ v, e = .returned (.tuple #[v, .int .i64 0]) ∧ Owns .i64 3 w' w.heap.size v (Fac.ints (Fac.rads n)) ∧ Below w.heap.size w w' := by
  obtain ⟨h1, h2, _⟩ := Fac.sm_of h
  rw [Fac.sm_over (by omega) (by omega)] at h
  exact (rradices_in n w (by omega) (by omega)).mono fun e w' hh => hh.1 (by simpa using h)

theorem rsmooth_any (n : Int) (w : World) : Calls Tryd.prog 66 #[.int .i64 n] w (RetB (.bool (Fac.sm n)) w) := by
  cases h : Fac.sm n with
  | false =>
    have HR := Lib.hid (rradices_no n w h)
    clear h
    go_enter Tryd.func66, Tryd.ntmps66
    go_wp2_with (go_at_call 68; refine HR.out.mono ?_; rintro e w' ⟨rfl, hb⟩)
    go_ret
    exact ⟨rfl, hb⟩
  | true =>
    obtain ⟨h1, _, _⟩ := Fac.sm_of h
    obtain ⟨m, rfl⟩ : ∃ m : Nat, n = (m : Int) := ⟨n.toNat, by omega⟩
    have HR := Lib.hid (rradices_yes m w h)
    clear h
    go_enter Tryd.func66, Tryd.ntmps66
    go_wp2_with (go_at_call 68; refine HR.out.mono ?_; rintro e w' ⟨v, rfl, ho, hb⟩)
    go_ret
    exact ⟨rfl, hb⟩

set_option maxHeartbeats 1000000 in
theorem rproduct_any (l : List Fac.Rad) (hl : l.length ≤ 12) (x : Option Addr) (n cap : Nat) (w : World) (B : Nat) (hx : Reads .i64 w B x (Fac.ints l)) (hn : l.length = n) :
    Calls Tryd.prog 69 #[.slice x n cap] w fun e w' => e = .returned (.int .i64 (Fac.prod l : Nat)) ∧ w = w' := by
  subst hn
  have HX := Lib.hid hx; clear hx
  go_enter Tryd.func69, Tryd.ntmps69
  go_wp2
  go_loop [3, 8] (fun p i => ∃ k q : Nat, k ≤ l.length ∧ i = .int .i64 (k : Int) ∧ p = .int .i64 (q : Int) ∧ q = Fac.prod (l.take k)) (fun _ i => l.length - (intOf i).toNat)
  case atStart => exact ⟨0, 1, Nat.zero_le _, rfl, rfl, rfl⟩
  case round =>
    obtain ⟨k, q, hk, rfl, rfl, hq⟩ := hrel
    by_cases hlt : k < l.length
    · obtain ⟨b, off, rfl, hb, hc⟩ := HX.out (by rw [Fac.ints_len]; omega)
      have c1 := hc k (by rw [Fac.ints_len]; exact hlt)
      rw [Fac.ints_get l k hlt] at c1
      obtain ⟨u, hu⟩ : ∃ u, u = Fac.prod (l.take (k + 1)) := ⟨_, rfl⟩
      have hm : u ≤ 244140625 := by rw [hu]; exact Fac.prod_short (by simp; omega)
      have hz : (q : Int) * (l[k].1 : Int) = (u : Int) := by rw [hq, hu, ← Fac.prod_take l k hlt, Int.natCast_mul]
      have HU := Lib.hid hu
      generalize l[k].1 = r at c1 hz
      clear hq hu hc HX
      go_wp2
      go_round
      case rel => exact ⟨k + 1, u, by omega, by congr 1, rfl, HU.out⟩
      case measure => simp [intOf]; omega
    · have HQ : Hid ((q : Int) = ((Fac.prod l : Nat) : Int)) := Lib.hid (by rw [hq, List.take_of_length_le (by omega)])
      clear HX hq
      go_wp2
      go_ret
      exact ⟨ret_i HQ.out, rfl⟩

end Go.Proofs.YtlbfllaaabginaaDoor

/-!   What a row that lists the table of generators gives the walks: the table's six cells hold its numbers.
-/

namespace Go.Proofs.YtlbfllaaabginaaDoor
open Go.RowKit

namespace Tab
theorem gNum : Tryd.prog.globalNamed "bracken/root.generators" = some 0 := by kernel_rfl
theorem gType : (Tryd.prog.globals[0]?).map (·.type) = some 128 := by kernel_rfl
theorem cells1 : Tryd.prog.cellsOf 22 = 1 := by kernel_rfl
theorem cells2 : Tryd.prog.cellsOf 127 = 2 := by kernel_rfl

theorem at_place {cs : List Value} {i n b : Nat} {v : Value} (hb : b < n) (h : (((cs.drop (i * n)).take n).drop b).take 1 = [v]) : cs[i * n + b]? = some v := by
  have h0 := congrArg (fun l => l[0]?) h
  simpa [List.getElem?_take, List.getElem?_drop, hb] using h0

theorem pair_at {W : World} {fuel : Nat} {cs : List Value} {d : DataW Unit × List MemPlace} {i : Nat} {a b : Int} {enc : TypeId × Value → Unit} {base : Nat} {spare : Nat → Bool} {held : Bool}
    (h : DataW.trod enc Tryd.prog W base spare held fuel 127 ((cs.drop (i * 2)).take 2) = some d) (e : d.1 = .agg [.lit (.int .u64 a), .lit (.int .u64 b)]) :
    cs[i * 2 + 0]? = some (.int .u64 a) ∧ cs[i * 2 + 1]? = some (.int .u64 b) := by
  obtain ⟨ys, m, rfl, rfl, -, hlen, hel⟩ := DataW.trod_struct Tryd.underlying127 h
  have hlen' : ys.length = 2 := hlen
  have e0 : DataW.trod enc Tryd.prog W base spare held m 22 ((((cs.drop (i * 2)).take 2).drop 0).take (Tryd.prog.cellsOf 22)) = ys[0]? := hel 0 _ rfl
  have e1 : DataW.trod enc Tryd.prog W base spare held m 22 ((((cs.drop (i * 2)).take 2).drop 1).take (Tryd.prog.cellsOf 22)) = ys[1]? := hel 1 _ rfl
  match ys, hlen', e, e0, e1 with
  | [y0, y1], _, e, e0, e1 =>
    simp only [List.map_cons, List.map_nil, DataW.agg.injEq, List.cons.injEq, and_true] at e
    rw [cells1] at e0 e1
    obtain ⟨k0, c0, x0, -⟩ := DataW.trod_int Tryd.underlying22 e0
    obtain ⟨k1, c1, x1, -⟩ := DataW.trod_int Tryd.underlying22 e1
    obtain ⟨f0, f1⟩ := e
    have k0e : k0 = a := by
      have : y0 = (.lit (.int .u64 k0), []) := x0
      rw [this] at f0; simpa using f0
    have k1e : k1 = b := by
      have : y1 = (.lit (.int .u64 k1), []) := x1
      rw [this] at f1; simpa using f1
    subst k0e
    subst k1e
    exact ⟨at_place (by omega) c0, at_place (by omega) c1⟩

theorem of_laid {W : World} (h : laidMetH Tryd.prog [("bracken/root.generators", Rows.laid_bracken_root_generators)] W) : Gl W := by
  rw [MakeChecks.laidMetH_plain _ _ _ (by kernel_rfl)] at h
  obtain ⟨ps, ⟨g0, t0, cs0, f0, p0, q0, hg0, ht0, hv0, hd0, _, _⟩, _, _⟩ := h
  obtain rfl := Option.some.inj (gNum.symm.trans hg0)
  obtain rfl := Option.some.inj (gType.symm.trans ht0)
  obtain ⟨xs, m, rfl, hx, -, hn, hel⟩ := DataW.trod_array Tryd.underlying128 hd0
  rw [cells2] at hel
  simp only [Rows.laid_bracken_root_generators, Prod.mk.injEq, DataW.agg.injEq] at hx
  have h0 := hel 0 (by decide)
  have h1 := hel 1 (by decide)
  have h2 := hel 2 (by decide)
  match xs, hn, hx, h0, h1, h2 with
  | [x0, x1, x2], _, hx, h0, h1, h2 =>
    simp only [List.map_cons, List.map_nil, List.cons.injEq, and_true] at hx
    obtain ⟨⟨y0, y1, y2⟩, -⟩ := hx
    obtain ⟨a0, b0⟩ := pair_at (d := x0) (i := 0) h0 y0.symm
    obtain ⟨a1, b1⟩ := pair_at (d := x1) (i := 1) h1 y1.symm
    obtain ⟨a2, b2⟩ := pair_at (d := x2) (i := 2) h2 y2.symm
    have hc := fun j => World.var?_cell hg0 hv0 j
    simp only [← Array.getElem?_toList] at hc
    exact ⟨(hc 0).trans a0, (hc 1).trans b0, (hc 2).trans a1, (hc 3).trans b1, (hc 4).trans a2, (hc 5).trans b2⟩
end Tab

end Go.Proofs.YtlbfllaaabginaaDoor
