/-
  What the document's own answers of layer 3 come to (brackenref03): the same numbers as root's.
-/
import Derived.Test.YtmcnamlgbkbiaaaDoorRefInv
import Derived.Test.YtmcnamlgbkbiaaaDoorRoot
namespace Go.Proofs.YtmcnamlgbkbiaaaDoor
open Go.RowKit

theorem rrgen_any (p : Int) (w : World) :
    Calls Tryd.prog 46 #[.int .u64 p] w fun e w' => e = .returned (.int .u64 (Fp.gen p)) ∧ w = w' := by
  by_cases e0 : p = 18446744069414584321
  · subst e0
    go_enter Tryd.func46, Tryd.ntmps46
    go_wp2
    go_ret
    exact ⟨rfl, rfl⟩
  by_cases e1 : p = 998244353
  · subst e1
    clear e0
    go_enter Tryd.func46, Tryd.ntmps46
    go_wp2
    go_ret
    exact ⟨rfl, rfl⟩
  by_cases e2 : p = 2013265921
  · subst e2
    clear e0 e1
    go_enter Tryd.func46, Tryd.ntmps46
    go_wp2
    go_ret
    exact ⟨rfl, rfl⟩
  have HE : Hid ((0 : Int) = (Fp.gen p : Int)) := Lib.hid (by unfold Fp.gen; rw [if_neg e0, if_neg e1, if_neg e2]; rfl)
  have d0 : (p == 18446744069414584321) = false := beq_eq_false_iff_ne.2 e0
  have d1 : (p == 998244353) = false := beq_eq_false_iff_ne.2 e1
  have d2 : (p == 2013265921) = false := beq_eq_false_iff_ne.2 e2
  clear e0 e1 e2
  go_enter Tryd.func46, Tryd.ntmps46
  go_wp2
  go_ret
  exact ⟨ret_u64 HE.out, rfl⟩

theorem may_any (p n : Int) (w : World) (hn : -9223372036854775808 ≤ n ∧ n < 9223372036854775808) :
    Calls Tryd.prog 45 #[.int .u64 p, .int .i64 n] w fun e w' => e = .returned (.int .i64 (if Fp.kn p = false then 2 else if n < 1 ∨ 8192 < n then 1 else 0)) ∧ w = w' := by
  cases h : Fp.kn p
  · have H := Lib.hid h; clear h
    go_enter Tryd.func45, Tryd.ntmps45
    go_wp2_with (go_at_call 27; refine (rknown_no p _ H.out).mono ?_; rintro e w' ⟨rfl, rfl⟩)
    go_ret
    exact ⟨rfl, rfl⟩
  · have H := Lib.hid h; clear h
    by_cases h1 : n < 1
    · go_enter Tryd.func45, Tryd.ntmps45
      go_wp2_with (go_at_call 27; refine (rknown_yes p _ H.out).mono ?_; rintro e w' ⟨rfl, rfl⟩)
      go_ret
      exact ⟨rfl, rfl⟩
    by_cases h2 : 8192 < n
    · go_enter Tryd.func45, Tryd.ntmps45
      go_wp2_with (go_at_call 27; refine (rknown_yes p _ H.out).mono ?_; rintro e w' ⟨rfl, rfl⟩)
      go_ret
      exact ⟨rfl, rfl⟩
    · go_enter Tryd.func45, Tryd.ntmps45
      go_wp2_with (go_at_call 27; refine (rknown_yes p _ H.out).mono ?_; rintro e w' ⟨rfl, rfl⟩)
      go_ret
      exact ⟨rfl, rfl⟩

theorem rroot_any (p n : Int) (w : World) (hn : -9223372036854775808 ≤ n ∧ n < 9223372036854775808) :
    Calls Tryd.prog 28 #[.int .u64 p, .int .i64 n] w (RetQ (.tuple #[.int .u64 (rootN p n), .int .i64 (rootE p n)]) w) := by
  have HC := Lib.hid (may_any p n)
  unfold rootN
  rcases rootE_cases p n with ⟨h, hE⟩ | ⟨h, h1, hE⟩ | ⟨h, h1, h2, h3, hE⟩ | ⟨h, h1, h2, h3, hE⟩
  · rw [hE, if_neg (by omega)]
    have ec : Hid ((if Fp.kn p = false then (2 : Int) else if n < 1 ∨ 8192 < n then 1 else 0) = 2) := Lib.hid (by rw [if_pos h])
    clear hE h
    go_enter Tryd.func28, Tryd.ntmps28
    go_wp2_with (go_at_call 45; refine (HC.out _ hn).mono ?_; rw [ec.out]; rintro e w' ⟨rfl, rfl⟩)
    go_ret2
    exact ⟨rfl, 0, rfl⟩
  · rw [hE, if_neg (by omega)]
    have ec : Hid ((if Fp.kn p = false then (2 : Int) else if n < 1 ∨ 8192 < n then 1 else 0) = 1) := Lib.hid (by rw [if_neg (by simp [h]), if_pos h1])
    clear hE h h1
    go_enter Tryd.func28, Tryd.ntmps28
    go_wp2_with (go_at_call 45; refine (HC.out _ hn).mono ?_; rw [ec.out]; rintro e w' ⟨rfl, rfl⟩)
    go_ret2
    exact ⟨rfl, 0, rfl⟩
  · rw [hE, if_neg (by omega)]
    have ec : Hid ((if Fp.kn p = false then (2 : Int) else if n < 1 ∨ 8192 < n then 1 else 0) = 0) := Lib.hid (by rw [if_neg (by simp [h]), if_neg (by omega)])
    obtain ⟨p1, p2⟩ := Fp.kn_bd h
    have d : ((p - 1) % n != 0) = true := by rw [bne_iff_ne]; exact h3
    clear hE h h3
    go_enter Tryd.func28, Tryd.ntmps28
    go_wp2_with (go_at_call 45; refine (HC.out _ hn).mono ?_; rw [ec.out]; rintro e w' ⟨rfl, rfl⟩)
    go_ret2
    exact ⟨rfl, 0, rfl⟩
  · rw [hE, if_pos rfl]
    have ec : Hid ((if Fp.kn p = false then (2 : Int) else if n < 1 ∨ 8192 < n then 1 else 0) = 0) := Lib.hid (by rw [if_neg (by simp [h]), if_neg (by omega)])
    obtain ⟨p1, p2⟩ := Fp.kn_bd h
    have d : ((p - 1) % n != 0) = false := by rw [h3]; rfl
    obtain ⟨x0, x1, x2⟩ := root_exp h h1
    obtain ⟨g0, g1⟩ := Fp.gen_bd p
    have HE : Hid (Fp.pw p (Fp.gen p) ((p - 1) / n).toNat = Fp.rt p n.toNat) := Lib.hid (by rw [x2]; rfl)
    clear hE h h3 x2
    go_enter Tryd.func28, Tryd.ntmps28
    go_wp2_with (go_at_call 45; refine (HC.out _ hn).mono ?_; rw [ec.out]; rintro e w' ⟨rfl, rfl⟩)
    go_quiet (first
      | (go_at_call 46; exact Calls.quiet_of_same (flip_same (rrgen_any _ _)))
      | (go_at_call 30; exact Calls.quiet_of_same (flip_same (rpow_any _ _ _ _ (by omega) (by omega) (by omega) (by omega)))))
    go_wp2
    go_ret2
    exact ⟨tup_i HE.out, _, rfl⟩

end Go.Proofs.YtmcnamlgbkbiaaaDoor
