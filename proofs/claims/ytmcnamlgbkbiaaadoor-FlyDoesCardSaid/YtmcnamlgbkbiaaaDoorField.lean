/-
  What each function of package field comes to, as a contract over every input: the numbers of XMath. No condition but that the numbers are 64-bit words.
-/
import Derived.Test.YtmcnamlgbkbiaaaDoorProg
import Derived.Test.YtmcnamlgbkbiaaaDoorMath
import Derived.WalkKit
import Derived.WalkSpells
import Derived.Deep.QuietTactic
import Derived.BigQuiet
import Derived.Lib.Hide
namespace Go.Proofs.YtmcnamlgbkbiaaaDoor
open Go.RowKit

theorem ret_u64 {a b : Int} (h : a = b) : Ending.returned (.int .u64 a) = .returned (.int .u64 b) := by rw [h]

theorem known_yes (p : Int) (w : World) (h : Fp.kn p = true) :
    Calls Tryd.prog 24 #[.int .u64 p] w fun e w' => e = .returned (.bool true) ∧ w = w' := by
  rcases Fp.kn_cases h with h | h | h <;> subst h
  all_goals
    go_enter Tryd.func24, Tryd.ntmps24
    go_wp2
    go_ret
    exact ⟨rfl, rfl⟩

theorem known_no (p : Int) (w : World) (h : Fp.kn p = false) :
    Calls Tryd.prog 24 #[.int .u64 p] w fun e w' => e = .returned (.bool false) ∧ w = w' := by
  simp only [Fp.kn, Bool.or_eq_false_iff] at h
  obtain ⟨⟨h1, h2⟩, h3⟩ := h
  go_enter Tryd.func24, Tryd.ntmps24
  go_wp2
  go_ret
  exact ⟨rfl, rfl⟩

/-- It returns v, and has only drawn. -/
def RetQ (v : Value) (w : World) (e : Ending) (w' : World) : Prop := e = .returned v ∧ ∃ n, w' = w.drewN n

theorem reduce_yes (p a : Int) (w : World) (h : Fp.kn p = true) (a0 : 0 ≤ a) (a1 : a < 18446744073709551616) :
    Calls Tryd.prog 59 #[.int .u64 p, .int .u64 a] w fun e w' => e = .returned (.int .u64 (Fp.red p a)) ∧ w = w' := by
  have hr : Hid (Fp.red p a = a % p) := Lib.hid (by unfold Fp.red; rw [if_pos h])
  have hb := Fp.kn_bd h
  obtain ⟨b1, b2⟩ := hb
  have l1 := Fp.md_lo a (Fp.kn_pos h)
  have l2 := Fp.md_hi a (Fp.kn_pos h)
  have H := Lib.hid h; clear h
  go_enter Tryd.func59, Tryd.ntmps59
  go_wp2_with (go_at_call 24; refine (known_yes p _ H.out).mono ?_; rintro e w' ⟨rfl, rfl⟩)
  go_ret
  exact ⟨ret_u64 hr.out.symm, rfl⟩

theorem add_yes (p a b : Int) (w : World) (h : Fp.kn p = true) (a0 : 0 ≤ a) (a1 : a < 18446744073709551616) (b0 : 0 ≤ b) (b1 : b < 18446744073709551616) :
    Calls Tryd.prog 20 #[.int .u64 p, .int .u64 a, .int .u64 b] w (RetQ (.int .u64 (Fp.add p a b)) w) := by
  have hr : Hid (Fp.add p a b = (a + b) % p) := Lib.hid (by unfold Fp.add; rw [if_pos h])
  obtain ⟨p1, p2⟩ := Fp.kn_bd h
  have l1 := Fp.md_lo a (Fp.kn_pos h)
  have l2 := Fp.md_hi a (Fp.kn_pos h)
  have l3 := Fp.md_lo b (Fp.kn_pos h)
  have l4 := Fp.md_hi b (Fp.kn_pos h)
  have H := Lib.hid h; clear h
  by_cases hc : a % p < p - b % p
  · have he := Lib.hid (Fp.add_low (Fp.kn_pos H.out) hc)
    go_enter Tryd.func20, Tryd.ntmps20
    go_wp2_with (go_at_call 24; refine (known_yes p _ H.out).mono ?_; rintro e w' ⟨rfl, rfl⟩)
    go_quiet (fail)
    go_wp2
    go_ret
    exact ⟨ret_u64 (he.out.trans hr.out.symm), _, rfl⟩
  · have he := Lib.hid (Fp.add_high (a := a) (b := b) (Fp.kn_pos H.out) (by omega))
    go_enter Tryd.func20, Tryd.ntmps20
    go_wp2_with (go_at_call 24; refine (known_yes p _ H.out).mono ?_; rintro e w' ⟨rfl, rfl⟩)
    go_quiet (fail)
    go_wp2
    go_ret
    exact ⟨ret_u64 (he.out.trans hr.out.symm), _, rfl⟩

theorem sub_yes (p a b : Int) (w : World) (h : Fp.kn p = true) (a0 : 0 ≤ a) (a1 : a < 18446744073709551616) (b0 : 0 ≤ b) (b1 : b < 18446744073709551616) :
    Calls Tryd.prog 65 #[.int .u64 p, .int .u64 a, .int .u64 b] w (RetQ (.int .u64 (Fp.sub p a b)) w) := by
  have hr : Hid (Fp.sub p a b = (a - b) % p) := Lib.hid (by unfold Fp.sub; rw [if_pos h])
  obtain ⟨p1, p2⟩ := Fp.kn_bd h
  have l1 := Fp.md_lo a (Fp.kn_pos h)
  have l2 := Fp.md_hi a (Fp.kn_pos h)
  have l3 := Fp.md_lo b (Fp.kn_pos h)
  have l4 := Fp.md_hi b (Fp.kn_pos h)
  have H := Lib.hid h; clear h
  by_cases hc : a % p < b % p
  · have he := Lib.hid (Fp.sub_low (Fp.kn_pos H.out) hc)
    go_enter Tryd.func65, Tryd.ntmps65
    go_wp2_with (go_at_call 24; refine (known_yes p _ H.out).mono ?_; rintro e w' ⟨rfl, rfl⟩)
    go_quiet (fail)
    go_wp2
    go_ret
    exact ⟨ret_u64 (he.out.trans hr.out.symm), _, rfl⟩
  · have he := Lib.hid (Fp.sub_high (a := a) (b := b) (Fp.kn_pos H.out) (by omega))
    go_enter Tryd.func65, Tryd.ntmps65
    go_wp2_with (go_at_call 24; refine (known_yes p _ H.out).mono ?_; rintro e w' ⟨rfl, rfl⟩)
    go_quiet (fail)
    go_wp2
    go_ret
    exact ⟨ret_u64 (he.out.trans hr.out.symm), _, rfl⟩

theorem reduce_any (p a : Int) (w : World) (a0 : 0 ≤ a) (a1 : a < 18446744073709551616) :
    Calls Tryd.prog 59 #[.int .u64 p, .int .u64 a] w fun e w' => e = .returned (.int .u64 (Fp.red p a)) ∧ w = w' := by
  cases h : Fp.kn p
  · have he := Lib.hid (Fp.red_no a h)
    have H := Lib.hid h; clear h
    go_enter Tryd.func59, Tryd.ntmps59
    go_wp2_with (go_at_call 24; refine (known_no p _ H.out).mono ?_; rintro e w' ⟨rfl, rfl⟩)
    go_ret
    exact ⟨ret_u64 he.out.symm, rfl⟩
  · exact reduce_yes p a w h a0 a1

theorem add_any (p a b : Int) (w : World) (a0 : 0 ≤ a) (a1 : a < 18446744073709551616) (b0 : 0 ≤ b) (b1 : b < 18446744073709551616) :
    Calls Tryd.prog 20 #[.int .u64 p, .int .u64 a, .int .u64 b] w (RetQ (.int .u64 (Fp.add p a b)) w) := by
  cases h : Fp.kn p
  · have he := Lib.hid (Fp.red_no (a + b) h)
    have H := Lib.hid h; clear h
    go_enter Tryd.func20, Tryd.ntmps20
    go_wp2_with (go_at_call 24; refine (known_no p _ H.out).mono ?_; rintro e w' ⟨rfl, rfl⟩)
    go_ret
    exact ⟨ret_u64 he.out.symm, 0, rfl⟩
  · exact add_yes p a b w h a0 a1 b0 b1

theorem sub_any (p a b : Int) (w : World) (a0 : 0 ≤ a) (a1 : a < 18446744073709551616) (b0 : 0 ≤ b) (b1 : b < 18446744073709551616) :
    Calls Tryd.prog 65 #[.int .u64 p, .int .u64 a, .int .u64 b] w (RetQ (.int .u64 (Fp.sub p a b)) w) := by
  cases h : Fp.kn p
  · have he := Lib.hid (Fp.red_no (a - b) h)
    have H := Lib.hid h; clear h
    go_enter Tryd.func65, Tryd.ntmps65
    go_wp2_with (go_at_call 24; refine (known_no p _ H.out).mono ?_; rintro e w' ⟨rfl, rfl⟩)
    go_ret
    exact ⟨ret_u64 he.out.symm, 0, rfl⟩
  · exact sub_yes p a b w h a0 a1 b0 b1

end Go.Proofs.YtmcnamlgbkbiaaaDoor
