/-
  What each function of package field comes to, as a contract over every input: the numbers of XMath. No condition but that the numbers are 64-bit words.
-/
import Derived.Test.YtceccconfnlggaaProg
import Derived.Test.YtceccconfnlggaaMath
import Derived.WalkKit
import Derived.WalkSpells
import Derived.Deep.QuietTactic
import Derived.BigQuiet
import Derived.Lib.Hide
namespace Go.Proofs.Ytceccconfnlggaa
open Go.RowKit

theorem ret_u64 {a b : Int} (h : a = b) : Ending.returned (.int .u64 a) = .returned (.int .u64 b) := by rw [h]

theorem known_yes (p : Int) (w : World) (h : Fp.kn p = true) :
    Calls Try.prog 19 #[.int .u64 p] w fun e w' => e = .returned (.bool true) ∧ w = w' := by
  rcases Fp.kn_cases h with h | h | h <;> subst h
  all_goals
    go_enter Try.func19, Try.ntmps19
    go_wp2
    go_ret
    exact ⟨rfl, rfl⟩

theorem known_no (p : Int) (w : World) (h : Fp.kn p = false) :
    Calls Try.prog 19 #[.int .u64 p] w fun e w' => e = .returned (.bool false) ∧ w = w' := by
  simp only [Fp.kn, Bool.or_eq_false_iff] at h
  obtain ⟨⟨h1, h2⟩, h3⟩ := h
  go_enter Try.func19, Try.ntmps19
  go_wp2
  go_ret
  exact ⟨rfl, rfl⟩

/-- It returns v, and has only drawn. -/
def RetQ (v : Value) (w : World) (e : Ending) (w' : World) : Prop := e = .returned v ∧ ∃ n, w' = w.drewN n

theorem reduce_yes (p a : Int) (w : World) (h : Fp.kn p = true) (a0 : 0 ≤ a) (a1 : a < 18446744073709551616) :
    Calls Try.prog 20 #[.int .u64 p, .int .u64 a] w fun e w' => e = .returned (.int .u64 (Fp.red p a)) ∧ w = w' := by
  have hr : Hid (Fp.red p a = a % p) := Lib.hid (by unfold Fp.red; rw [if_pos h])
  have hb := Fp.kn_bd h
  obtain ⟨b1, b2⟩ := hb
  have l1 := Fp.md_lo a (Fp.kn_pos h)
  have l2 := Fp.md_hi a (Fp.kn_pos h)
  have H := Lib.hid h; clear h
  go_enter Try.func20, Try.ntmps20
  go_wp2_with (go_at_call 19; refine (known_yes p _ H.out).mono ?_; rintro e w' ⟨rfl, rfl⟩)
  go_ret
  exact ⟨ret_u64 hr.out.symm, rfl⟩

theorem reduce_any (p a : Int) (w : World) (a0 : 0 ≤ a) (a1 : a < 18446744073709551616) :
    Calls Try.prog 20 #[.int .u64 p, .int .u64 a] w fun e w' => e = .returned (.int .u64 (Fp.red p a)) ∧ w = w' := by
  cases h : Fp.kn p
  · have he := Lib.hid (Fp.red_no a h)
    have H := Lib.hid h; clear h
    go_enter Try.func20, Try.ntmps20
    go_wp2_with (go_at_call 19; refine (known_no p _ H.out).mono ?_; rintro e w' ⟨rfl, rfl⟩)
    go_ret
    exact ⟨ret_u64 he.out.symm, rfl⟩
  · exact reduce_yes p a w h a0 a1

end Go.Proofs.Ytceccconfnlggaa
