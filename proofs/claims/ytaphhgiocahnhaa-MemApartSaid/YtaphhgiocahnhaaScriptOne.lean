/-
  What the small functions of package script, and of the document's, come to: Check, tryOf, idle and Nothing, Near; the comparison of two slices of events.
-/
import Derived.Test.YtaphhgiocahnhaaMathScript
import Derived.Test.YtaphhgiocahnhaaEvOne
import Derived.Laws.Rows
namespace Go.Proofs.Ytaphhgiocahnhaa
open Go.RowKit

theorem check_any (x : Option Addr) (n cap : Nat) (w : World) :
    Calls Try.prog 34 #[.slice x n cap] w fun e w' => e = .returned (.int .i64 (chk n)) ∧ w = w' := by
  by_cases h : 1024 < n
  · rw [chk_bad h]
    have hd : decide (1024 < (n : Int)) = true := by simp; omega
    go_enter Try.func34, Try.ntmps34
    go_wp2
    go_ret
    exact ⟨rfl, rfl⟩
  · rw [chk_ok (by omega)]
    have hd : decide (1024 < (n : Int)) = false := by simp; omega
    go_enter Try.func34, Try.ntmps34
    go_wp2
    go_ret
    exact ⟨rfl, rfl⟩

theorem rcheck_any (x : Option Addr) (n cap : Nat) (w : World) :
    Calls Try.prog 29 #[.slice x n cap] w fun e w' => e = .returned (.int .i64 (chk n)) ∧ w = w' := by
  by_cases h : 1024 < n
  · rw [chk_bad h]
    have hd : decide (1024 < (n : Int)) = true := by simp; omega
    go_enter Try.func29, Try.ntmps29
    go_wp2
    go_ret
    exact ⟨rfl, rfl⟩
  · rw [chk_ok (by omega)]
    have hd : decide (1024 < (n : Int)) = false := by simp; omega
    go_enter Try.func29, Try.ntmps29
    go_wp2
    go_ret
    exact ⟨rfl, rfl⟩

set_option maxHeartbeats 1000000 in
theorem idle_any (s : Ev) (n : Int) (w : World) (hs : EvOk s) : Calls Try.prog 38 #[evV s, .int .i64 n] w (RetB (.bool (nul s n)) w) := by
  obtain ⟨a, b, c, d, e, f⟩ := s
  unfold evV nul
  dsimp only
  by_cases h1 : f = 0
  · have t1 : (f == 0) = true := by simpa using h1
    rw [t1]
    go_enter Try.func38, Try.ntmps38
    go_wp2
    go_ret
    exact ⟨rfl, below_al (Below.refl _ _) _⟩
  · have t1 : (f == 0) = false := by simpa using h1
    rw [t1]
    by_cases h2 : e < 0
    · have t2 : decide (e < 0) = true := by simpa using h2
      rw [t2]
      go_enter Try.func38, Try.ntmps38
      go_wp2
      go_ret
      exact ⟨rfl, below_al (Below.refl _ _) _⟩
    · have t2 : decide (e < 0) = false := by simpa using h2
      rw [t2]
      cases t3 : decide (n ≤ e)
      · go_enter Try.func38, Try.ntmps38
        go_wp2
        go_ret
        exact ⟨rfl, below_al (Below.refl _ _) _⟩
      · go_enter Try.func38, Try.ntmps38
        go_wp2
        go_ret
        exact ⟨rfl, below_al (Below.refl _ _) _⟩

set_option maxHeartbeats 1000000 in
theorem nothing_any (s : Ev) (n : Int) (w : World) (hs : EvOk s) : Calls Try.prog 44 #[evV s, .int .i64 n] w (RetB (.bool (nul s n)) w) := by
  obtain ⟨a, b, c, d, e, f⟩ := s
  unfold evV nul
  dsimp only
  by_cases h1 : f = 0
  · have t1 : (f == 0) = true := by simpa using h1
    rw [t1]
    go_enter Try.func44, Try.ntmps44
    go_wp2
    go_ret
    exact ⟨rfl, below_al (Below.refl _ _) _⟩
  · have t1 : (f == 0) = false := by simpa using h1
    rw [t1]
    by_cases h2 : e < 0
    · have t2 : decide (e < 0) = true := by simpa using h2
      rw [t2]
      go_enter Try.func44, Try.ntmps44
      go_wp2
      go_ret
      exact ⟨rfl, below_al (Below.refl _ _) _⟩
    · have t2 : decide (e < 0) = false := by simpa using h2
      rw [t2]
      cases t3 : decide (n ≤ e)
      · go_enter Try.func44, Try.ntmps44
        go_wp2
        go_ret
        exact ⟨rfl, below_al (Below.refl _ _) _⟩
      · go_enter Try.func44, Try.ntmps44
        go_wp2
        go_ret
        exact ⟨rfl, below_al (Below.refl _ _) _⟩

end Go.Proofs.Ytaphhgiocahnhaa
