/-
  What cmp.Compare at ints comes to, and cmp.Or at two ints.
-/
import Derived.Test.YtaphhgiocahnhaaRow
namespace Go.Proofs.Ytaphhgiocahnhaa
open Go.RowKit

theorem isNaN_any (x : Int) (w : World) : Calls Try.prog 72 #[.int .i64 x] w fun e w' => e = .returned (.bool false) ∧ w = w' := by
  go_enter Try.func72, Try.ntmps72
  go_wp2
  go_ret
  exact ⟨rfl, rfl⟩

theorem flip_eq {P : Program} {f : FuncId} {args : Array Value} {w : World} {v : Ending} (h : Calls P f args w fun e w' => e = v ∧ w = w') : Calls P f args w fun e w' => e = v ∧ w' = w := h.mono fun _ _ h => ⟨h.1, h.2.symm⟩

def cfI (x y : Int) : Int := if x < y then -1 else if y < x then 1 else 0

set_option maxHeartbeats 1000000 in
theorem compare_any (x y : Int) (w : World) : Calls Try.prog 71 #[.int .i64 x, .int .i64 y] w fun e w' => e = .returned (.int .i64 (cfI x y)) ∧ w = w' := by
  unfold cfI
  by_cases h1 : x < y
  · rw [if_pos h1]
    go_enter Try.func71, Try.ntmps71
    go_wp2_with (go_at_call 72; refine (isNaN_any _ _).mono ?_; rintro e w2 ⟨rfl, rfl⟩)
    go_ret
    exact ⟨rfl, rfl⟩
  · rw [if_neg h1]
    by_cases h2 : y < x
    · rw [if_pos h2]
      go_enter Try.func71, Try.ntmps71
      go_wp2_with (go_at_call 72; refine (isNaN_any _ _).mono ?_; rintro e w2 ⟨rfl, rfl⟩)
      go_ret
      exact ⟨rfl, rfl⟩
    · rw [if_neg h2]
      go_enter Try.func71, Try.ntmps71
      go_wp2_with (go_at_call 72; refine (isNaN_any _ _).mono ?_; rintro e w2 ⟨rfl, rfl⟩)
      go_ret
      exact ⟨rfl, rfl⟩

/-- The first of two that is not 0. -/
def orI (x y : Int) : Int := if x = 0 then y else x

set_option maxHeartbeats 1000000 in
theorem or_any (b : Nat) (x y : Int) (w : World) (c0 : w.cell? ⟨b, 0, none⟩ = some (.int .i64 x)) (c1 : w.cell? ⟨b, 1, none⟩ = some (.int .i64 y)) :
    Calls Try.prog 70 #[.slice (some ⟨b, 0, none⟩) 2 2] w fun e w' => e = .returned (.int .i64 (orI x y)) ∧ w = w' := by
  have HX := Lib.hid c0
  have HY := Lib.hid c1
  clear c0 c1
  go_enter Try.func70, Try.ntmps70
  go_wp2
  go_loopw [8] (fun i wr => ∃ k : Nat, k ≤ 2 ∧ i = .int .i64 k ∧ wr = w ∧ Hid ((0 < k → x = 0) ∧ (1 < k → y = 0))) (fun i _ => 2 - (intOf i).toNat)
  case atStart => exact ⟨0, Nat.zero_le _, rfl, rfl, Lib.hid ⟨fun h => by omega, fun h => by omega⟩⟩
  case round =>
    obtain ⟨k, hk, rfl, rfl, HA⟩ := hrel
    obtain rfl | rfl | rfl : k = 0 ∨ k = 1 ∨ k = 2 := by omega
    · have c := HX.out
      by_cases h : x = 0
      · subst h
        go_wp2
        go_roundw
        case rel => exact ⟨1, by omega, by first | trivial | rfl, by first | trivial | rfl, Lib.hid ⟨fun _ => by first | trivial | rfl, fun h => by omega⟩⟩
        case measure => simp [intOf]
      · have t : (x != 0) = true := by simp [h]
        have HR : Hid (orI x y = x) := Lib.hid (by unfold orI; rw [if_neg h])
        go_wp2
        go_ret
        exact ⟨by rw [HR.out]; rfl, rfl⟩
    · have c := HY.out
      obtain rfl := HA.out.1 (by omega)
      by_cases h : y = 0
      · subst h
        go_wp2
        go_roundw
        case rel => exact ⟨2, by omega, by first | trivial | rfl, by first | trivial | rfl, Lib.hid ⟨fun _ => by first | trivial | rfl, fun _ => by first | trivial | rfl⟩⟩
        case measure => simp [intOf]
      · have t : (y != 0) = true := by simp [h]
        have HR : Hid (orI 0 y = y) := Lib.hid (by unfold orI; rw [if_pos rfl])
        go_wp2
        go_ret
        exact ⟨by rw [HR.out]; rfl, rfl⟩
    · obtain rfl := HA.out.1 (by omega)
      obtain rfl := HA.out.2 (by omega)
      go_wp2
      go_ret
      exact ⟨rfl, rfl⟩

theorem or_new (x y : Int) (W : World) : Calls Try.prog 70 #[.slice (some ⟨W.heap.size, 0, none⟩) 2 2] (W.alloc (.cells #[.int .i64 x, .int .i64 y] 3)) fun e w' => e = .returned (.int .i64 (orI x y)) ∧ W.alloc (.cells #[.int .i64 x, .int .i64 y] 3) = w' :=
  or_any W.heap.size x y _ (by simp) (by simp)

end Go.Proofs.Ytaphhgiocahnhaa
