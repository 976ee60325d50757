/-
  What power.Powers comes to: the powers in order, in a new slice, or why not.
-/
import Derived.Test.YtmcnamlgbkbiaaaDoorPower
import Derived.Test.YtmcnamlgbkbiaaaDoorRow
namespace Go.Proofs.YtmcnamlgbkbiaaaDoor
open Go.RowKit

/-- What a call returns that makes a list of words, with no error: the list, in memory of its own. -/
def ListRet (w : World) (xs : List Int) (e : Ending) (w' : World) : Prop :=
  ∃ v, e = .returned (.tuple #[v, .int .i64 0]) ∧ Owns .u64 22 w' w.heap.size v xs ∧ Below w.heap.size w w'

theorem powers_noprime (p a many : Int) (w : World) (h : Fp.kn p = false) :
    Calls Tryd.prog 26 #[.int .u64 p, .int .u64 a, .int .i64 many] w (RetQ (.tuple #[.slice none 0 0, .int .i64 2]) w) := by
  have H := Lib.hid h; clear h
  go_enter Tryd.func26, Tryd.ntmps26
  go_wp2_with (go_at_call 24; refine (known_no p _ H.out).mono ?_; rintro e w' ⟨rfl, rfl⟩)
  go_ret2
  exact ⟨rfl, 0, rfl⟩

theorem powers_bad (p a many : Int) (w : World) (h : Fp.kn p = true) (hm : many < 0 ∨ 65536 < many) :
    Calls Tryd.prog 26 #[.int .u64 p, .int .u64 a, .int .i64 many] w (RetQ (.tuple #[.slice none 0 0, .int .i64 1]) w) := by
  have H := Lib.hid h; clear h
  by_cases h0 : many < 0
  · go_enter Tryd.func26, Tryd.ntmps26
    go_wp2_with (go_at_call 24; refine (known_yes p _ H.out).mono ?_; rintro e w' ⟨rfl, rfl⟩)
    go_ret2
    exact ⟨rfl, 0, rfl⟩
  · have h1 : 65536 < many := by omega
    clear hm
    go_enter Tryd.func26, Tryd.ntmps26
    go_wp2_with (go_at_call 24; refine (known_yes p _ H.out).mono ?_; rintro e w' ⟨rfl, rfl⟩)
    go_ret2
    exact ⟨rfl, 0, rfl⟩

/-- The powers 0 to n less 1 of a. -/
def pws (p a : Int) (n : Nat) : List Int := (List.range n).map (Fp.pw p a)
theorem pws_len (p a : Int) (n : Nat) : (pws p a n).length = n := by simp [pws]

set_option maxRecDepth 100000 in
set_option maxHeartbeats 1000000 in
theorem powers_yes (p a : Int) (n : Nat) (w : World) (h : Fp.kn p = true) (a0 : 0 ≤ a) (a1 : a < 18446744073709551616) (hn : n ≤ 65536) :
    Calls Tryd.prog 26 #[.int .u64 p, .int .u64 a, .int .i64 n] w (ListRet w (pws p a n)) := by
  have H := Lib.hid h; clear h
  obtain ⟨i0, hi, hz0, hz1, hz2⟩ := info_parts info_u64
  have HZ2 := Lib.hid hz2; clear hz2
  go_enter Tryd.func26, Tryd.ntmps26
  go_wp2_with (first
    | (go_at_call 24; refine (known_yes p _ H.out).mono ?_; rintro e w' ⟨rfl, rfl⟩)
    | (at_make; refine wpList_make_full _ rfl _ _ 23 rfl w.heap.size 22 i0 (.int .u64 0) 1 Tryd.underlying23 hi hz0 hz1 .i64 .i64 _ _ n rfl rfl rfl rfl (by rw [HZ2.out]; omega) (by unfold maxLen; omega) (Nat.le_refl _) ?_; intro w1 hown hgrow))
  have hst := Half.start (f := Fp.pw p a) hown
  have hbl := (Below.refl w.heap.size w).grown hgrow (Nat.le_refl _) (fun k e => by cases e)
  clear hown hgrow hi hz0 hz1
  go_loopw [9, 24] (fun x i wr => ∃ k : Nat, k ≤ n ∧ i = .int .i64 k ∧ x = .int .u64 (Fp.pw p a k) ∧ Half .u64 22 wr w.heap.size w.heap.size n (Fp.pw p a) (fun _ => 0) k ∧ Below w.heap.size w wr) (fun _ i _ => n - (intOf i).toNat)
  case atStart => exact ⟨0, Nat.zero_le _, rfl, by rw [Fp.pw_zero, Fp.red_one H.out], hst, hbl⟩
  case round =>
    obtain ⟨k, hk, rfl, rfl, hP, hB⟩ := hrel
    obtain ⟨x0, x1, _⟩ := Fp.pw_bd p a k
    by_cases hlt : k < n
    · have hs := hP.step
      have hsB := hB.setCell (p := ⟨w.heap.size, k, none⟩) (Nat.le_refl _) (.int .u64 (Fp.pw p a k))
      have hc := hP.cellNext hlt
      have hf := hP.frozen k
      have hg := hP.lt.2
      have HS := Lib.hid (Fp.pw_succ p a k)
      clear hP hB hst hbl
      go_wp2_with (go_at_call 19; refine (mul_any _ _ _ _ (by omega) (by omega) (by omega) (by omega)).mono ?_; rintro e w' ⟨rfl, n, rfl⟩)
      go_roundw
      case rel => exact ⟨k + 1, by omega, by go_num, by rw [HS.out], hs.draws _, below_draws hsB _⟩
      case measure => simp [intOf]; omega
    · obtain rfl : k = n := by omega
      have hR : ListRet w (pws p a k) (.returned (.tuple #[.slice (some ⟨w.heap.size, 0, none⟩) k k, .int .i64 0])) wr := ⟨_, rfl, hP.all, hB⟩
      clear hP hB hst hbl
      go_wp2
      go_ret2
      exact hR

end Go.Proofs.YtmcnamlgbkbiaaaDoor
