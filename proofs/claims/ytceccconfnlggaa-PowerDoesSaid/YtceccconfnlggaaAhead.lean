/-
  What power.productsAhead comes to: of a list's numbers the product of those ahead of each, and of all.
-/
import Derived.Test.YtceccconfnlggaaPowers
namespace Go.Proofs.Ytceccconfnlggaa
open Go.RowKit

namespace Fp
/-- The product by p of the first i of xs. -/
def pre (p : Int) (xs : List Int) : Nat → Int
  | 0 => red p 1
  | i + 1 => mul p (pre p xs i) (xs.getD i 0)
theorem pre_bd (p : Int) (xs : List Int) (i : Nat) : 0 ≤ pre p xs i ∧ pre p xs i < 18446744069414584321 ∧ (kn p = true → pre p xs i < p) := by
  cases i with
  | zero => exact red_bd p 1
  | succ i => exact mul_bd p _ _
theorem pre_red (p : Int) (xs : List Int) (i : Nat) : red p (pre p xs i) = pre p xs i := by
  cases i with
  | zero => exact red_red _ _
  | succ i => exact red_mul _ _ _
/-- A product is 0 just if one of its numbers is. -/
theorem pre_zero {p : Int} (h : kn p = true) (xs : List Int) : ∀ i, pre p xs i = 0 ↔ ∃ j, j < i ∧ red p (xs.getD j 0) = 0
  | 0 => by
    constructor
    · intro e; rw [pre, red_one h] at e; omega
    · rintro ⟨j, hj, _⟩; omega
  | i + 1 => by
    rw [pre, mul_zero h, pre_red, pre_zero h xs i]
    constructor
    · rintro (⟨j, hj, e⟩ | e)
      · exact ⟨j, by omega, e⟩
      · exact ⟨i, by omega, e⟩
    · rintro ⟨j, hj, e⟩
      by_cases hji : j = i
      · exact .inr (hji ▸ e)
      · exact .inl ⟨j, by omega, e⟩
end Fp

/-- What productsAhead returns: the products, in memory of its own, and the product of all. -/
def AheadRet (p : Int) (xs : List Int) (w : World) (e : Ending) (w' : World) : Prop :=
  ∃ g, e = .returned (.tuple #[.slice (some ⟨g, 0, none⟩) xs.length xs.length, .int .u64 (Fp.pre p xs xs.length)]) ∧
    Half .u64 22 w' w.heap.size g xs.length (Fp.pre p xs) (fun _ => 0) xs.length ∧ Below w.heap.size w w'

set_option maxHeartbeats 1000000 in
theorem ahead_yes (p : Int) (x : Option Addr) (n cap : Nat) (xs : List Int) (w : World) (h : Fp.kn p = true) (hx : Reads .u64 w w.heap.size x xs) (hn : xs.length = n) (hw : Words xs) (hl : n ≤ 65536) :
    Calls Try.prog 23 #[.int .u64 p, .slice x n cap] w (AheadRet p xs w) := by
  subst hn
  have H := Lib.hid h; clear h
  have HX := Lib.hid hx; clear hx
  have HW := Lib.hid hw; clear hw
  obtain ⟨i0, hi, hz0, hz1, hz2⟩ := info_parts info_u64
  have HZ2 := Lib.hid hz2; clear hz2
  go_enter Try.func23, Try.ntmps23
  go_wp2_with (at_make; refine wpList_make_full _ rfl _ _ 23 rfl w.heap.size 22 i0 (.int .u64 0) 1 Try.underlying23 hi hz0 hz1 .i64 .i64 _ _ xs.length rfl rfl rfl rfl (by rw [HZ2.out]; omega) (by unfold maxLen; omega) (Nat.le_refl _) ?_; intro w1 hown hgrow)
  have hst := Half.start (f := Fp.pre p xs) hown
  have hbl := (Below.refl w.heap.size w).grown hgrow (Nat.le_refl _) (fun k e => by cases e)
  clear hown hgrow hi hz0 hz1
  go_loopw [7, 15] (fun y i wr => ∃ k : Nat, k ≤ xs.length ∧ i = .int .i64 k ∧ y = .int .u64 (Fp.pre p xs k) ∧ Half .u64 22 wr w.heap.size w.heap.size xs.length (Fp.pre p xs) (fun _ => 0) k ∧ Below w.heap.size w wr) (fun _ i _ => xs.length - (intOf i).toNat)
  case atStart => exact ⟨0, Nat.zero_le _, rfl, by rw [Fp.pre, Fp.red_one H.out], hst, hbl⟩
  case round =>
    obtain ⟨k, hk, rfl, rfl, hP, hB⟩ := hrel
    obtain ⟨x0, x1, _⟩ := Fp.pre_bd p xs k
    by_cases hlt : k < xs.length
    · obtain ⟨b, off, rfl, hb, hcx⟩ := HX.out (by omega)
      have hx1 := (hB.cell (p := ⟨b, off + k, none⟩) hb).trans (hcx k hlt)
      obtain ⟨y0, y1⟩ := HW.out k
      have HS : Hid (Fp.pre p xs (k + 1) = Fp.mul p (Fp.pre p xs k) (xs.getD k 0)) := Lib.hid rfl
      obtain ⟨u, hu⟩ : ∃ u, u = xs.getD k 0 := ⟨_, rfl⟩
      rw [← hu] at hx1 y0 y1 HS
      clear hu
      have hs := hP.step
      have hsB := hB.setCell (p := ⟨w.heap.size, k, none⟩) (Nat.le_refl _) (.int .u64 (Fp.pre p xs k))
      have hc := hP.cellNext hlt
      have hf := hP.frozen k
      have hg := hP.lt.2
      clear hP hB hst hbl hcx
      go_wp2_with (go_at_call 18; refine (mul_any _ _ _ _ (by omega) (by omega) (by omega) (by omega)).mono ?_; rintro e w' ⟨rfl, nd, rfl⟩)
      go_roundw
      case rel => exact ⟨k + 1, by omega, by go_num, by rw [HS.out], hs.draws _, below_draws hsB _⟩
      case measure => simp [intOf]; omega
    · obtain rfl : k = xs.length := by omega
      have hR : AheadRet p xs w (.returned (.tuple #[.slice (some ⟨w.heap.size, 0, none⟩) xs.length xs.length, .int .u64 (Fp.pre p xs xs.length)])) wr := ⟨_, rfl, hP, hB⟩
      clear hP hB hst hbl
      go_wp2
      go_ret2
      exact hR

end Go.Proofs.Ytceccconfnlggaa
