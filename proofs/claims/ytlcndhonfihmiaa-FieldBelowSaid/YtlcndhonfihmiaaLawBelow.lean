/-
  The walk of the law FieldBelow: it returns true for every three words.
-/
import Derived.Test.YtlcndhonfihmiaaLawRing
import Derived.Test.YtlcndhonfihmiaaIn
namespace Go.Proofs.Ytlcndhonfihmiaa
open Go.RowKit

/-- The five numbers that are looked at. -/
def fiv (p a b : Int) : Nat → Int
  | 0 => Fp.add p a b
  | 1 => Fp.sub p a b
  | 2 => Fp.mul p a b
  | 3 => Fp.neg p a
  | _ => Fp.red p a
theorem fiv_bd (p a b : Int) (k : Nat) : 0 ≤ fiv p a b k ∧ (Fp.kn p = true → fiv p a b k < p) ∧ (Fp.kn p = false → fiv p a b k = 0) := by
  match k with
  | 0 => exact ⟨(Fp.red_bd p (a + b)).1, (Fp.red_bd p (a + b)).2.2, Fp.red_no (a + b)⟩
  | 1 => exact ⟨(Fp.red_bd p (a - b)).1, (Fp.red_bd p (a - b)).2.2, Fp.red_no (a - b)⟩
  | 2 => exact ⟨(Fp.red_bd p (a * b)).1, (Fp.red_bd p (a * b)).2.2, Fp.red_no (a * b)⟩
  | 3 => exact ⟨(Fp.red_bd p (0 - a)).1, (Fp.red_bd p (0 - a)).2.2, Fp.red_no (0 - a)⟩
  | k + 4 => exact ⟨(Fp.red_bd p a).1, (Fp.red_bd p a).2.2, Fp.red_no a⟩

/-- In wr, which has at most new blocks over w, the first new one holds f's first five numbers. -/
def Five (w wr : World) (f : Nat → Int) : Prop := w.heap.size < wr.heap.size ∧ Grown w wr ∧ ∀ j, j < 5 → wr.cell? ⟨w.heap.size, j, none⟩ = some (.int .u64 (f j))
theorem Five.alloc {w wr : World} {f : Nat → Int} (h : Five w wr f) (c : Array Value) (t : TypeId) : Five w (wr.alloc (.cells c t)) f := by
  refine ⟨?_, h.2.1.alloc c t, fun j hj => ?_⟩
  · have := h.1; simp; omega
  · rw [World.cell?_alloc_past _ _ _ h.1]; exact h.2.2 j hj
theorem one_cell (w : World) (v : Int) (t : TypeId) : ∀ j, j < 1 → (w.alloc (.cells #[.int .u64 v] t)).cell? ⟨w.heap.size, 0 + j, none⟩ = some (.int .u64 v) := by
  intro j hj
  obtain rfl : j = 0 := by omega
  rw [World.cell?_alloc_at _ _ _ _ rfl]
  rfl
theorem five_start (w : World) (n : Nat) (p a b : Int) (t : TypeId) : Five w ((w.drewN n).alloc (.cells #[.int .u64 (Fp.add p a b), .int .u64 (Fp.sub p a b), .int .u64 (Fp.mul p a b), .int .u64 (Fp.neg p a), .int .u64 (Fp.red p a)] t)) (fiv p a b) := by
  refine ⟨by simp, (grown_draws w n).alloc _ _, fun j hj => ?_⟩
  rw [World.cell?_alloc_at (w := w.drewN n) _ _ w.heap.size j rfl]
  match j, hj with
  | 0, _ => rfl
  | 1, _ => rfl
  | 2, _ => rfl
  | 3, _ => rfl
  | 4, _ => rfl

set_option maxHeartbeats 1000000 in
theorem walk_FieldBelow (p a b : Int) (_hp : (Lit.int .u64 p).wf = true) (ha : (Lit.int .u64 a).wf = true) (hb : (Lit.int .u64 b).wf = true) (w : World) :
    Calls Try.prog 5 #[.int .u64 p, .int .u64 a, .int .u64 b] w fun e w' => e = .returned (.bool true) ∧ Grown w w' := by
  obtain ⟨a0, a1⟩ := word_of ha
  obtain ⟨b0, b1⟩ := word_of hb
  clear ha hb
  have t : (Fp.red p (Fp.red p a) == Fp.red p a) = true := by rw [Fp.red_red]; simp
  go_enter Try.func5, Try.ntmps5
  go_wp2_with (first
    | (go_at_call 7; refine (live_any _).mono ?_; rintro e w' ⟨rfl, n, rfl⟩)
    | (go_at_call 12; refine (add_any _ _ _ _ (by omega) (by omega) (by omega) (by omega)).mono ?_; rintro e w' ⟨rfl, n, rfl⟩)
    | (go_at_call 16; refine (mul_any _ _ _ _ (by omega) (by omega) (by omega) (by omega)).mono ?_; rintro e w' ⟨rfl, n, rfl⟩)
    | (go_at_call 14; refine (sub_any _ _ _ _ (by omega) (by omega) (by omega) (by omega)).mono ?_; rintro e w' ⟨rfl, n, rfl⟩)
    | (go_at_call 18; refine (neg_any _ _ _ (by omega) (by omega)).mono ?_; rintro e w' ⟨rfl, n, rfl⟩)
    | (go_at_call 20; refine (reduce_any _ _ _ (by omega) (by omega)).mono ?_; rintro e w' ⟨rfl, rfl⟩))
  go_loopw [31] (fun i wr => ∃ k : Nat, k ≤ 5 ∧ i = .int .i64 k ∧ Five w wr (fiv p a b)) (fun i _ => 5 - (intOf i).toNat)
  case atStart => exact ⟨0, Nat.zero_le _, rfl, five_start _ _ _ _ _ _⟩
  case round =>
    obtain ⟨k, hk, rfl, hF⟩ := hrel
    by_cases hlt : k < 5
    · have hc := hF.2.2 k hlt
      have hs := hF.1
      obtain ⟨f0, f1, f2⟩ := fiv_bd p a b k
      cases h : Fp.kn p
      · have t0 : (fiv p a b k != 0) = false := by rw [f2 h]; rfl
        have H := Lib.hid h; clear h f1 f2
        go_wp2_with (go_at_call 8; refine (known_no _ _ H.out).mono ?_; rintro e w' ⟨rfl, rfl⟩)
        go_roundw
        case rel => exact ⟨k + 1, by omega, by go_num, hF⟩
        case measure => simp [intOf]; omega
      · have hlt' := f1 h
        have e1 : Fp.isIn p (fun _ => fiv p a b k) 1 = true := Fp.isIn_yes h 1 (fun _ _ => hlt')
        have H := Lib.hid h; clear h f1 f2
        go_wp2_with (first
          | (go_at_call 8; refine (known_yes _ _ H.out).mono ?_; rintro e w' ⟨rfl, rfl⟩)
          | (go_at_call 10; refine (in_row p _ _ 1 1 (fun _ => fiv p a b k) _ (by omega) (one_cell _ _ _)).mono ?_; rintro e w' ⟨rfl, rfl⟩))
        go_roundw
        case rel => exact ⟨k + 1, by omega, by go_num, hF.alloc _ _⟩
        case measure => simp [intOf]; omega
    · have hg := hF.2.1
      obtain ⟨r0, r1, _⟩ := Fp.red_bd p a
      clear hF
      go_wp2_with (go_at_call 20; refine (reduce_any _ _ _ (by omega) (by omega)).mono ?_; rintro e w' ⟨rfl, rfl⟩)
      go_ret
      exact ⟨rfl, hg⟩
end Go.Proofs.Ytlcndhonfihmiaa
