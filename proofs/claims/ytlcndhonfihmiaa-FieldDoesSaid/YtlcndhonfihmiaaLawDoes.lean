/-
  The walk of the law FieldDoes: it returns true for every three words and every slice of words; nothing that was there is written.
-/
import Derived.Test.YtlcndhonfihmiaaLawRing
import Derived.Test.YtlcndhonfihmiaaRef
import Derived.Lib.SmallJoins
import Derived.OpenShut
namespace Go.Proofs.Ytlcndhonfihmiaa
open Go.RowKit

/-- A slice of integers that came in: nil, or a row of cells. -/
def RowIn (k : IntKind) (w : World) (a : Option Addr) (len cap : Nat) (zs : List Int) : Prop :=
  (a = none ∧ len = 0 ∧ cap = 0 ∧ zs = []) ∨
  ∃ x, a = some x ∧ len ≤ cap ∧ cap ≤ maxLen ∧ zs.length = cap ∧ (∀ i, i < zs.length → w.cell? (x.add i) = some (.int k (zs.getD i 0))) ∧ ∀ n ∈ zs, (Lit.int k n).wf = true

set_option maxHeartbeats 1000000 in
set_option maxRecDepth 100000 in
theorem does_row (p a b : Int) (x : Option Addr) (len cap : Nat) (r : Bool) (w : World) (a0 : 0 ≤ a) (a1 : a < 18446744073709551616) (b0 : 0 ≤ b) (b1 : b < 18446744073709551616)
    (hin : Hid (∀ n, Calls Try.prog 10 #[.int .u64 p, .slice x len cap] (w.drewN n) fun e w' => e = .returned (.bool r) ∧ w.drewN n = w'))
    (hrin : Hid (∀ n, Calls Try.prog 11 #[.int .u64 p, .slice x len cap] (w.drewN n) fun e w' => e = .returned (.bool r) ∧ w.drewN n = w')) :
    Calls Try.prog 3 #[.int .u64 p, .int .u64 a, .int .u64 b, .slice x len cap] w fun e w' => e = .returned (.bool true) ∧ Below w.heap.size w w' := by
  have done : ∀ n, Below w.heap.size w (w.drewN n) := fun n => Go.Joins.below_draws _ _ _
  have D := Lib.hid done; clear done
  by_cases hlen : (300 : Int) < len
  · go_enter Try.func3, Try.ntmps3
    go_wp2_with (go_at_call 7; refine (live_any _).mono ?_; rintro e w' ⟨rfl, n, rfl⟩)
    go_ret
    exact ⟨rfl, D.out _⟩
  · cases h : Fp.kn p
    · have H := Lib.hid h; clear h
      go_enter Try.func3, Try.ntmps3
      go_wp2_with (first
        | (go_at_call 7; refine (live_any _).mono ?_; rintro e w' ⟨rfl, n, rfl⟩)
        | (go_at_call 8; refine (known_no _ _ H.out).mono ?_; rintro e w' ⟨rfl, rfl⟩)
        | (go_at_call 9; refine (rknown_no _ _ H.out).mono ?_; rintro e w' ⟨rfl, rfl⟩)
        | (go_at_call 10; refine (hin.out _).mono ?_; rintro e w' ⟨rfl, rfl⟩)
        | (go_at_call 11; refine (hrin.out _).mono ?_; rintro e w' ⟨rfl, rfl⟩)
        | (go_at_call 12; refine (add_any _ _ _ _ a0 a1 b0 b1).mono ?_; rintro e w' ⟨rfl, n, rfl⟩)
        | (go_at_call 13; refine (radd_any _ _ _ _ a0 a1 b0 b1).mono ?_; rintro e w' ⟨rfl, n, rfl⟩)
        | (go_at_call 14; refine (sub_any _ _ _ _ a0 a1 b0 b1).mono ?_; rintro e w' ⟨rfl, n, rfl⟩)
        | (go_at_call 15; refine (rsub_any _ _ _ _ a0 a1 b0 b1).mono ?_; rintro e w' ⟨rfl, rfl⟩)
        | (go_at_call 16; refine (mul_any _ _ _ _ a0 a1 b0 b1).mono ?_; rintro e w' ⟨rfl, n, rfl⟩)
        | (go_at_call 17; refine (rmul_any _ _ _ _ a0 a1 b0 b1).mono ?_; rintro e w' ⟨rfl, rfl⟩)
        | (go_at_call 18; refine (neg_any _ _ _ a0 a1).mono ?_; rintro e w' ⟨rfl, n, rfl⟩)
        | (go_at_call 19; refine (rneg_any _ _ _ a0 a1).mono ?_; rintro e w' ⟨rfl, rfl⟩)
        | (go_at_call 20; refine (reduce_any _ _ _ a0 a1).mono ?_; rintro e w' ⟨rfl, rfl⟩)
        | (go_at_call 21; refine (rreduce_any _ _ _ a0 a1).mono ?_; rintro e w' ⟨rfl, rfl⟩))
      go_ret
      exact ⟨rfl, D.out _⟩
    · have H := Lib.hid h; clear h
      go_enter Try.func3, Try.ntmps3
      go_wp2_with (first
        | (go_at_call 7; refine (live_any _).mono ?_; rintro e w' ⟨rfl, n, rfl⟩)
        | (go_at_call 8; refine (known_yes _ _ H.out).mono ?_; rintro e w' ⟨rfl, rfl⟩)
        | (go_at_call 9; refine (rknown_yes _ _ H.out).mono ?_; rintro e w' ⟨rfl, rfl⟩)
        | (go_at_call 10; refine (hin.out _).mono ?_; rintro e w' ⟨rfl, rfl⟩)
        | (go_at_call 11; refine (hrin.out _).mono ?_; rintro e w' ⟨rfl, rfl⟩)
        | (go_at_call 12; refine (add_any _ _ _ _ a0 a1 b0 b1).mono ?_; rintro e w' ⟨rfl, n, rfl⟩)
        | (go_at_call 13; refine (radd_any _ _ _ _ a0 a1 b0 b1).mono ?_; rintro e w' ⟨rfl, n, rfl⟩)
        | (go_at_call 14; refine (sub_any _ _ _ _ a0 a1 b0 b1).mono ?_; rintro e w' ⟨rfl, n, rfl⟩)
        | (go_at_call 15; refine (rsub_any _ _ _ _ a0 a1 b0 b1).mono ?_; rintro e w' ⟨rfl, rfl⟩)
        | (go_at_call 16; refine (mul_any _ _ _ _ a0 a1 b0 b1).mono ?_; rintro e w' ⟨rfl, n, rfl⟩)
        | (go_at_call 17; refine (rmul_any _ _ _ _ a0 a1 b0 b1).mono ?_; rintro e w' ⟨rfl, rfl⟩)
        | (go_at_call 18; refine (neg_any _ _ _ a0 a1).mono ?_; rintro e w' ⟨rfl, n, rfl⟩)
        | (go_at_call 19; refine (rneg_any _ _ _ a0 a1).mono ?_; rintro e w' ⟨rfl, rfl⟩)
        | (go_at_call 20; refine (reduce_any _ _ _ a0 a1).mono ?_; rintro e w' ⟨rfl, rfl⟩)
        | (go_at_call 21; refine (rreduce_any _ _ _ a0 a1).mono ?_; rintro e w' ⟨rfl, rfl⟩))
      go_ret
      exact ⟨rfl, D.out _⟩

theorem walk_FieldDoes (p a b : Int) (x : Option Addr) (len cap : Nat) (zs : List Int) (w : World) (_hp : (Lit.int .u64 p).wf = true) (ha : (Lit.int .u64 a).wf = true) (hb : (Lit.int .u64 b).wf = true) (hx : RowIn .u64 w x len cap zs) :
    Calls Try.prog 3 #[.int .u64 p, .int .u64 a, .int .u64 b, .slice x len cap] w fun e w' => e = .returned (.bool true) ∧ Below w.heap.size w w' := by
  obtain ⟨a0, a1⟩ := word_of ha
  obtain ⟨b0, b1⟩ := word_of hb
  rcases hx with ⟨rfl, rfl, rfl, rfl⟩ | ⟨y, rfl, hl, hm, hz, hcell, -⟩
  · exact does_row p a b none 0 0 (Fp.kn p) w a0 a1 b0 b1 (Lib.hid fun n => in_nil p _ _ _) (Lib.hid fun n => rin_nil p _ _ _)
  · unfold maxLen at hm
    by_cases h0 : 0 < zs.length
    · obtain ⟨bk, off, rfl, hc⟩ := ints_at hcell h0
      have hc' : ∀ j, j < len → w.cell? ⟨bk, off + j, none⟩ = some (.int .u64 ((fun i => zs.getD i 0) j)) := fun j hj => hc j (by omega)
      exact does_row p a b _ len cap (Fp.isIn p (fun i => zs.getD i 0) len) w a0 a1 b0 b1 (Lib.hid fun n => in_row p bk off len cap _ _ (by omega) hc') (Lib.hid fun n => rin_row p bk off len cap _ _ (by omega) hc')
    · obtain rfl : len = 0 := by omega
      exact does_row p a b _ 0 cap (Fp.kn p) w a0 a1 b0 b1 (Lib.hid fun n => in_nil p _ _ _) (Lib.hid fun n => rin_nil p _ _ _)

end Go.Proofs.Ytlcndhonfihmiaa
