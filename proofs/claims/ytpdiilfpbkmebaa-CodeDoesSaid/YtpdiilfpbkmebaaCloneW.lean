/-
  What slices.Clone of words comes to: a row of the call's own.
-/
import Derived.Test.YtpdiilfpbkmebaaInts
import Derived.OwnWalk
import Derived.Lib.SliceRun
namespace Go.Proofs.Ytpdiilfpbkmebaa
open Go.RowKit

theorem Owns.empty (w : World) (k : IntKind) (e : TypeId) (base : Nat) (hb : base ≤ w.heap.size) : Owns k e (w.alloc (.cells #[] e)) base (.slice (some ⟨w.heap.size, 0, none⟩) 0 0) [] :=
  ⟨rfl, .inr ⟨w.heap.size, 0, #[], rfl, hb, World.alloc_heap_new w _, Nat.le_refl _, by unfold maxLen; omega, rfl, rfl⟩⟩
theorem Src.reads {k : IntKind} {w : World} {x : Option Addr} {n cap : Nat} {xs : List Int} (h : Src k w x n cap xs) : x = none → n = 0 ∧ cap = 0 := fun e => by
  obtain ⟨_, ⟨_, h1, h2⟩ | ⟨ad, h1, _⟩⟩ := h
  · exact ⟨h1, h2⟩
  · rw [e] at h1; cases h1

set_option maxHeartbeats 1000000 in
theorem clone_any (x : Option Addr) (n cap : Nat) (xs : List Int) (w : World) (hx : Src .u64 w x n cap xs) (hl : n ≤ 17592186044416) :
    Calls Try.prog 51 #[.slice x n cap] w fun e w' => ∃ v, e = .returned v ∧ Owns .u64 22 w' w.heap.size v xs ∧ Below w.heap.size w w' := by
  obtain ⟨i0, hi, hz0, hz1, hz2⟩ := info_parts info_u64
  have hne := fun (w : World) => Lib.run_eql_slice_nil (P := Try.prog) w 23 22 x n cap 0 0 Try.underlying23
  cases x with
  | none =>
    simp only [Option.isNone_none] at hne
    obtain ⟨rfl, rfl⟩ := hx.reads rfl
    obtain rfl : xs = [] := List.length_eq_zero_iff.1 hx.1
    clear hx hi hz0 hz1 hz2
    go_enter Try.func51, Try.ntmps51
    go_wp2
    go_ret
    exact ⟨_, rfl, Owns.nil, Below.refl _ _⟩
  | some ad =>
    simp only [Option.isNone_some] at hne
    have HS := Lib.hid hx
    have HE := Lib.hid (Owns.empty w .u64 22 w.heap.size (Nat.le_refl _))
    have HB := Lib.hid (below_al (Below.refl _ w) (.cells #[] 22))
    have HL := Lib.hid hx.1
    clear hx
    go_enter Try.func51, Try.ntmps51
    go_wp2_with (at_builtin; refine wpList_append_list rfl _ _ 23 rfl w.heap.size 22 i0 .u64 8 Try.underlying23 hi hz0 hz1 hz2 _ [] rfl HE.out (some ad) n cap xs rfl (HS.out.keep HB.out) (by simp [maxLen]; omega) (by simp; omega) (by simp) ?_; intro v' w2 hO hg)
    go_ret
    refine ⟨_, rfl, ?_, HB.out.grown hg HB.out.size (fun g e => HE.out.ownBlock g e)⟩
    simpa using hO

end Go.Proofs.Ytpdiilfpbkmebaa
