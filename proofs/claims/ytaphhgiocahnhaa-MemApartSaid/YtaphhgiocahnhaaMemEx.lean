/-
  A memory through a law's calls, its blocks left unnamed: what each call tells and leaves.
-/
import Derived.Test.YtaphhgiocahnhaaMemLaw
namespace Go.Proofs.Ytaphhgiocahnhaa
open Go.RowKit Go.Sort

/-- In the law's world w0 a memory of its own, behind at most k accesses, wherever it lies. -/
def Ex (w0 w : World) (M : Nat) (s : MS) (k : Nat) : Prop := ∃ F, At w0 w F M s k

section
variable {w0 w w' : World} {M k : Nat} {s : MS}
theorem Ex.quiet (h : Ex w0 w M s k) (hb : Below w.heap.size w w') : Ex w0 w' M s k := by obtain ⟨F, h⟩ := h; exact ⟨F, h.quiet hb⟩
theorem Ex.below (h : Ex w0 w M s k) : Below w0.heap.size w0 w := by obtain ⟨F, h⟩ := h; exact h.below
theorem Ex.few (h : Ex w0 w M s k) : s.ws.length ≤ 16384 := by obtain ⟨F, h⟩ := h; exact h.mem.few
theorem Ex.made (hb : Below w0.heap.size w0 w) (hm : MM w' (Nw w w') M s) (hb' : Below w.heap.size w w') (ht : s.t = 0) (ha : s.a = 0) : Ex w0 w' M s 0 := ⟨_, At.made hb hm hb' ht ha⟩
theorem Ex.load (h : Ex w0 w M s k) (hk : k ≤ 1000000) {ad : Int} (hb : -9223372036854775808 ≤ ad ∧ ad < 9223372036854775808) :
    Calls Try.prog 27 #[.pointer (some ⟨M, 0, none⟩), .int .i64 ad] w fun e w' => e = .returned (.tuple #[.int .u64 (ldV s ad), .int .i64 (adE s ad)]) ∧ Ex w0 w' M (ldS s ad) (k + 1) := by
  obtain ⟨F, h⟩ := h
  refine (Load_any F M s ad w h.mem hb (h.cnt hk).1).mono ?_
  rintro e w' ⟨rfl, hT⟩
  obtain ⟨h1, h2, h3⟩ := ldS_cnt s ad h.t0 h.a0
  exact ⟨rfl, _, h.step (Below.refl _ _) hT h1 h2 (by have := h.sum; omega)⟩
theorem Ex.store (h : Ex w0 w M s k) (hk : k ≤ 1000000) {ad u : Int} (hb : -9223372036854775808 ≤ ad ∧ ad < 9223372036854775808) (hu : 0 ≤ u ∧ u < 18446744073709551616) :
    Calls Try.prog 25 #[.pointer (some ⟨M, 0, none⟩), .int .i64 ad, .int .u64 u] w fun e w' => e = .returned (.int .i64 (adE s ad)) ∧ Ex w0 w' M (stS s ad u) (k + 1) := by
  obtain ⟨F, h⟩ := h
  refine (Store_any F M s ad u w h.mem hb hu (h.cnt hk).1).mono ?_
  rintro e w' ⟨rfl, hT⟩
  obtain ⟨h1, h2, h3⟩ := stS_cnt s ad u h.t0 h.a0
  exact ⟨rfl, _, h.step (Below.refl _ _) hT h1 h2 (by have := h.sum; omega)⟩
theorem Ex.next (h : Ex w0 w M s k) (hk : k ≤ 1000000) {x : Option Addr} {n cap : Nat} {ys : List Ev} (hx : ReadsE w w0.heap.size x ys) (hn : ys.length = n) (ho : EvsOk ys) :
    Calls Try.prog 26 #[.pointer (some ⟨M, 0, none⟩), .slice x n cap] w fun e w' => e = .returned (.int .i64 (nxR ys)) ∧ Ex w0 w' M (nxS s ys) k := by
  obtain ⟨F, h⟩ := h
  refine (Next_mem F M s x n cap ys w h.mem (hx.rdF h.new) hn ho (h.cnt hk).1 (h.cnt hk).2).mono ?_
  rintro e w' ⟨rfl, hT⟩
  obtain ⟨h1, h2, h3⟩ := nxS_cnt s ys h.t0 h.a0
  exact ⟨rfl, _, h.step (Below.refl _ _) hT h1 h2 (by have := h.sum; omega)⟩
/-- The next window's one event was laid just now. -/
theorem Ex.nextOne (h : Ex w0 w M s k) (hk : k ≤ 1000000) {y : Ev} (ho : EvOk y) :
    Calls Try.prog 26 #[.pointer (some ⟨M, 0, none⟩), .slice (some ⟨w.heap.size, 0, none⟩) 1 1] (w.alloc (evO y)) fun e w' => e = .returned (.int .i64 0) ∧ Ex w0 w' M (nxS s [y]) k := by
  obtain ⟨F, h⟩ := h
  have hb := below_al (Below.refl _ w) (evO y)
  have hx : RdF (w.alloc (evO y)) F (some ⟨w.heap.size, 0, none⟩) [y] := fun _ => ⟨w.heap.size, 0, rfl, by simp, fun c => by have := h.mem.lt _ c; omega, fun j hj => by
    have hj' : j = 0 := by simp at hj; omega
    subst hj'
    exact EvAt.new w y _⟩
  refine (Next_mem F M s _ 1 1 [y] _ (h.mem.below hb) hx rfl (fun t ht => by simp at ht; rw [ht]; exact ho) (h.cnt hk).1 (h.cnt hk).2).mono ?_
  rintro e w' ⟨rfl, hT⟩
  obtain ⟨h1, h2, h3⟩ := nxS_cnt s [y] h.t0 h.a0
  exact ⟨rfl, _, h.step hb hT h1 h2 (by have := h.sum; omega)⟩
theorem Ex.ticks (h : Ex w0 w M s k) : Calls Try.prog 18 #[.pointer (some ⟨M, 0, none⟩)] w fun e w' => e = .returned (.int .i64 s.t) ∧ w = w' := by
  obtain ⟨F, h⟩ := h
  exact Ticks_any F M s w h.mem
theorem Ex.all (h : Ex w0 w M s k) (hk : k ≤ 1000000) : Calls Try.prog 20 #[.pointer (some ⟨M, 0, none⟩)] w (RetQ (.int .i64 (s.a + s.t)) w) := by
  obtain ⟨F, h⟩ := h
  exact All_any F M s w h.mem (h.cnt hk).1 (h.cnt hk).2
theorem Ex.words (h : Ex w0 w M s k) : Calls Try.prog 22 #[.pointer (some ⟨M, 0, none⟩)] w (Worded w s.ws) := by
  obtain ⟨F, h⟩ := h
  exact Words_any F M s w h.mem
end

end Go.Proofs.Ytaphhgiocahnhaa
