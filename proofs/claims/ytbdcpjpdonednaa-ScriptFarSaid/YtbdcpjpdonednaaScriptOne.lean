/-
  What the small functions of package script, and of the document's, come to: Check, tryOf, idle and Nothing, Near; the comparison of two slices of events.
-/
import Derived.Test.YtbdcpjpdonednaaMathScript
import Derived.Laws.Rows
namespace Go.Proofs.Ytbdcpjpdonednaa
open Go.RowKit

theorem check_any (x : Option Addr) (n cap : Nat) (w : World) :
    Calls Try.prog 20 #[.slice x n cap] w fun e w' => e = .returned (.int .i64 (chk n)) ∧ w = w' := by
  by_cases h : 1024 < n
  · rw [chk_bad h]
    have hd : decide (1024 < (n : Int)) = true := by simp; omega
    go_enter Try.func20, Try.ntmps20
    go_wp2
    go_ret
    exact ⟨rfl, rfl⟩
  · rw [chk_ok (by omega)]
    have hd : decide (1024 < (n : Int)) = false := by simp; omega
    go_enter Try.func20, Try.ntmps20
    go_wp2
    go_ret
    exact ⟨rfl, rfl⟩

theorem rcheck_any (x : Option Addr) (n cap : Nat) (w : World) :
    Calls Try.prog 21 #[.slice x n cap] w fun e w' => e = .returned (.int .i64 (chk n)) ∧ w = w' := by
  by_cases h : 1024 < n
  · rw [chk_bad h]
    have hd : decide (1024 < (n : Int)) = true := by simp; omega
    go_enter Try.func21, Try.ntmps21
    go_wp2
    go_ret
    exact ⟨rfl, rfl⟩
  · rw [chk_ok (by omega)]
    have hd : decide (1024 < (n : Int)) = false := by simp; omega
    go_enter Try.func21, Try.ntmps21
    go_wp2
    go_ret
    exact ⟨rfl, rfl⟩

/-- An event as a value. -/
def evV (s : Ev) : Value := .agg #[.int .i64 s.it, .int .i64 s.tr, .int .i64 s.wn, .int .i64 s.tk, .int .i64 s.ad, .int .u64 s.msk]
/-- An event as a block. -/
def evO (s : Ev) : Obj := .cells #[.int .i64 s.it, .int .i64 s.tr, .int .i64 s.wn, .int .i64 s.tk, .int .i64 s.ad, .int .u64 s.msk] 38

theorem cells_try : (Try.prog.info? 45).map (·.size) = some 2 := by kernel_rfl

set_option maxHeartbeats 1000000 in
theorem tryOf_any (s : Ev) (w : World) : Calls Try.prog 22 #[evV s] w (RetB (.agg #[.int .i64 s.it, .int .i64 s.tr]) w) := by
  obtain ⟨a, b, c, d, e, f⟩ := s
  unfold evV
  dsimp only
  have HI : Hid (((w.alloc (.cells #[.int .i64 a, .int .i64 b, .int .i64 c, .int .i64 d, .int .i64 e, .int .u64 f] 38)).alloc (.cells #[.int .i64 a, .int .i64 b] 45)).heap[w.heap.size + 1]? = some (.cells #[.int .i64 a, .int .i64 b] 45)) := Lib.hid (by
    have h0 := heap_alloc_new (w.alloc (.cells #[.int .i64 a, .int .i64 b, .int .i64 c, .int .i64 d, .int .i64 e, .int .u64 f] 38)) (.cells #[.int .i64 a, .int .i64 b] 45)
    rwa [World.size_alloc] at h0)
  go_enter Try.func22, Try.ntmps22
  go_wp2
  refine bodyPost_ret (results_cell_row rfl _ _ (w.heap.size + 1) _ _ _ _ rfl HI.out Try.underlying45 rfl cells_try) rfl ?_
  exact ⟨rfl, below_al (below_al (Below.refl _ _) _) _⟩

set_option maxHeartbeats 1000000 in
theorem idle_any (s : Ev) (n : Int) (w : World) (hs : EvOk s) : Calls Try.prog 28 #[evV s, .int .i64 n] w (RetB (.bool (nul s n)) w) := by
  obtain ⟨a, b, c, d, e, f⟩ := s
  unfold evV nul
  dsimp only
  by_cases h1 : f = 0
  · have t1 : (f == 0) = true := by simpa using h1
    rw [t1]
    go_enter Try.func28, Try.ntmps28
    go_wp2
    go_ret
    exact ⟨rfl, below_al (Below.refl _ _) _⟩
  · have t1 : (f == 0) = false := by simpa using h1
    rw [t1]
    by_cases h2 : e < 0
    · have t2 : decide (e < 0) = true := by simpa using h2
      rw [t2]
      go_enter Try.func28, Try.ntmps28
      go_wp2
      go_ret
      exact ⟨rfl, below_al (Below.refl _ _) _⟩
    · have t2 : decide (e < 0) = false := by simpa using h2
      rw [t2]
      cases t3 : decide (n ≤ e)
      · go_enter Try.func28, Try.ntmps28
        go_wp2
        go_ret
        exact ⟨rfl, below_al (Below.refl _ _) _⟩
      · go_enter Try.func28, Try.ntmps28
        go_wp2
        go_ret
        exact ⟨rfl, below_al (Below.refl _ _) _⟩

set_option maxHeartbeats 1000000 in
theorem nothing_any (s : Ev) (n : Int) (w : World) (hs : EvOk s) : Calls Try.prog 29 #[evV s, .int .i64 n] w (RetB (.bool (nul s n)) w) := by
  obtain ⟨a, b, c, d, e, f⟩ := s
  unfold evV nul
  dsimp only
  by_cases h1 : f = 0
  · have t1 : (f == 0) = true := by simpa using h1
    rw [t1]
    go_enter Try.func29, Try.ntmps29
    go_wp2
    go_ret
    exact ⟨rfl, below_al (Below.refl _ _) _⟩
  · have t1 : (f == 0) = false := by simpa using h1
    rw [t1]
    by_cases h2 : e < 0
    · have t2 : decide (e < 0) = true := by simpa using h2
      rw [t2]
      go_enter Try.func29, Try.ntmps29
      go_wp2
      go_ret
      exact ⟨rfl, below_al (Below.refl _ _) _⟩
    · have t2 : decide (e < 0) = false := by simpa using h2
      rw [t2]
      cases t3 : decide (n ≤ e)
      · go_enter Try.func29, Try.ntmps29
        go_wp2
        go_ret
        exact ⟨rfl, below_al (Below.refl _ _) _⟩
      · go_enter Try.func29, Try.ntmps29
        go_wp2
        go_ret
        exact ⟨rfl, below_al (Below.refl _ _) _⟩

end Go.Proofs.Ytbdcpjpdonednaa
