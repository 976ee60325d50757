/-
  What the closure that compares two events by their ticks comes to, and the library's insertion sort of a block of events.
-/
import Derived.Test.YtbdcpjpdonednaaStableOne
namespace Go.Proofs.Ytbdcpjpdonednaa
open Go.RowKit Go.Shelf Go.Lib Go.Sort

theorem isNaN_any (x : Int) (w : World) : Calls Try.prog 32 #[.int .i64 x] w fun e w' => e = .returned (.bool false) ∧ w = w' := by
  go_enter Try.func32, Try.ntmps32
  go_wp2
  go_ret
  exact ⟨rfl, rfl⟩

def cfI (x y : Int) : Int := if x < y then -1 else if y < x then 1 else 0

set_option maxHeartbeats 1000000 in
theorem compare_any (x y : Int) (w : World) : Calls Try.prog 25 #[.int .i64 x, .int .i64 y] w fun e w' => e = .returned (.int .i64 (cfI x y)) ∧ w = w' := by
  unfold cfI
  by_cases h1 : x < y
  · rw [if_pos h1]
    go_enter Try.func25, Try.ntmps25
    go_wp2_with (go_at_call 32; refine (isNaN_any _ _).mono ?_; rintro e w2 ⟨rfl, rfl⟩)
    go_ret
    exact ⟨rfl, rfl⟩
  · rw [if_neg h1]
    by_cases h2 : y < x
    · rw [if_pos h2]
      go_enter Try.func25, Try.ntmps25
      go_wp2_with (go_at_call 32; refine (isNaN_any _ _).mono ?_; rintro e w2 ⟨rfl, rfl⟩)
      go_ret
      exact ⟨rfl, rfl⟩
    · rw [if_neg h2]
      go_enter Try.func25, Try.ntmps25
      go_wp2_with (go_at_call 32; refine (isNaN_any _ _).mono ?_; rintro e w2 ⟨rfl, rfl⟩)
      go_ret
      exact ⟨rfl, rfl⟩

set_option maxHeartbeats 1000000 in
theorem of1_any (s t : Ev) (w : World) : Calls Try.prog 24 #[evV s, evV t] w fun e w' => e = .returned (.int .i64 (cfE s t)) ∧ ∃ q os', w' = grow (w.drewN q) os' := by
  obtain ⟨a, b, c, d, e, f⟩ := s
  obtain ⟨a', b', c', d', e', f'⟩ := t
  unfold evV cfE
  dsimp only
  have HX := Lib.hid (compare_any d d')
  unfold cfI at HX
  generalize (if d < d' then (-1 : Int) else if d' < d then 1 else 0) = r at HX ⊢
  go_enter Try.func24, Try.ntmps24
  go_wp2_with (go_at_call 25; refine (HX.out _).mono ?_; rintro e w2 ⟨rfl, rfl⟩)
  go_ret
  exact ⟨rfl, 0, #[evO ⟨a, b, c, d, e, f⟩, evO ⟨a', b', c', d', e', f'⟩], rfl⟩

theorem ltOf_cfE : ltOf cfE = ltE := by
  funext x y
  exact cfE_lt x y

theorem of1_lays (k : Nat) (blk size : Nat) (w : World) : CmpLays Try.prog 24 #[] evc k cfE blk 0 size w := fun _ _ _ _ x y => of1_any x y _

theorem of1_enters : ∀ args w, (callFunc 24 args).run Try.prog w = .ok (.enter 24 args) w := enters_of Try.func24 (by kernel_rfl) rfl

/-- The library's insertion sort of a block. -/
theorem ins_any (k g : Nat) (cb : Array Value) (blk cap a b : Nat) (d0 d : Array Ev) (w0 w : World) (eg : ∀ args w, (callFunc g args).run Try.prog w = .ok (.enter g args) w) (hC : CmpLays Try.prog g cb evc k cfE blk 0 d0.size w0) (R : RW k w0 blk d0) (hs : d0.size = d.size) (S : SW k w0 blk d w) (hab : a ≤ b) (hb : b ≤ d.size) (hsz : d.size < 4611686018427387904) :
    Calls Try.prog 34 #[.slice (some ⟨blk, 0, none⟩) d.size cap, .int .i64 a, .int .i64 b, .func (.func g) #[] cb] w fun e w' => e = .returned (.tuple #[]) ∧ ∃ d', (Stb d d' ∧ Out a b d d' ∧ Srt a b d') ∧ SW k w0 blk d' w' := by
  have hC' : CmpLays Try.prog g cb evc k cfE blk 0 d.size w := fun m os dk hdk x y => by
    obtain ⟨n0, os0, rfl⟩ := S
    rw [sortWorldK_on evc k w0 blk 0 n0 m d dk os0 os R.hblk hdk]
    exact hC _ _ dk (by omega) x y
  have h := AnyQ.insertionSortCmpFunc Try.laysIns k agg_ev R.size evc R.hk R.h1 cfE g cb blk 0 cap a b d w eg hC' (S.holds R.hblk R.hH hs.symm) (S.lt R.hblk) hab hb hsz
  rw [ltOf_cfE] at h
  have hM := Mg.ins (d := d) hab hb
  exact h.mono fun e w' ⟨he, n, os, hw⟩ => ⟨he, _, hM, by rw [hw]; exact S.on R.hblk n _ os hM.1.1⟩

end Go.Proofs.Ytbdcpjpdonednaa
