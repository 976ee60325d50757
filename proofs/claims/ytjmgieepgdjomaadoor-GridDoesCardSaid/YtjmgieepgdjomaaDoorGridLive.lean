/-
  The example that each law of layer 7 begins with.
-/
import Derived.Test.YtjmgieepgdjomaaDoorGridDo
import Derived.Test.YtjmgieepgdjomaaDoorLines6
namespace Go.Proofs.YtjmgieepgdjomaaDoor
open Go.RowKit Go.Shelf

def exA : List Ax := [⟨2, false⟩, ⟨2, false⟩]
theorem exA_axes : Axes 998244353 exA := by
  refine ⟨by decide, ⟨by decide, by decide, by decide, by decide⟩, by decide, fun k hk => ?_, fun k hk => ?_⟩
  · have : k = 0 ∨ k = 1 := by simp [exA] at hk; omega
    rcases this with rfl | rfl <;> decide
  · have : k = 0 ∨ k = 1 := by simp [exA] at hk; omega
    rcases this with rfl | rfl <;> (unfold axR; decide)
theorem exA_grid : Grid 998244353 exA [1, 0, 0, 0] := ⟨exA_axes, by decide, fun j hj => by
  have : j = 0 ∨ j = 1 ∨ j = 2 ∨ j = 3 := by simp at hj; omega
  rcases this with rfl | rfl | rfl | rfl <;> decide⟩
theorem fwd_10 (c : Nat) : fwdN 998244353 [1, 0] false c = 1 := by
  unfold fwdN
  generalize rtl 998244353 false ([1, 0] : List Int).length = w
  show Fp.fw w false 2 (nth [1, 0]) c % 998244353 = 1
  have : Fp.fw w false 2 (nth [1, 0]) c = 1 := by simp [Fp.fw, Fp.sum, nth, Fp.ex]
  rw [this]; decide
theorem fwd_00 (c : Nat) : fwdN 998244353 [0, 0] false c = 0 := by
  unfold fwdN
  generalize rtl 998244353 false ([0, 0] : List Int).length = w
  show Fp.fw w false 2 (nth [0, 0]) c % 998244353 = 0
  have : Fp.fw w false 2 (nth [0, 0]) c = 0 := by simp [Fp.fw, Fp.sum, nth, Fp.ex]
  rw [this]; decide
theorem exA_0 {p : Int} (h1 : ∀ c, fwdN p [1, 0] false c = 1) (h0 : ∀ c, fwdN p [0, 0] false c = 0) : thr p exA 0 false [1, 0, 0, 0] = [1, 0, 1, 0] := by
  show [fwdN p [1, 0] false 0, fwdN p [0, 0] false 0, fwdN p [1, 0] false 1, fwdN p [0, 0] false 1] = _
  rw [h1, h1, h0, h0]
theorem exA_1 {p : Int} (h1 : ∀ c, fwdN p [1, 0] false c = 1) : thr p exA 1 false [1, 0, 1, 0] = [1, 1, 1, 1] := by
  show [fwdN p [1, 0] false 0, fwdN p [1, 0] false 1, fwdN p [1, 0] false 0, fwdN p [1, 0] false 1] = _
  rw [h1, h1]
theorem exA_do : doL 998244353 exA false [1, 0, 0, 0] = [1, 1, 1, 1] := by
  rw [exA_grid.doL]
  show thr 998244353 exA 1 false (thr 998244353 exA 0 false [1, 0, 0, 0]) = _
  rw [exA_0 fwd_10 fwd_00, exA_1 fwd_10]

theorem exA_reads (w : World) (t : TypeId) : ReadsA (w.alloc (.cells #[.int .i64 2, .bool false, .int .i64 2, .bool false] t)) (w.heap.size + 1) (some ⟨w.heap.size, 0, none⟩) exA := fun _ =>
  ⟨w.heap.size, 0, rfl, Nat.lt_succ_self _, fun j hj => by
    have : j = 0 ∨ j = 1 := by simp [exA] at hj; omega
    rcases this with rfl | rfl <;> simp [exA]⟩

set_option maxHeartbeats 1000000 in
theorem live7_any (w : World) (hG : Gl w) : Calls Tryd.prog 7 #[] w (RetB (.bool true) w) := by
  have b1 : Below w.heap.size w (w.alloc (.cells #[.int .i64 2, .bool false, .int .i64 2, .bool false] 41)) := (Below.refl _ w).alloc (Nat.le_refl _) _
  have b2 := below_al b1 (.cells #[.int .u64 1, .int .u64 0, .int .u64 0, .int .u64 0] 22)
  have r2 := row_reads (w.alloc (.cells #[.int .i64 2, .bool false, .int .i64 2, .bool false] 41)) 22 1 0 0 0
  have a2 := (exA_reads w 41).below ((Below.refl (w.heap.size + 1) (w.alloc (.cells #[.int .i64 2, .bool false, .int .i64 2, .bool false] 41))).alloc (by simp) (.cells #[.int .u64 1, .int .u64 0, .int .u64 0, .int .u64 0] 22))
  rw [World.size_alloc] at r2
  have HF := Lib.hid (do_any 998244353 (some ⟨w.heap.size, 0, none⟩) 2 2 exA false (some ⟨w.heap.size + 1, 0, none⟩) 4 4 [1, 0, 0, 0] _ (hG.then b2) (a2.more (by simp)) rfl (by omega) (r2.more (by simp)) rfl (words_four (by omega) (by omega) (by omega) (by omega)) (by unfold maxLen; omega))
  rw [exA_do, exA_grid.zero] at HF
  have HB0 := Lib.hid b2
  clear b1 b2 r2 a2 hG
  go_enter Tryd.func7, Tryd.ntmps7
  go_wp2_with (first
    | (go_at_call 11; refine HF.out.mono ?_; rintro e w' ⟨v, rfl, hO, hb⟩; obtain ⟨y, c, rfl, hc1, hc2, hrd, _⟩ := hO.form)
    | (go_at_call 13; refine (same_any y _ 4 4 c 4 [1, 1, 1, 1] [1, 1, 1, 1] _ (w'.heap.size + 1) ((hrd.below ((Below.refl _ w').alloc (Nat.le_refl _) _)).more (Nat.le_succ _)) (row_reads w' _ 1 1 1 1) rfl rfl (by omega) (by omega)).mono ?_; rw [decide_eq_true rfl]; rintro e w'' ⟨rfl, nd, rfl⟩))
  go_ret
  exact ⟨rfl, below_draws (below_al (below_then HB0.out hb) _) nd⟩

end Go.Proofs.YtjmgieepgdjomaaDoor
