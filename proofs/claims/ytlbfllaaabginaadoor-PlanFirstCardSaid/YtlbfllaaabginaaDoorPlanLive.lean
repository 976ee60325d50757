/-
  The example that each law of layer 17 begins with.
-/
import Derived.Test.YtlbfllaaabginaaDoorPlanHas
namespace Go.Proofs.YtlbfllaaabginaaDoor
open Go.RowKit

def exC : List Ax := [⟨6, false⟩]
theorem exC_axes : Axes 2013265921 exC := by
  refine ⟨by decide, ⟨by decide, by decide, by decide, by decide⟩, by decide, fun k hk => ?_, fun k hk => ?_⟩
  · obtain rfl : k = 0 := by simp [exC] at hk; omega
    decide
  · obtain rfl : k = 0 := by simp [exC] at hk; omega
    unfold axR; decide
theorem exC_len (inv : Bool) : (Stp.plL 2013265921 exC inv).length = if inv then 3 else 2 := by
  unfold Stp.plL
  rw [if_pos exC_axes.zero]
  cases inv <;> decide
theorem exC_reads (w : World) (t : TypeId) : ReadsA (w.alloc (.cells #[.int .i64 6, .bool false] t)) (w.heap.size + 1) (some ⟨w.heap.size, 0, none⟩) exC := fun _ =>
  ⟨w.heap.size, 0, rfl, Nat.lt_succ_self _, fun j hj => by
    obtain rfl : j = 0 := by simp [exC] at hj; omega
    simp [exC]⟩

set_option maxRecDepth 100000 in
set_option maxHeartbeats 1000000 in
theorem live17_any {G : World → Prop} (H : PlanHas G) (w : World) (hG : G w) : Calls Tryd.prog 11 #[] w (RetB (.bool true) w) := by
  have HF := Lib.hid (fun (inv : Bool) W (hB : Below w.heap.size w W) => (by
    have b1 := below_al (Below.refl W.heap.size W) (.cells #[.int .i64 6, .bool false] 53)
    have := H.steps 2013265921 (some ⟨W.heap.size, 0, none⟩) 1 1 exC inv (W.alloc (.cells #[.int .i64 6, .bool false] 53)) (H.keep hG (below_al hB _)) (by rw [World.size_alloc]; exact exC_reads W _) rfl (by omega)
    rw [exC_axes.zero] at this
    exact this : Calls Tryd.prog 13 #[.int .u64 2013265921, .slice (some ⟨W.heap.size, 0, none⟩) 1 1, .bool inv] (W.alloc (.cells #[.int .i64 6, .bool false] 53)) (RetSs (W.alloc (.cells #[.int .i64 6, .bool false] 53)) (Stp.plL 2013265921 exC inv) 0)))
  have HL := Lib.hid exC_len
  generalize Stp.plL 2013265921 exC = L at HF HL
  clear H hG
  go_enter Tryd.func11, Tryd.ntmps11
  go_wp2_with (first
    | (go_at_call_of 13 (Value.bool false); refine (HF.out false w (Below.refl _ _)).mono ?_; rintro e w1 ⟨v, rfl, hO, b1⟩; obtain ⟨y1, c1, rfl, -, -, -⟩ := hO.form; rw [HL.out]; have B1 := Lib.hid (below_then (below_al (Below.refl w.heap.size w) (.cells #[.int .i64 6, .bool false] 53)) b1); clear b1 hO)
    | (go_at_call_of 13 (Value.bool true); refine (HF.out true w1 B1.out).mono ?_; rintro e w2 ⟨v, rfl, hO, b2⟩; obtain ⟨y2, c2, rfl, -, -, -⟩ := hO.form; rw [HL.out]; have B2 := Lib.hid (below_then (below_al B1.out (.cells #[.int .i64 6, .bool false] 53)) b2); clear b2 hO))
  go_ret
  exact ⟨rfl, B2.out⟩

end Go.Proofs.YtlbfllaaabginaaDoor
