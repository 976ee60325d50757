/-
  The chapter's example of layer 11.
-/
import Derived.Test.YtfkidghillnknaaAgDue
namespace Go.Proofs.Ytfkidghillnknaa
open Go.RowKit

/-- An event of which the tick alone is told. -/
def evT (t : Int) : Ev := ⟨0, 0, 0, t, 0, 0⟩
theorem evT_ok {t : Int} (h : 0 ≤ t ∧ t < 100) : EvOk (evT t) := by unfold EvOk evT; dsimp only; omega
def three (a b c : Int) : Obj := .cells #[.int .i64 0, .int .i64 0, .int .i64 0, .int .i64 a, .int .i64 0, .int .u64 0, .int .i64 0, .int .i64 0, .int .i64 0, .int .i64 b, .int .i64 0, .int .u64 0, .int .i64 0, .int .i64 0, .int .i64 0, .int .i64 c, .int .i64 0, .int .u64 0] 39
def twoT (a b : Int) : Obj := .cells #[.int .i64 0, .int .i64 0, .int .i64 0, .int .i64 a, .int .i64 0, .int .u64 0, .int .i64 0, .int .i64 0, .int .i64 0, .int .i64 b, .int .i64 0, .int .u64 0] 39
theorem three_reads (W : World) (a b c : Int) : ReadsE (W.alloc (three a b c)) (W.alloc (three a b c)).heap.size (some ⟨W.heap.size, 0, none⟩) [evT a, evT b, evT c] := fun _ => by
  refine ⟨W.heap.size, 0, rfl, by simp, fun j hj => ?_⟩
  have hj' : j = 0 ∨ j = 1 ∨ j = 2 := by simp at hj; omega
  unfold three
  rcases hj' with rfl | rfl | rfl <;> (refine ⟨?_, ?_, ?_, ?_, ?_, ?_⟩ <;> simp [evT])
theorem twoT_reads (W : World) (a b : Int) : ReadsE (W.alloc (twoT a b)) (W.alloc (twoT a b)).heap.size (some ⟨W.heap.size, 0, none⟩) [evT a, evT b] := fun _ => by
  refine ⟨W.heap.size, 0, rfl, by simp, fun j hj => ?_⟩
  have hj' : j = 0 ∨ j = 1 := by simp at hj; omega
  unfold twoT
  rcases hj' with rfl | rfl <;> (refine ⟨?_, ?_, ?_, ?_, ?_, ?_⟩ <;> simp [evT])

theorem Dued.open {w w' : World} {F : Nat → Prop} {A p : Nat} {ts es : List Ev} {e : Ending} (h : Dued w F A ts es p e w') :
    ∃ x cap, e = .returned (.slice x ts.length cap) ∧ ts.length ≤ cap ∧ ReadsE w' w'.heap.size x ts ∧ OwnsE w' w.heap.size (.slice x ts.length cap) ts ∧ AG w' F A es p ∧ But F w w' := by
  obtain ⟨v, rfl, hO, hA, hB⟩ := h
  obtain ⟨x, cap, rfl, hc, _, hR, _⟩ := hO.form
  exact ⟨x, cap, rfl, hc, hR, hO, hA, hB⟩

set_option maxHeartbeats 2000000 in
set_option maxRecDepth 100000 in
theorem live11_any (w : World) : Calls Try.prog 9 #[] w (RetB (.bool true) w) := by
  have HN := Lib.hid (New_ok (some ⟨w.heap.size, 0, none⟩) 3 3 [evT 5, evT 2, evT 9] (w.alloc (three 5 2 9)) (three_reads w 5 2 9) rfl (by
    intro s hs
    simp at hs
    rcases hs with rfl | rfl | rfl <;> exact evT_ok (by omega)) (by omega))
  have e1 : putAll [] [evT 5, evT 2, evT 9] = [evT 2, evT 5, evT 9] := by decide
  have e2 : due 5 [evT 2, evT 5, evT 9] = [evT 2, evT 5] := by decide
  have e3 : yet 5 [evT 2, evT 5, evT 9] = [evT 9] := by decide
  rw [e1] at HN
  have HD := Lib.hid (fun A F W h => Due_any A F [evT 2, evT 5, evT 9] 3 5 W h (by simp))
  rw [e2, e3] at HD
  have HX := Lib.hid (fun A F W h => Next_any A F [evT 9] 3 W h (by simp))
  rw [show nxT [evT 9] = 9 from rfl, show nxE [evT 9] = 0 from rfl] at HX
  have HB := Lib.hid (below_al (Below.refl _ w) (three 5 2 9))
  have HS := Lib.hid (fun x cap W (h : ReadsE W W.heap.size x [evT 2, evT 5]) => sameE_any x (some ⟨W.heap.size, 0, none⟩) 2 2 cap 2 [evT 2, evT 5] [evT 2, evT 5] (W.alloc (twoT 2 5)) _ (h.since (below_al (Below.refl _ _) _)) (twoT_reads W 2 5) rfl rfl (by omega) (by omega))
  rw [decide_eq_true rfl] at HS
  unfold three at HN HB
  unfold twoT at HS
  clear e1 e2 e3
  go_enter Try.func9, Try.ntmps9
  go_wp2_with (first
    | (go_at_call 10; refine HN.out.mono ?_; rintro e w1 ⟨A, rfl, hA1, hG1, hb1⟩; have HD1 := Lib.hid (HD.out A _ w1 hG1); have B1 := Lib.hid (And.intro (below_on HB.out hb1) hG1.lt); clear hG1 hb1 hA1)
    | (go_at_call 12; refine HD1.out.mono ?_; intro e w2 hd; obtain ⟨x2, cap2, rfl, -, hR2, -, hG2, hb2⟩ := hd.open; have HX2 := Lib.hid (HX.out A _ w2 hG2); have R2 := Lib.hid (HS.out x2 cap2 w2 hR2); have B2 := Lib.hid hb2; clear hR2 hG2 hb2 hd)
    | (go_at_call 14; refine HX2.out.mono ?_; rintro e w3 ⟨rfl, rfl⟩)
    | (go_at_call 16; refine R2.out.mono ?_; rintro e w4 ⟨rfl, q4, rfl⟩))
  go_ret
  refine ⟨rfl, below_draws (below_al (B1.out.1.trans (B2.out.below B1.out.1.size fun k c => ?_)) _) q4⟩
  have := c.1
  have := HB.out.size
  omega

end Go.Proofs.Ytfkidghillnknaa
