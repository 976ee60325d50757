/-
  What Smooth and Radices of package factor come to, over every input.
-/
import Derived.Test.YtmcnamlgbkbiaaaDoorFactor
import Derived.Test.YtmcnamlgbkbiaaaDoorBoxes
import Derived.Test.YtmcnamlgbkbiaaaDoorSince
namespace Go.Proofs.YtmcnamlgbkbiaaaDoor
open Go.RowKit Go.Shelf

attribute [local go_sem] Oper.semAt_some

theorem smooth_out (n : Int) (w : World) (h : ¬ (1 ≤ n ∧ n ≤ 4096)) :
    Calls Tryd.prog 54 #[.int .i64 n] w fun e w' => e = .returned (.bool false) ∧ w = w' := by
  by_cases h1 : n < 1
  · have d1 : decide (n < 1) = true := by simpa using h1
    clear h
    go_enter Tryd.func54, Tryd.ntmps54
    go_wp2
    go_ret
    exact ⟨rfl, rfl⟩
  · have d1 : decide (n < 1) = false := by simpa using h1
    have d2 : decide (4096 < n) = true := by simp; omega
    clear h
    go_enter Tryd.func54, Tryd.ntmps54
    go_wp2
    go_ret
    exact ⟨rfl, rfl⟩

/-- Between two rounds of Smooth: the box of the product. -/
def SmInv (w : World) (pre : List Fac.Rad) (W : World) : Prop := Boxed W w.heap.size 3 (.int .i64 (Fac.prod pre : Nat)) ∧ Below w.heap.size w W
theorem SmInv.own {w : World} {B : Nat} (hB : w.heap.size ≤ B) : OwnFrom B (SmInv w) := by
  rintro js W W' row ⟨h1, h2⟩ hg hr
  exact ⟨boxed_stays h1 hg (fun r e => (hr r e).2), h2.grown hg h2.size (fun k e => Nat.le_trans hB (hr k e).1)⟩

set_option maxRecDepth 100000 in
set_option maxHeartbeats 2000000 in
theorem smooth_in (n : Nat) (w : World) (h1 : 1 ≤ n) (h2 : n ≤ 4096) :
    Calls Tryd.prog 54 #[.int .i64 (n : Int)] w (RetB (.bool (((Fac.prod (Fac.rads n) : Nat) : Int) == (n : Int))) w) := by
  have d1 : decide ((n : Int) < 1) = false := by simp; omega
  have d2 : decide ((4096 : Int) < (n : Int)) = false := by simp; omega
  refine (callsIn_wide (n := 3)).1 ?_
  refine callsIn_of_wp_marks Tryd.func54 rfl trivial ?_ rfl
  simp only [Tryd.ntmps54, List.size_toArray, List.length_cons, List.length_nil, Nat.reduceAdd, Nat.reduceSub, Array.replicate_succ, Array.replicate_zero, List.push_toArray, List.append_toArray, List.nil_append, List.cons_append]
  gi_wp2_with (refine ⟨trivial, ?_⟩; gi_at_call 64; refine (callsIn_wide.2 (radices_any _ _)).mono ?_; rintro e w' ⟨rfl, rfl⟩)
  obtain ⟨W1, hW1⟩ : ∃ W1, w.alloc (.cells #[.int .i64 1] 3) = W1 := ⟨_, rfl⟩
  have b1 : Boxed W1 w.heap.size 3 (.int .i64 1) := by rw [← hW1]; exact Boxed.new w 3 _
  have hs1 : W1.heap.size = w.heap.size + 1 := by rw [← hW1]; simp
  have hB1 : Below w.heap.size w W1 := by rw [← hW1]; exact (Below.refl _ w).alloc (Nat.le_refl _) _
  rw [hW1]
  have bN := Boxed.new W1 3 (.int .i64 (n : Int))
  have hI0 : SmInv w [] (W1.alloc (.cells #[.int .i64 (n : Int)] 3)) := ⟨b1.alloc _, hB1.alloc hB1.size _⟩
  rw [hs1] at bN
  clear hW1 d1 d2
  refine wpIn_rangeFunc_ownG rfl (by omega) (gf := 67) (lb := #[.pointer (some ⟨w.heap.size + 1, 0, none⟩)]) rfl trivial (enters_of Tryd.func67 (by kernel_rfl) rfl)
    (rads_stops 2 (by omega) (w.heap.size + 1) n h1 h2 _ (by simp [hs1]) bN.cell) (fun _ _ => trivial) (fun _ _ _ _ _ _ _ _ => trivial) (Below.refl _ _) (fun _ => rfl)
    (SmInv w) (fun _ _ _ => False) (SmInv.own (by simp; omega)) (fun _ _ _ _ _ hs _ _ => hs) hI0 ?a1 ?assign ?body ?done ?stop
  case assign =>
    intro l j W K hK
    gi_wp2
    exact hK
  case body =>
    rintro l pre r W ⟨hb, hB⟩ hl
    have cP := hb.cell
    have fP := hb.frozen
    obtain ⟨u, hu⟩ : ∃ u, u = Fac.prod (pre ++ [r]) := ⟨_, rfl⟩
    have hm : u ≤ 244140625 := by rw [hu]; exact Fac.prod_short (by simp; omega)
    have hz : ((Fac.prod pre : Nat) : Int) * (r.1 : Int) = (u : Int) := by rw [hu, Fac.prod_append, Fac.prod_one, Int.natCast_mul]
    have HU := Lib.hid hu
    obtain ⟨p, hp⟩ : ∃ p, p = Fac.prod pre := ⟨_, rfl⟩
    rw [← hp] at cP hz
    have HB := Lib.hid (And.intro hb hB)
    clear hb hB hp hu hI0 bN b1 hB1 h1 h2
    gi_wp2
    obtain ⟨hb, hB⟩ := HB.out
    refine ⟨(KeepsOthers.setCell _ _ _).from _, trivial, ?_, hB.setCell (p := ⟨w.heap.size, 0, none⟩) (Nat.le_refl _) _⟩
    rw [← HU.out]
    exact hb.set _
  case done =>
    rintro D ys W hD rfl ⟨hb, hB⟩ hK
    have cP := hb.cell
    gi_wp2
    refine ⟨by simp, .inl ⟨_, _, rfl, run_takeDeferred hK, ?_⟩⟩
    exact ⟨_, results_tmp rfl _ _ _, rfl, hB.trans (belowK_b (w := w) (Nat.le_refl _) W D _ _ (by simp at hD; omega) hK rfl rfl)⟩
  case stop =>
    rintro D c pre W _ _ h _
    exact h.elim

theorem smooth_any (n : Int) (w : World) : Calls Tryd.prog 54 #[.int .i64 n] w (RetB (.bool (Fac.sm n)) w) := by
  by_cases h : 1 ≤ n ∧ n ≤ 4096
  · obtain ⟨m, rfl⟩ : ∃ m : Nat, n = (m : Int) := ⟨n.toNat, by omega⟩
    have e : (((Fac.prod (Fac.rads m) : Nat) : Int) == (m : Int)) = Fac.sm (m : Int) := by
      rw [Bool.eq_iff_iff, beq_iff_eq]
      simp [Fac.sm]
      omega
    rw [← e]
    exact smooth_in m w (by omega) (by omega)
  · rw [Fac.sm_no h]
    exact (smooth_out n w h).mono fun _ _ ⟨he, hw⟩ => ⟨he, hw ▸ Below.refl _ _⟩

end Go.Proofs.YtmcnamlgbkbiaaaDoor
