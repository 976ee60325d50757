/-
  Rows of entries, and what the methods Len and Less of a heap of events come to.
-/
import Derived.Test.YtaphhgiocahnhaaMathHeap
import Derived.Test.YtaphhgiocahnhaaCmp
import Derived.Test.YtaphhgiocahnhaaQuietTail
import Derived.Test.YtaphhgiocahnhaaSince
namespace Go.Proofs.Ytaphhgiocahnhaa
open Go.RowKit

theorem cells_en : Try.prog.cellsOf 77 = 7 := by kernel_rfl
theorem info_en : (Try.prog.info? 77).map (fun i => (i.zero, i.size, i.bytes)) = some (some (.agg #[.int .i64 0, .int .i64 0, .int .i64 0, .int .i64 0, .int .i64 0, .int .u64 0, .int .i64 0]), 7, 56) := by kernel_rfl

theorem enc_len (x : En) : (enc x).length = 7 := rfl
theorem enc_one (x : En) : ∀ v ∈ enc x, v.oneCell' = true := by
  intro v hv
  simp [enc, evc] at hv
  rcases hv with rfl | rfl | rfl | rfl | rfl | rfl | rfl <;> rfl

theorem flatN_get : ∀ (es : List En) (j : Nat), j < es.length → ∀ c, c < 7 → (es.flatMap enc)[j * 7 + c]? = (enc (es.getD j default))[c]?
  | [], j, h, _, _ => by simp at h
  | s :: es, 0, _, c, hc => by
    rw [List.flatMap_cons, List.getElem?_append_left (by simp [enc_len]; omega)]
    simp
  | s :: es, j + 1, h, c, hc => by
    have := flatN_get es j (by simpa using h) c hc
    rw [List.flatMap_cons, List.getElem?_append_right (by simp [enc_len]; omega)]
    rw [show (j + 1) * 7 + c - (enc s).length = j * 7 + c by rw [enc_len]; omega, this]
    simp
theorem flatN_len (es : List En) : (es.flatMap enc).length = es.length * 7 := by
  induction es with
  | nil => rfl
  | cons s es ih => rw [List.flatMap_cons, List.length_append, ih]; simp [enc_len]; omega

/-- The row of entries d, in block g. -/
def RowN (w : World) (g cap : Nat) (d : Array En) : Prop := w.ownsRow 0 77 7 (.slice (some ⟨g, 0, none⟩) d.size cap) d.size (d.toList.flatMap enc)

theorem toListD (d : Array En) (i : Nat) (hi : i < d.size) : d.toList.getD i default = d[i]! := by
  rw [getN d i hi]; simp [hi]
theorem RowN.cell {w : World} {g cap : Nat} {d : Array En} (h : RowN w g cap d) {i c : Nat} (hi : i < d.size) (hc : c < 7) : w.cell? ⟨g, i * 7 + c, none⟩ = (enc d[i]!)[c]? := by
  rw [World.ownsRow.cellAt h _ (by omega), flatN_get _ _ (by simpa using hi) _ hc, toListD d i hi]
theorem RowN.cap {w : World} {g cap : Nat} {d : Array En} (h : RowN w g cap d) : d.size ≤ cap ∧ cap ≤ maxLen := by
  rcases h.2 with ⟨e, _⟩ | ⟨g', cap', cur, e1, _, _, e4, e5, _⟩
  · cases e
  · cases e1; exact ⟨e4, e5⟩
theorem RowN.lt {w : World} {g cap : Nat} {d : Array En} (h : RowN w g cap d) : g < w.heap.size := (World.ownsRow.lt h g rfl).2
theorem RowN.keep {w w' : World} {g cap : Nat} {d : Array En} (h : RowN w g cap d) (hk : w'.heap[g]? = w.heap[g]?) : RowN w' g cap d := by
  refine ⟨h.1, ?_⟩
  rcases h.2 with ⟨e, _⟩ | ⟨g', cap', cur, e1, e2, e3, e4⟩
  · cases e
  · cases e1; exact .inr ⟨g, cap, cur, rfl, e2, hk.trans e3, e4⟩

theorem len_any (x : Option Addr) (n cap : Nat) (w : World) : Calls Try.prog 67 #[.slice x n cap] w fun e w' => e = .returned (.int .i64 n) ∧ w = w' := by
  go_enter Try.func67, Try.ntmps67
  go_wp2
  go_ret
  exact ⟨rfl, rfl⟩

theorem orI_lt (x y : En) : decide (orI (cfI x.ev.tk y.ev.tk) (cfI x.ah y.ah) < 0) = ltN x y := by
  unfold orI cfI ltN
  by_cases h1 : x.ev.tk < y.ev.tk
  · simp [h1]
  · by_cases h2 : y.ev.tk < x.ev.tk
    · have h3 : x.ev.tk ≠ y.ev.tk := by omega
      simp [h1, h2, h3]
    · have h3 : x.ev.tk = y.ev.tk := by omega
      by_cases h4 : x.ah < y.ah
      · simp [h3, h4]
      · by_cases h5 : y.ah < x.ah
        · simp [h3, h4, h5]
        · simp [h3, h4, h5]

set_option maxHeartbeats 2000000 in
set_option maxRecDepth 100000 in
theorem less_any (g cap i j : Nat) (d : Array En) (w : World) (hR : RowN w g cap d) (hi : i < d.size) (hj : j < d.size) :
    Calls Try.prog 68 #[.slice (some ⟨g, 0, none⟩) d.size cap, .int .i64 i, .int .i64 j] w fun e w' => e = .returned (.bool (ltN d[i]! d[j]!)) ∧ Below w.heap.size w w' := by
  have hmx : Try.prog.follows .mixedOrders = true := by kernel_rfl
  have c1 := hR.cell hi (c := 3) (by omega)
  have c2 := hR.cell hj (c := 3) (by omega)
  have c3 := hR.cell hi (c := 6) (by omega)
  have c4 := hR.cell hj (c := 6) (by omega)
  have HL := Lib.hid (orI_lt d[i]! d[j]!)
  generalize d[i]! = x at c1 c3 HL ⊢
  generalize d[j]! = y at c2 c4 HL ⊢
  obtain ⟨⟨x1, x2, x3, xt, x4, x5⟩, xa⟩ := x
  obtain ⟨⟨y1, y2, y3, yt, y4, y5⟩, ya⟩ := y
  simp only [enc, evc] at c1 c2 c3 c4
  simp at c1 c2 c3 c4
  dsimp only at HL
  have hi' : (i : Int) < (d.size : Int) := by omega
  have hj' : (j : Int) < (d.size : Int) := by omega
  generalize d.size = n at *
  clear hR
  go_enter Try.func68, Try.ntmps68
  go_wp2
  refine region_quiet_tail 24 hmx (by kernel_rfl) ?_
  simp only [List.take_succ_cons, List.take_zero, List.drop_succ_cons, List.drop_zero]
  repeat (first | go_big_quiet_step ((go_at_call 71; exact Calls.quiet_of_same (flip_eq (compare_any _ _ _)))) | quiet_step ((go_at_call 71; exact Calls.quiet_of_same (flip_eq (compare_any _ _ _)))))
  refine wpQuiet_nil ?_
  rintro w' ⟨nq, rfl⟩
  have HO := Lib.hid (or_new (cfI xt yt) (cfI xa ya) (w.drewN nq))
  generalize cfI xt yt = u at HO HL ⊢
  generalize cfI xa ya = v at HO HL ⊢
  go_wp2_with (go_at_call 70; refine HO.out.mono ?_; rintro e w2 ⟨rfl, rfl⟩)
  go_ret
  refine ⟨by rw [← HL.out]; rfl, ?_⟩
  exact below_al (below_draws (Below.refl _ _) nq) _

end Go.Proofs.Ytaphhgiocahnhaa
