/-
  What geom.Eval comes to, over every input: the sum of all numbers times powers by a prime, or why not. Numbers are gone through from the last one on (slices.Backward).
-/
import Derived.Test.YtancfpekiecoiaaMathGeom
import Derived.Test.YtancfpekiecoiaaBack
import Derived.Test.YtancfpekiecoiaaRows2

namespace Go.Proofs.Ytancfpekiecoiaa
open Go.RowKit Go.Shelf

attribute [local go_sem] Oper.semAt_some

/-- What stands in the sum when the places js have come. -/
def evs (p r : Int) (xs : List Int) (js : List (Fin xs.length)) : Int := js.foldl (fun t j => Fp.add p (xs.getD j.1 0) (Fp.mul p r t)) 0
theorem evs_snoc (p r : Int) (xs : List Int) (js : List (Fin xs.length)) (j : Fin xs.length) : evs p r xs (js ++ [j]) = Fp.add p (xs.getD j.1 0) (Fp.mul p r (evs p r xs js)) := by simp [evs]
theorem evs_bd (p r : Int) (xs : List Int) (js : List (Fin xs.length)) : 0 ≤ evs p r xs js ∧ evs p r xs js < 18446744069414584321 := by
  have : ∀ (l : List (Fin xs.length)) (t : Int), 0 ≤ t ∧ t < 18446744069414584321 → 0 ≤ l.foldl (fun t j => Fp.add p (xs.getD j.1 0) (Fp.mul p r t)) t ∧ l.foldl (fun t j => Fp.add p (xs.getD j.1 0) (Fp.mul p r t)) t < 18446744069414584321 := by
    intro l
    induction l with
    | nil => intro t h; exact h
    | cons j l ih => intro t _; obtain ⟨a, b, -⟩ := Fp.add_bd p (xs.getD j.1 0) (Fp.mul p r t); exact ih _ ⟨a, b⟩
  exact this js 0 (by omega)
theorem evs_down {p : Int} (h : Fp.kn p = true) (r : Int) (xs : List Int) : ∀ k, k ≤ xs.length → evs p r xs (downTo xs.length k) = Fp.ev p (xs.drop (xs.length - k)) r
  | 0, _ => by rw [downTo_zero, Nat.sub_zero, List.drop_length, Fp.ev_nil h]; rfl
  | k + 1, hk => by
    rw [downTo_succ _ _ (by omega), evs_snoc, evs_down h r xs k (by omega)]
    have hlt : xs.length - (k + 1) < xs.length := by omega
    rw [List.drop_eq_getElem_cons hlt, ← Fp.ev_cons h]
    have e1 : xs.length - 1 - k = xs.length - (k + 1) := by omega
    have e2 : xs.length - (k + 1) + 1 = xs.length - k := by omega
    simp only [e1, e2]
    simp [hlt]
theorem evs_all {p : Int} (h : Fp.kn p = true) (r : Int) (xs : List Int) : evs p r xs (downTo xs.length xs.length) = Fp.ev p xs r := by
  rw [evs_down h r xs _ (Nat.le_refl _), Nat.sub_self, List.drop_zero]

/-- Between two rounds, the places js having come: the boxes of p, of r and of the sum. -/
def EvInv (p r : Int) (xs : List Int) (w : World) (js : List (Fin xs.length)) (W : World) : Prop :=
  Boxed W w.heap.size 22 (.int .u64 p) ∧ Boxed W (w.heap.size + 1) 22 (.int .u64 r) ∧ Boxed W (w.heap.size + 2) 22 (.int .u64 (evs p r xs js)) ∧ Below w.heap.size w W

theorem EvInv.own {p r : Int} {xs : List Int} {w : World} {B : Nat} (hB : w.heap.size ≤ B) : OwnFrom B (EvInv p r xs w) := by
  rintro js W W' row ⟨h1, h2, h3, h5⟩ hg hr
  have hr' : ∀ r, row = some r → ∃ o : Obj, W.heap[r]? = some o ∧ o.isCells = false := fun r e => (hr r e).2
  exact ⟨boxed_stays h1 hg hr', boxed_stays h2 hg hr', boxed_stays h3 hg hr', h5.grown hg h5.size (fun k e => Nat.le_trans hB (hr k e).1)⟩

theorem EvInv.step {p r : Int} {xs : List Int} {w W : World} {js : List (Fin xs.length)} (h : EvInv p r xs w js W) {i : Nat} (hi : i < xs.length) {t a : Int} (ht : t = evs p r xs js) (ha : a = xs.getD i 0) (n1 : Nat) :
    EvInv p r xs w (js ++ [⟨i, hi⟩]) ((W.drewN n1).setCell ⟨w.heap.size + 2, 0, none⟩ (.int .u64 (Fp.add p a (Fp.mul p r t)))) := by
  obtain ⟨b1, b2, b3, b5⟩ := h
  have e1 : evs p r xs (js ++ [⟨i, hi⟩]) = Fp.add p a (Fp.mul p r t) := by rw [evs_snoc, ht, ha]
  refine ⟨boxed_set (W := W.drewN n1) b1 _ (by show w.heap.size ≠ w.heap.size + 2; omega), boxed_set (W := W.drewN n1) b2 _ (by show w.heap.size + 1 ≠ w.heap.size + 2; omega), ?_, ?_⟩
  · rw [e1]
    have b4 : Boxed (W.drewN n1) (w.heap.size + 2) 22 (.int .u64 (evs p r xs js)) := b3
    exact b4.set _
  · exact (below_draws b5 n1).setCell (p := ⟨w.heap.size + 2, 0, none⟩) (by show _ ≤ w.heap.size + 2; omega) _

set_option maxRecDepth 100000 in
set_option maxHeartbeats 2000000 in
theorem geval_any (p r : Int) (x : Option Addr) (n cap : Nat) (xs : List Int) (w : World) (h : Fp.kn p = true) (hx : Reads .u64 w w.heap.size x xs) (hn : xs.length = n) (hw : Words xs) (hl : n ≤ 65536) (r0 : 0 ≤ r) (r1 : r < 18446744073709551616) :
    Calls Try.prog 23 #[.int .u64 p, .slice x n cap, .int .u64 r] w (RetB (.int .u64 (Fp.ev p xs r)) w) := by
  subst hn
  have H := Lib.hid h; clear h
  have HX := Lib.hid hx; clear hx
  have HW := Lib.hid hw; clear hw
  refine (callsIn_wide (n := 3)).1 ?_
  refine callsIn_of_wp_marks Try.func23 rfl trivial ?_ rfl
  simp only [Try.ntmps23, List.size_toArray, List.length_cons, List.length_nil, Nat.reduceAdd, Nat.reduceSub, Array.replicate_succ, Array.replicate_zero, List.push_toArray, List.append_toArray, List.nil_append, List.cons_append]
  gi_wp2
  obtain ⟨W2, hW2⟩ : ∃ W2, ((w.alloc (.cells #[.int .u64 p] 22)).alloc (.cells #[.int .u64 r] 22)).alloc (.cells #[.int .u64 0] 22) = W2 := ⟨_, rfl⟩
  have hI0 : EvInv p r xs w [] W2 ∧ W2.heap.size = w.heap.size + 3 := by
    rw [← hW2]
    have s1 : (w.alloc (.cells #[.int .u64 p] 22)).heap.size = w.heap.size + 1 := World.size_alloc _ _
    have s2 : ((w.alloc (.cells #[.int .u64 p] 22)).alloc (.cells #[.int .u64 r] 22)).heap.size = w.heap.size + 2 := by rw [World.size_alloc, s1]
    have c2 := Boxed.new (w.alloc (.cells #[.int .u64 p] 22)) 22 (.int .u64 r)
    have c3 := Boxed.new ((w.alloc (.cells #[.int .u64 p] 22)).alloc (.cells #[.int .u64 r] 22)) 22 (.int .u64 0)
    rw [s1] at c2
    rw [s2] at c3
    have d1 := below_al (Below.refl _ w) (.cells #[.int .u64 p] 22)
    exact ⟨⟨((Boxed.new w 22 _).alloc _).alloc _, c2.alloc _, c3, below_al (below_al d1 _) _⟩, by rw [World.size_alloc, s2]⟩
  obtain ⟨hI, hs2⟩ := hI0
  rw [hW2]
  have HX2 := Lib.hid ((HX.out.below hI.2.2.2))
  have HS2 := Lib.hid hs2
  clear hW2 hs2
  refine ⟨trivial, (callsIn_wide.2 (backward_any _ _ _ _)).mono ?_⟩
  rintro e W3 ⟨rfl, rfl⟩
  have bS := Boxed.new W2 23 (.slice x xs.length cap)
  have hI3 : EvInv p r xs w [] (W2.alloc (.cells #[.slice x xs.length cap] 23)) := (EvInv.own (B := w.heap.size) (Nat.le_refl _)).alloc _ hI
  have hX3 : Reads .u64 (W2.alloc (.cells #[.slice x xs.length cap] 23)) w.heap.size x xs := (HX2.out).below ((Below.refl _ W2).alloc hI.2.2.2.size _)
  have hlt3 : W2.heap.size < (W2.alloc (.cells #[.slice x xs.length cap] 23)).heap.size := by simp
  gi_wp2
  refine wpIn_rangeFunc_ownG rfl (by omega) (gf := 32) (lb := #[.pointer (some ⟨W2.heap.size, 0, none⟩)]) rfl trivial (enters_of Try.func32 (by kernel_rfl) rfl)
    (back_stops 2 (by omega) W2.heap.size w.heap.size x cap xs (by omega) _ hlt3 hI3.2.2.2.size bS.cell hX3) KeepsBox.trans (keepsBox_b hI3.2.2.2.size hlt3) (Below.refl _ _) (fun _ => rfl)
    (EvInv p r xs w) (fun _ _ _ => False) (EvInv.own (hI3.2.2.2.size)) (fun _ _ _ _ _ hs _ _ => hs) hI3 ?a1 ?assign ?body ?done ?stop
  case assign =>
    intro l j W K hK
    gi_wp2
    exact hK
  case body =>
    rintro l js ⟨i, hi⟩ W hJ hlj
    have hJ' := hJ
    obtain ⟨hp, hr, ht, hb⟩ := hJ'
    have cP := hp.cell
    have cR := hr.cell
    have cT := ht.cell
    have fT := ht.frozen
    obtain ⟨t0, t1⟩ := evs_bd p r xs js
    obtain ⟨t, ht'⟩ : ∃ t, t = evs p r xs js := ⟨_, rfl⟩
    rw [← ht'] at cT t0 t1
    obtain ⟨a0, a1⟩ := HW.out i
    obtain ⟨a, ha'⟩ : ∃ a, a = xs.getD i 0 := ⟨_, rfl⟩
    rw [← ha'] at a0 a1
    have ha2 : xs[i] = a := by rw [ha']; simp [hi]
    show Code.wpIn _ _ _ _ _ _ W
    obtain ⟨m0, m1, _⟩ := Fp.mul_bd p r t
    have HT := Lib.hid ht'; have HA := Lib.hid ha'
    have hwl : w.heap.size + 2 < W.heap.size := ht.lt
    clear ht' ha' hp hr ht hb hlj hI hI3 hX3 bS hlt3
    have hmx : Try.prog.follows .mixedOrders = true := by kernel_rfl
    simp only [ha2]
    gi_wp2
    refine regionIn_quiet_tail 7 hmx (by kernel_rfl) (by kernel_rfl) (fun ⟨_, _, h⟩ => h) ?_
    simp only [List.take_succ_cons, List.take_zero, List.drop_succ_cons, List.drop_zero]
    repeat (first | go_big_quiet_step (first | (go_at_call 17; exact Calls.quiet_of (mul_any _ _ _ _ (by omega) (by omega) (by omega) (by omega))) | (go_at_call 16; exact Calls.quiet_of (add_any _ _ _ _ (by omega) (by omega) (by omega) (by omega)))) | quiet_step (first | (go_at_call 17; exact Calls.quiet_of (mul_any _ _ _ _ (by omega) (by omega) (by omega) (by omega))) | (go_at_call 16; exact Calls.quiet_of (add_any _ _ _ _ (by omega) (by omega) (by omega) (by omega)))))
    refine wpQuiet_nil ?_
    rintro w' ⟨nq, rfl⟩
    go_wp2
    gi_wp2
    have hs2 := HS2.out
    refine ⟨?_, ⟨?_, ?_⟩, hJ.step hi HT.out HA.out _⟩
    · exact ((keeps_draws W nq).trans (KeepsOthers.setCell _ _ _)).from _
    · exact (draws_below _ W nq).setCell (p := ⟨w.heap.size + 2, 0, none⟩) (by show _ ≤ w.heap.size + 2; omega) _
    · exact Below.heap_setCell (W.drewN nq) _ _ _ (by show W2.heap.size ≠ w.heap.size + 2; omega)
  case done =>
    rintro D ys W hD rfl hJ hK
    have cT := hJ.2.2.1.cell
    rw [evs_all H.out] at cT
    have hR : RetB (.int .u64 (Fp.ev p xs r)) w (.returned (.int .u64 (Fp.ev p xs r))) (W.putObj D (.deferred none)) :=
      ⟨rfl, hJ.2.2.2.trans (belowK_b (w := w) (Nat.le_refl _) W D _ _ (by have := hI3.2.2.2.size; omega) hK rfl rfl)⟩
    gi_wp2
    refine ⟨by simp, .inl ⟨_, _, rfl, run_takeDeferred hK, ?_⟩⟩
    exact ⟨_, results_tmp (t := 6) rfl _ _ _, hR⟩
  case stop =>
    rintro D c pre W _ _ h _
    exact h.elim

/-- What is wrong with a prime and a list of n numbers. -/
def evalE (p : Int) (n : Nat) : Int := if Fp.kn p = true then if 65536 < n then 1 else 0 else 2
/-- The sum, or 0. -/
def evalN (p : Int) (xs : List Int) (r : Int) : Int := if evalE p xs.length = 0 then Fp.ev p xs r else 0
theorem evalE_ok {p : Int} {n : Nat} (h : Fp.kn p = true) (h1 : n ≤ 65536) : evalE p n = 0 := by unfold evalE; rw [if_pos h, if_neg (by omega)]
theorem evalE_no {p : Int} {n : Nat} (h : Fp.kn p = false) : evalE p n = 2 := by unfold evalE; rw [if_neg (by simp [h])]
theorem evalE_bad {p : Int} {n : Nat} (h : Fp.kn p = true) (hn : 65536 < n) : evalE p n = 1 := by unfold evalE; rw [if_pos h, if_pos hn]
theorem evalN_ok {p r : Int} {xs : List Int} (h : evalE p xs.length = 0) : evalN p xs r = Fp.ev p xs r := by unfold evalN; rw [if_pos h]
theorem evalN_no {p r : Int} {xs : List Int} (h : evalE p xs.length ≠ 0) : evalN p xs r = 0 := by unfold evalN; rw [if_neg h]
theorem evalN_bd (p r : Int) (xs : List Int) : 0 ≤ evalN p xs r ∧ evalN p xs r < 18446744069414584321 := by
  unfold evalN; split
  · obtain ⟨a, b, -⟩ := Fp.ev_bd p xs r; exact ⟨a, b⟩
  · omega

set_option maxHeartbeats 1000000 in
theorem Eval_any (p r : Int) (x : Option Addr) (n cap : Nat) (xs : List Int) (w : World) (hx : Reads .u64 w w.heap.size x xs) (hn : xs.length = n) (hw : Words xs) (hl : n ≤ 140737488355328) (r0 : 0 ≤ r) (r1 : r < 18446744073709551616) :
    Calls Try.prog 10 #[.int .u64 p, .slice x n cap, .int .u64 r] w (RetB (.tuple #[.int .u64 (evalN p xs r), .int .i64 (evalE p n)]) w) := by
  subst hn
  cases h : Fp.kn p
  · rw [evalN_no (by rw [evalE_no h]; decide), evalE_no h]
    have H := Lib.hid h
    clear h hx hw
    go_enter Try.func10, Try.ntmps10
    go_wp2_with (go_at_call 14; refine (known_no p _ H.out).mono ?_; rintro e w' ⟨rfl, rfl⟩)
    go_ret2
    exact ⟨rfl, Below.refl _ _⟩
  · by_cases hb : 65536 < xs.length
    · rw [evalN_no (by rw [evalE_bad h hb]; decide), evalE_bad h hb]
      have H := Lib.hid h
      have hd : decide (65536 < (xs.length : Int)) = true := by simp; omega
      clear h hx hw
      go_enter Try.func10, Try.ntmps10
      go_wp2_with (go_at_call 14; refine (known_yes p _ H.out).mono ?_; rintro e w' ⟨rfl, rfl⟩)
      go_ret2
      exact ⟨rfl, Below.refl _ _⟩
    · have hE := evalE_ok (n := xs.length) h (by omega)
      rw [evalN_ok hE, hE]
      have HC := Lib.hid (geval_any p r x xs.length cap xs w h hx rfl hw (by omega) r0 r1)
      have H := Lib.hid h
      have hd : decide (65536 < (xs.length : Int)) = false := by simp; omega
      clear h hx hw hb hE
      go_enter Try.func10, Try.ntmps10
      go_wp2_with (first
        | (go_at_call 14; refine (known_yes p _ H.out).mono ?_; rintro e w' ⟨rfl, rfl⟩)
        | (go_at_call 23; refine HC.out.mono ?_; rintro e w1 ⟨rfl, hB⟩))
      go_ret2
      exact ⟨rfl, hB⟩

end Go.Proofs.Ytancfpekiecoiaa
