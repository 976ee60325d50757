/-
  What power.All comes to: each number of a list undone, in a new slice, or why not.
-/
import Derived.Test.YtceccconfnlggaaMathAll
import Derived.Test.YtceccconfnlggaaQuietTail
namespace Go.Proofs.Ytceccconfnlggaa
open Go.RowKit Go.Shelf

attribute [local go_sem] Oper.semAt_some

theorem all_noprime (p : Int) (x : Option Addr) (n cap : Nat) (w : World) (h : Fp.kn p = false) :
    Calls Try.prog 11 #[.int .u64 p, .slice x n cap] w fun e w' => e = .returned (.tuple #[.slice none 0 0, .int .i64 2]) ∧ Below w.heap.size w w' := by
  have H := Lib.hid h; clear h
  have D := Lib.hid ((Below.refl w.heap.size w).alloc (Nat.le_refl _) (.cells #[.int .u64 p] 22))
  go_enter Try.func11, Try.ntmps11
  go_wp2_with (go_at_call 19; refine (known_no p _ H.out).mono ?_; rintro e w' ⟨rfl, rfl⟩)
  go_ret2
  exact ⟨rfl, D.out⟩

theorem all_long (p : Int) (x : Option Addr) (n cap : Nat) (w : World) (h : Fp.kn p = true) (hn : 65536 < n) (hn' : n ≤ 140737488355328) :
    Calls Try.prog 11 #[.int .u64 p, .slice x n cap] w fun e w' => e = .returned (.tuple #[.slice none 0 0, .int .i64 1]) ∧ Below w.heap.size w w' := by
  have H := Lib.hid h; clear h
  have D := Lib.hid ((Below.refl w.heap.size w).alloc (Nat.le_refl _) (.cells #[.int .u64 p] 22))
  go_enter Try.func11, Try.ntmps11
  go_wp2_with (go_at_call 19; refine (known_yes p _ H.out).mono ?_; rintro e w' ⟨rfl, rfl⟩)
  go_ret2
  exact ⟨rfl, D.out⟩

set_option maxHeartbeats 1000000 in
theorem all_zero (p : Int) (x : Option Addr) (n cap : Nat) (xs : List Int) (w : World) (h : Fp.kn p = true) (hx : Reads .u64 w w.heap.size x xs) (hn : xs.length = n) (hw : Words xs) (hl : n ≤ 65536) (hz : Fp.pre p xs xs.length = 0) :
    Calls Try.prog 11 #[.int .u64 p, .slice x n cap] w fun e w' => e = .returned (.tuple #[.slice none 0 0, .int .i64 9]) ∧ Below w.heap.size w w' := by
  subst hn
  have H := Lib.hid h; clear h
  have HX := Lib.hid hx; clear hx
  have HW := Lib.hid hw; clear hw
  have HZ : Hid (Fp.red p (Fp.pre p xs xs.length) = 0) := Lib.hid (by rw [Fp.pre_red]; exact hz)
  clear hz
  have hdl : decide (65536 < (xs.length : Int)) = false := by simp; omega
  obtain ⟨q0, q1, _⟩ := Fp.pre_bd p xs xs.length
  go_enter Try.func11, Try.ntmps11
  go_wp2_with (go_at_call 19; refine (known_yes p _ H.out).mono ?_; rintro e w' ⟨rfl, rfl⟩)
  have b0 := Boxed.new w 22 (.int .u64 p)
  have hB0 := (Below.refl w.heap.size w).alloc (Nat.le_refl _) (.cells #[.int .u64 p] 22)
  refine (ahead_yes p x _ cap xs _ H.out ((HX.out.below hB0).more (by simp)) rfl HW.out hl).mono ?_
  rintro e w1 ⟨g, rfl, hH, hB1⟩
  have b1 : Boxed w1 w.heap.size 22 (.int .u64 p) := (hB1.block w.heap.size (by simp)).trans b0
  have hB2 : Below w.heap.size w w1 := hB0.trans (hB1.mono (by simp))
  have c1 := b1.cell
  have hs0 := b1.lt
  clear b0 hB0 hB1 hH
  go_wp2_with (go_at_call 9; refine (inv_zero p _ _ H.out q0 (by omega) HZ.out).mono ?_; rintro e w' ⟨rfl, nd, rfl⟩)
  go_ret2
  exact ⟨rfl, (below_draws (hB2.alloc hB2.size _) nd).alloc (Nat.le_trans hB2.size (by show _ ≤ (w1.alloc _).heap.size; simp)) _⟩

/-- Between two rounds of All, the places js having come: the boxes of p, of the row and of the number that undoes, and the row. -/
def AllInv (p : Int) (xs : List Int) (w : World) (g Bu Bn : Nat) (js : List (Fin xs.length)) (W : World) : Prop :=
  Boxed W w.heap.size 22 (.int .u64 p) ∧ Boxed W Bu 23 (.slice (some ⟨g, 0, none⟩) xs.length xs.length) ∧ Boxed W Bn 22 (.int .u64 (Fp.undAll p xs js).2) ∧
  W.ownsRow (w.heap.size + 1) 22 1 (.slice (some ⟨g, 0, none⟩) xs.length xs.length) xs.length ((Fp.undAll p xs js).1.map (Value.int .u64)) ∧ Below w.heap.size w W

theorem boxed_stays {W W' : World} {row : Option Nat} {B : Nat} {t : TypeId} {v : Value} (h : Boxed W B t v) (hg : W.grownBy W' row) (hr : ∀ r, row = some r → ∃ o : Obj, W.heap[r]? = some o ∧ o.isCells = false) : Boxed W' B t v :=
  h.kept hg (fun e => by obtain ⟨o, ho, hc⟩ := hr B e.symm; rw [show W.heap[B]? = _ from h] at ho; cases ho; cases hc)
theorem owned_stays {W W' : World} {row : Option Nat} {base n : Nat} {t : TypeId} {v : Value} {ys : List Value} (h : W.ownsRow base t 1 v n ys) (hg : W.grownBy W' row) (hr : ∀ r, row = some r → ∃ o : Obj, W.heap[r]? = some o ∧ o.isCells = false) : W'.ownsRow base t 1 v n ys := by
  refine h.kept hg ?_
  rcases h.2 with ⟨rfl, _⟩ | ⟨g, cap, cur, rfl, _, hgb, _⟩
  · exact .inl rfl
  · refine .inr fun e => ?_
    obtain ⟨o, ho, hc⟩ := hr g (by simpa [Value.ownBlock] using e.symm)
    rw [hgb] at ho; cases ho; cases hc
theorem AllInv.own {p : Int} {xs : List Int} {w : World} {g Bu Bn B : Nat} (hB : w.heap.size ≤ B) : OwnFrom B (AllInv p xs w g Bu Bn) := by
  rintro js W W' row ⟨h1, h2, h3, h4, h5⟩ hg hr
  have hr' : ∀ r, row = some r → ∃ o : Obj, W.heap[r]? = some o ∧ o.isCells = false := fun r e => (hr r e).2
  exact ⟨boxed_stays h1 hg hr', boxed_stays h2 hg hr', boxed_stays h3 hg hr', owned_stays h4 hg hr', h5.grown hg h5.size (fun k e => Nat.le_trans hB (hr k e).1)⟩

theorem keeps_draws (W : World) (n : Nat) : KeepsOthers W (W.drewN n) := ⟨Nat.le_refl _, fun _ _ h _ => h⟩
theorem boxed_set {W : World} {B : Nat} {t : TypeId} {v : Value} (h : Boxed W B t v) {a : Addr} (u : Value) (hne : B ≠ a.block) : Boxed (W.setCell a u) B t v := (Below.heap_setCell W a u B hne).trans h
theorem owned_set {W : World} {base n g cap : Nat} {t : TypeId} {ys : List Value} (h : W.ownsRow base t 1 (.slice (some ⟨g, 0, none⟩) n cap) n ys) {a : Addr} (u : Value) (hne : g ≠ a.block) : (W.setCell a u).ownsRow base t 1 (.slice (some ⟨g, 0, none⟩) n cap) n ys := by
  rcases h.2 with ⟨e, _⟩ | ⟨g', cap', cur, e, h1, h2, h3⟩
  · simp at e
  · simp only [Value.slice.injEq, Option.some.injEq, Addr.mk.injEq, and_true, true_and] at e
    obtain ⟨rfl, rfl⟩ := e
    exact ⟨h.1, .inr ⟨_, _, cur, rfl, h1, (Below.heap_setCell W a u g hne).trans h2, h3⟩⟩
theorem AllInv.step {p : Int} {xs : List Int} {w W : World} {g Bu Bn : Nat} {js : List (Fin xs.length)} (h : AllInv p xs w g Bu Bn js W) (h1 : w.heap.size < g) (h2 : g < Bu) (h3 : Bu < Bn) {i : Nat} (hi : i < xs.length) {y u a : Int}
    (hy : y = (Fp.undAll p xs js).1.getD i 0) (hu : u = (Fp.undAll p xs js).2) (ha : a = xs[i]) (n1 n2 : Nat) :
    AllInv p xs w g Bu Bn (js ++ [⟨i, hi⟩]) ((((W.drewN n1).setCell ⟨g, i, none⟩ (.int .u64 (Fp.mul p y u))).drewN n2).setCell ⟨Bn, 0, none⟩ (.int .u64 (Fp.mul p u a))) := by
  obtain ⟨b1, b2, b3, b4, b5⟩ := h
  have e1 : (Fp.undAll p xs (js ++ [⟨i, hi⟩])) = ((Fp.undAll p xs js).1.set i (Fp.mul p y u), Fp.mul p u a) := by
    rw [Fp.undAll_snoc]; unfold Fp.undo1; rw [hy, hu, ha]; simp [hi]
  have c1 : Boxed (((W.drewN n1).setCell ⟨g, i, none⟩ (.int .u64 (Fp.mul p y u))).drewN n2) w.heap.size 22 (.int .u64 p) := boxed_set (W := W.drewN n1) b1 _ (by show w.heap.size ≠ g; omega)
  have c2 : Boxed (((W.drewN n1).setCell ⟨g, i, none⟩ (.int .u64 (Fp.mul p y u))).drewN n2) Bu 23 (.slice (some ⟨g, 0, none⟩) xs.length xs.length) := boxed_set (W := W.drewN n1) b2 _ (by show Bu ≠ g; omega)
  have c3 : Boxed (((W.drewN n1).setCell ⟨g, i, none⟩ (.int .u64 (Fp.mul p y u))).drewN n2) Bn 22 (.int .u64 (Fp.undAll p xs js).2) := boxed_set (W := W.drewN n1) b3 _ (by show Bn ≠ g; omega)
  have c4 := (World.ownsRow.stored (w := W.drewN n1) b4 i (.int .u64 (Fp.mul p y u))).1
  rw [map_set] at c4
  refine ⟨boxed_set c1 _ (by show w.heap.size ≠ Bn; omega), boxed_set c2 _ (by show Bu ≠ Bn; omega), ?_, ?_, ?_⟩
  · rw [e1]; exact c3.set _
  · rw [e1]; exact owned_set (W := ((W.drewN n1).setCell ⟨g, i, none⟩ (.int .u64 (Fp.mul p y u))).drewN n2) c4 _ (by show g ≠ Bn; omega)
  · exact (below_draws ((below_draws b5 n1).setCell (p := ⟨g, i, none⟩) (by show _ ≤ g; omega) _) n2).setCell (p := ⟨Bn, 0, none⟩) (by show _ ≤ Bn; omega) _

set_option maxRecDepth 100000 in
set_option maxHeartbeats 2000000 in
theorem all_yes (p : Int) (x : Option Addr) (n cap : Nat) (xs : List Int) (w : World) (h : Fp.kn p = true) (hx : Reads .u64 w w.heap.size x xs) (hn : xs.length = n) (hw : Words xs) (hl : n ≤ 65536) (hz : Fp.pre p xs xs.length ≠ 0) :
    Calls Try.prog 11 #[.int .u64 p, .slice x n cap] w (ListRet w (xs.map (Fp.inv p))) := by
  subst hn
  have H := Lib.hid h; clear h
  have HX := Lib.hid hx; clear hx
  have HW := Lib.hid hw; clear hw
  have HZ := Lib.hid hz; clear hz
  have hdl : decide (65536 < (xs.length : Int)) = false := by simp; omega
  obtain ⟨q0, q1, _⟩ := Fp.pre_bd p xs xs.length
  refine (callsIn_wide (n := 3)).1 ?_
  refine callsIn_of_wp_marks Try.func11 rfl trivial ?_ rfl
  simp only [Try.ntmps11, List.size_toArray, List.length_cons, List.length_nil, Nat.reduceAdd, Nat.reduceSub, Array.replicate_succ, Array.replicate_zero, List.push_toArray, List.append_toArray, List.nil_append, List.cons_append]
  gi_wp2_with (refine ⟨trivial, ?_⟩; gi_at_call 19; refine (callsIn_wide.2 (known_yes p _ H.out)).mono ?_; rintro e w' ⟨rfl, rfl⟩)
  have b0 := Boxed.new w 22 (.int .u64 p)
  have hB0 := (Below.refl w.heap.size w).alloc (Nat.le_refl _) (.cells #[.int .u64 p] 22)
  refine ⟨trivial, (callsIn_wide.2 (ahead_yes p x _ cap xs _ H.out ((HX.out.below hB0).more (by simp)) rfl HW.out hl)).mono ?_⟩
  rintro e w1 ⟨g, rfl, hH, hB1⟩
  have b1 : Boxed w1 w.heap.size 22 (.int .u64 p) := (hB1.block w.heap.size (by simp)).trans b0
  have hB2 : Below w.heap.size w w1 := hB0.trans (hB1.mono (by simp))
  have hg1 := hH.lt
  have hs1 : (w.alloc (.cells #[.int .u64 p] 22)).heap.size = w.heap.size + 1 := World.size_alloc _ _
  rw [hs1] at hH hg1
  have c1 := b1.cell
  have hs0 := b1.lt
  clear b0 hB0 hB1 hs1
  gi_wp2_with (refine ⟨trivial, ?_⟩; gi_at_call 9; refine (callsIn_wide.2 (inv_yes p _ _ H.out q0 (by omega) (by rw [Fp.pre_red]; exact HZ.out))).mono ?_; rintro e w' ⟨rfl, nd, rfl⟩)
  obtain ⟨W2, hW2⟩ : ∃ W2, ((w1.alloc (.cells #[.slice (some ⟨g, 0, none⟩) xs.length xs.length] 23)).drewN nd).alloc (.cells #[.int .u64 (Fp.inv p (Fp.pre p xs xs.length))] 22) = W2 := ⟨_, rfl⟩
  have hI0 : AllInv p xs w g w1.heap.size (w1.heap.size + 1) [] W2 ∧ W2.heap.size = w1.heap.size + 2 := by
    rw [← hW2]
    refine ⟨⟨(b1.alloc _).alloc _, (Boxed.new w1 23 _).alloc _, ?_, ?_, ?_⟩, ?_⟩
    · have e : ((w1.alloc (.cells #[.slice (some ⟨g, 0, none⟩) xs.length xs.length] 23)).drewN nd).heap.size = w1.heap.size + 1 := World.size_alloc _ _
      have := Boxed.new ((w1.alloc (.cells #[.slice (some ⟨g, 0, none⟩) xs.length xs.length] 23)).drewN nd) 22 (.int .u64 (Fp.inv p (Fp.pre p xs xs.length)))
      rw [e] at this
      exact this
    · have := hH.own
      rw [mixed_all] at this
      exact (World.ownsRow.alloc (w := (w1.alloc (.cells #[.slice (some ⟨g, 0, none⟩) xs.length xs.length] 23)).drewN nd) (World.ownsRow.alloc this _) _)
    · exact (below_draws (hB2.alloc hB2.size _) nd).alloc (Nat.le_trans hB2.size (by show _ ≤ (w1.alloc _).heap.size; simp)) _
    · show ((w1.alloc _).alloc _).heap.size = _; simp
  obtain ⟨hI, hs2⟩ := hI0
  rw [hW2]
  have HX2 := Lib.hid ((HX.out.below hI.2.2.2.2))
  have HS2 := Lib.hid hs2
  clear hW2 b1 hH hB2 c1 hs2
  refine ⟨trivial, (callsIn_wide.2 (backward_any _ _ _ _)).mono ?_⟩
  rintro e W3 ⟨rfl, rfl⟩
  have bS := Boxed.new W2 23 (.slice x xs.length cap)
  have hI3 : AllInv p xs w g w1.heap.size (w1.heap.size + 1) [] (W2.alloc (.cells #[.slice x xs.length cap] 23)) := (AllInv.own (B := w.heap.size) (Nat.le_refl _)).alloc _ hI
  have hX3 : Reads .u64 (W2.alloc (.cells #[.slice x xs.length cap] 23)) w.heap.size x xs := (HX2.out).below ((Below.refl _ W2).alloc hI.2.2.2.2.size _)
  have hlt3 : W2.heap.size < (W2.alloc (.cells #[.slice x xs.length cap] 23)).heap.size := by simp
  gi_wp2
  refine wpIn_rangeFunc_ownG rfl (by omega) (gf := 28) (lb := #[.pointer (some ⟨W2.heap.size, 0, none⟩)]) rfl trivial (enters_of Try.func28 (by kernel_rfl) rfl)
    (back_stops 2 (by omega) W2.heap.size w.heap.size x cap xs (by omega) _ hlt3 hI3.2.2.2.2.size bS.cell hX3) KeepsBox.trans (keepsBox_b hI3.2.2.2.2.size hlt3) (Below.refl _ _) (fun _ => rfl)
    (AllInv p xs w g w1.heap.size (w1.heap.size + 1)) (fun _ _ _ => False) (AllInv.own (hI3.2.2.2.2.size)) (fun _ _ _ _ _ hs _ _ => hs) hI3 ?a1 ?assign ?body ?done ?stop
  case assign =>
    intro l j W K hK
    gi_wp2
    exact hK
  case body =>
    rintro l js ⟨i, hi⟩ W hJ hlj
    have hJ' := hJ
    obtain ⟨hp, hu, hn, hr, hb⟩ := hJ'
    have cP := hp.cell
    have cU := hu.cell
    have cN := hn.cell
    have fN := hn.frozen
    have hc := hr.cellAt i (by omega)
    have fR := hr.frozenAt i
    obtain ⟨d1, d2, d3, d4⟩ := Fp.undAll_words p xs js
    have hy := d2 i
    rw [List.getElem?_map] at hc
    obtain ⟨y, hy'⟩ : ∃ y, y = (Fp.undAll p xs js).1.getD i 0 := ⟨_, rfl⟩
    obtain ⟨u, hu'⟩ : ∃ u, u = (Fp.undAll p xs js).2 := ⟨_, rfl⟩
    obtain ⟨a, ha'⟩ : ∃ a, a = xs[i] := ⟨_, rfl⟩
    have hc' : W.cell? ⟨g, i, none⟩ = some (.int .u64 y) := by rw [hc, hy']; simp [d1, hi]
    rw [← hy'] at hy
    rw [← hu'] at cN d3 d4
    have ha : 0 ≤ a ∧ a < 18446744073709551616 := by have := HW.out i; rw [ha']; simpa [hi] using this
    show Code.wpIn _ _ _ _ _ _ W
    simp only [← ha']
    obtain ⟨m0, m1, _⟩ := Fp.mul_bd p y u
    obtain ⟨g0, g1⟩ := hg1
    have HY := Lib.hid hy'; have HU := Lib.hid hu'; have HA := Lib.hid ha'
    have hwl : w.heap.size < W.heap.size := hp.lt
    have hgl : g < W.heap.size := (hr.lt g rfl).2
    have hBl : w1.heap.size + 1 < W.heap.size := hn.lt
    clear hc hy' hu' ha' d1 d2 hp hu hn hr hb hlj hI hI3 hX3 bS hlt3
    have hmx : Try.prog.follows .mixedOrders = true := by kernel_rfl
    gi_wp2
    refine regionIn_quiet_tail 9 hmx (by kernel_rfl) (by kernel_rfl) (fun ⟨_, _, h⟩ => h) ?_
    simp only [List.take_succ_cons, List.take_zero, List.drop_succ_cons, List.drop_zero]
    repeat (first | go_big_quiet_step ((go_at_call 18; exact Calls.quiet_of (mul_any _ _ _ _ (by omega) (by omega) (by omega) (by omega)))) | quiet_step ((go_at_call 18; exact Calls.quiet_of (mul_any _ _ _ _ (by omega) (by omega) (by omega) (by omega)))))
    refine wpQuiet_nil ?_
    rintro w' ⟨nq, rfl⟩
    go_wp2
    gi_wp2_with (refine ⟨trivial, ?_⟩; gi_at_call 18; refine (CallsIn.inRound l (callsIn_wide.2 (mul_any _ _ _ _ (by omega) (by omega) (by omega) (by omega)))).mono ?_; rintro e w' ⟨rfl, nm, rfl⟩)
    have hs2 := HS2.out
    refine ⟨?_, ⟨?_, ?_⟩, hJ.step g0 g1 (by omega) hi HY.out HU.out HA.out _ _⟩
    · exact ((((keeps_draws W nq).trans (KeepsOthers.setCell _ _ _)).trans (keeps_draws _ nm)).trans (KeepsOthers.setCell _ _ _)).from _
    · exact (below_draws ((draws_below _ W nq).setCell (p := ⟨g, i, none⟩) (by show _ ≤ g; omega) _) nm).setCell (p := ⟨w1.heap.size + 1, 0, none⟩) (by show _ ≤ w1.heap.size + 1; omega) _
    · exact (Below.heap_setCell _ _ _ _ (by show W2.heap.size ≠ w1.heap.size + 1; omega)).trans (Below.heap_setCell (W.drewN nq) _ _ _ (by show W2.heap.size ≠ g; omega))
  case done =>
    rintro D ys W hD rfl hJ hK
    have cU := hJ.2.1.cell
    have hR : ListRet w (xs.map (Fp.inv p)) (.returned (.tuple #[.slice (some ⟨g, 0, none⟩) xs.length xs.length, .int .i64 0])) (W.putObj D (.deferred none)) := by
      refine ⟨_, rfl, ?_, hJ.2.2.2.2.trans (belowK_b (w := w) (Nat.le_refl _) W D _ _ (by have := hI3.2.2.2.2.size; omega) hK rfl rfl)⟩
      have := ownsRow_putObj hJ.2.2.2.1 (.deferred none) hK rfl
      rw [Fp.undo_all H.out xs HZ.out] at this
      unfold Owns
      rw [List.length_map]
      exact World.ownsRow.mono this (by omega)
    gi_wp2
    refine ⟨by simp, .inl ⟨_, _, rfl, run_takeDeferred hK, ?_⟩⟩
    exact ⟨_, results_tmp2 (t := 4) (u := 5) rfl _ _ _, hR⟩
  case stop =>
    rintro D c pre W _ _ h _
    exact h.elim

end Go.Proofs.Ytceccconfnlggaa
