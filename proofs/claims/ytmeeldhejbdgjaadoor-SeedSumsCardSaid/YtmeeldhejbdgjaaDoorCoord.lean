/-
  What shape.Coord comes to.
-/
import Derived.Test.YtmeeldhejbdgjaaDoorShapes
import Derived.Test.YtmeeldhejbdgjaaDoorGeoms
import Derived.Test.YtmeeldhejbdgjaaDoorRows2
namespace Go.Proofs.YtmeeldhejbdgjaaDoor
open Go.RowKit Go.Shelf

attribute [local go_sem] Oper.semAt_some

namespace Sh
/-- What the list and the place have come to, the axes js having come. -/
def crdAll (ns : List Nat) (i : Nat) (js : List Nat) : List Nat × Nat := js.foldl (fun s j => (s.1.set j (s.2 % ns.getD j 0), s.2 / ns.getD j 0)) (List.replicate ns.length 0, i)
theorem crdAll_snoc (ns : List Nat) (i : Nat) (js : List Nat) (j : Nat) : crdAll ns i (js ++ [j]) = ((crdAll ns i js).1.set j ((crdAll ns i js).2 % ns.getD j 0), (crdAll ns i js).2 / ns.getD j 0) := by
  simp [crdAll]
theorem crdAll_bd (ns : List Nat) (i : Nat) (js : List Nat) : (crdAll ns i js).1.length = ns.length ∧ (crdAll ns i js).2 ≤ i := by
  unfold crdAll
  have : ∀ (js : List Nat) (s : List Nat × Nat), s.1.length = ns.length ∧ s.2 ≤ i → (js.foldl (fun s j => (s.1.set j (s.2 % ns.getD j 0), s.2 / ns.getD j 0)) s).1.length = ns.length ∧ (js.foldl (fun s j => (s.1.set j (s.2 % ns.getD j 0), s.2 / ns.getD j 0)) s).2 ≤ i := by
    intro js
    induction js with
    | nil => intro s h; exact h
    | cons j js ih =>
      intro s h
      exact ih _ ⟨by simpa using h.1, Nat.le_trans (Nat.div_le_self _ _) h.2⟩
  exact this js _ ⟨by simp, Nat.le_refl _⟩
theorem crdAll_down (ns : List Nat) (i : Nat) : ∀ k, k ≤ ns.length → crdAll ns i ((downTo ns.length k).map Fin.val) = (List.replicate (ns.length - k) 0 ++ (crd ns i).drop (ns.length - k), i / prod (ns.drop (ns.length - k)))
  | 0, _ => by
    rw [downTo_zero]
    have e : (crd ns i).drop ns.length = [] := List.drop_eq_nil_of_le (by rw [crd_len]; exact Nat.le_refl _)
    have e2 : ns.drop ns.length = [] := List.drop_eq_nil_of_le (Nat.le_refl _)
    simp [crdAll, e, e2, prod]
  | k + 1, h => by
    rw [downTo_succ _ _ (by omega), List.map_append, List.map_cons, List.map_nil, crdAll_snoc, crdAll_down ns i k (by omega)]
    obtain ⟨j, hj⟩ : ∃ j, j = ns.length - 1 - k := ⟨_, rfl⟩
    have e1 : ns.length - k = j + 1 := by omega
    have e2 : ns.length - (k + 1) = j := by omega
    have hl : j < ns.length := by omega
    simp only [e1, e2, ← hj]
    refine Prod.ext ?_ ?_
    · dsimp only
      rw [← crd_get ns i j hl, List.replicate_succ']
      have hc : j < (crd ns i).length := by rw [crd_len]; exact hl
      rw [List.append_assoc, List.set_append_right _ _ (by simp), List.length_replicate, Nat.sub_self]
      congr 1
      rw [List.drop_eq_getElem_cons hc]
      simp [hc]
    · dsimp only
      rw [Nat.div_div_eq_div_mul, Nat.mul_comm, prod_drop ns j hl]
theorem crdAll_done (ns : List Nat) (i m : Nat) (hm : m = ns.length) : (crdAll ns i ((downTo m m).map Fin.val)).1 = crd ns i := by
  subst hm
  rw [crdAll_down ns i _ (Nat.le_refl _)]
  simp
end Sh

theorem coord_no (ds : List Int) (no : Sh.No ds) (i : Int) (x : Option Addr) (n cap : Nat) (w : World) (hx : Reads .i64 w w.heap.size x ds) (hn : ds.length = n) :
    Calls Tryd.prog 20 #[.slice x n cap, .int .i64 i] w (RetL [] 3 w) := by
  have HB := Lib.hid ((Below.refl w.heap.size w).alloc (Nat.le_refl _) (.cells #[.int .i64 i] 3))
  have HA := Lib.hid (all_no ds no x n cap _ w.heap.size (hx.below HB.out) hn)
  clear no hx hn
  go_enter Tryd.func20, Tryd.ntmps20
  go_wp2_with (go_at_call 41; refine HA.out.mono ?_; rintro e w' ⟨rfl, rfl⟩)
  go_ret2
  exact ⟨_, rfl, Owns.nil, HB.out⟩

theorem coord_arg (ns : List Nat) (ok : Sh.Ok ns) (i : Int) (hi : ¬ (0 ≤ i ∧ i < (Sh.prod ns : Nat))) (x : Option Addr) (n cap : Nat) (w : World) (hx : Reads .i64 w w.heap.size x (Sh.ints ns)) (hn : ns.length = n) :
    Calls Tryd.prog 20 #[.slice x n cap, .int .i64 i] w (RetL [] 1 w) := by
  have HB := Lib.hid ((Below.refl w.heap.size w).alloc (Nat.le_refl _) (.cells #[.int .i64 i] 3))
  have HA := Lib.hid (all_ok ns ok x n cap _ w.heap.size (hx.below HB.out) hn)
  by_cases h0 : i < 0
  · have d1 : decide (i < 0) = true := by simpa using h0
    clear ok hx hi hn
    go_enter Tryd.func20, Tryd.ntmps20
    go_wp2_with (go_at_call 41; refine HA.out.mono ?_; rintro e w' ⟨rfl, rfl⟩)
    go_ret2
    exact ⟨_, rfl, Owns.nil, HB.out⟩
  · have d1 : decide (i < 0) = false := by simpa using h0
    have d2 : decide (((Sh.prod ns : Nat) : Int) ≤ i) = true := by simp; omega
    clear ok hx hi hn
    go_enter Tryd.func20, Tryd.ntmps20
    go_wp2_with (go_at_call 41; refine HA.out.mono ?_; rintro e w' ⟨rfl, rfl⟩)
    go_ret2
    exact ⟨_, rfl, Owns.nil, HB.out⟩

/-- Between two rounds, the axes js having come: the boxes of the place and of the row, and the row. -/
def CrdInv (ns : List Nat) (i : Nat) (w : World) (g Bc : Nat) (js : List (Fin (Sh.ints ns).length)) (W : World) : Prop :=
  Boxed W w.heap.size 3 (.int .i64 ((Sh.crdAll ns i (js.map Fin.val)).2 : Nat)) ∧ Boxed W Bc 44 (.slice (some ⟨g, 0, none⟩) ns.length ns.length) ∧
  W.ownsRow w.heap.size 3 1 (.slice (some ⟨g, 0, none⟩) ns.length ns.length) ns.length ((Sh.ints (Sh.crdAll ns i (js.map Fin.val)).1).map (Value.int .i64)) ∧ Below w.heap.size w W

theorem CrdInv.own {ns : List Nat} {i : Nat} {w : World} {g Bc B : Nat} (hB : w.heap.size ≤ B) : OwnFrom B (CrdInv ns i w g Bc) := by
  rintro js W W' row ⟨h1, h2, h3, h4⟩ hg hr
  have hr' : ∀ r, row = some r → ∃ o : Obj, W.heap[r]? = some o ∧ o.isCells = false := fun r e => (hr r e).2
  exact ⟨boxed_stays h1 hg hr', boxed_stays h2 hg hr', owned_stays h3 hg hr', h4.grown hg h4.size (fun k e => Nat.le_trans hB (hr k e).1)⟩

theorem CrdInv.step {ns : List Nat} {i : Nat} {w W : World} {g Bc : Nat} {js : List (Fin (Sh.ints ns).length)} (h : CrdInv ns i w g Bc js W) (h1 : w.heap.size < g) (h2 : g < Bc) {j : Nat} (hj : j < (Sh.ints ns).length) {q d r s : Nat}
    (hq : q = (Sh.crdAll ns i (js.map Fin.val)).2) (hd : d = ns.getD j 0) (hr : r = q % d) (hs : s = q / d) (n1 : Nat) :
    CrdInv ns i w g Bc (js ++ [⟨j, hj⟩]) (((W.drewN n1).setCell ⟨g, j, none⟩ (.int .i64 (r : Int))).setCell ⟨w.heap.size, 0, none⟩ (.int .i64 (s : Int))) := by
  obtain ⟨b1, b2, b3, b4⟩ := h
  have e1 : Sh.crdAll ns i ((js ++ [(⟨j, hj⟩ : Fin (Sh.ints ns).length)]).map Fin.val) = ((Sh.crdAll ns i (js.map Fin.val)).1.set j r, s) := by
    rw [List.map_append, List.map_cons, List.map_nil, Sh.crdAll_snoc, hr, hs, hq, hd]
  have c1 : Boxed ((W.drewN n1).setCell ⟨g, j, none⟩ (.int .i64 (r : Int))) w.heap.size 3 (.int .i64 ((Sh.crdAll ns i (js.map Fin.val)).2 : Nat)) := boxed_set (W := W.drewN n1) b1 _ (by show w.heap.size ≠ g; omega)
  have c2 : Boxed ((W.drewN n1).setCell ⟨g, j, none⟩ (.int .i64 (r : Int))) Bc 44 (.slice (some ⟨g, 0, none⟩) ns.length ns.length) := boxed_set (W := W.drewN n1) b2 _ (by show Bc ≠ g; omega)
  have c4 := (World.ownsRow.stored (w := W.drewN n1) b3 j (.int .i64 (r : Int))).1
  rw [map_set, Sh.ints_set] at c4
  refine ⟨?_, boxed_set c2 _ (by show Bc ≠ w.heap.size; omega), ?_, ?_⟩
  · rw [e1]; exact c1.set _
  · rw [e1]; exact owned_set (W := (W.drewN n1).setCell ⟨g, j, none⟩ (.int .i64 (r : Int))) c4 _ (by show g ≠ w.heap.size; omega)
  · exact ((below_draws b4 n1).setCell (p := ⟨g, j, none⟩) (by show _ ≤ g; omega) _).setCell (p := ⟨w.heap.size, 0, none⟩) (Nat.le_refl _) _

set_option maxRecDepth 100000 in
set_option maxHeartbeats 2000000 in
theorem coord_ok (ns : List Nat) (ok : Sh.Ok ns) (i : Nat) (hi : i < Sh.prod ns) (x : Option Addr) (n cap : Nat) (w : World) (hx : Reads .i64 w w.heap.size x (Sh.ints ns)) (hn : ns.length = n) :
    Calls Tryd.prog 20 #[.slice x n cap, .int .i64 (i : Int)] w (RetL (Sh.ints (Sh.crd ns i)) 0 w) := by
  subst hn
  have hB0 := (Below.refl w.heap.size w).alloc (Nat.le_refl _) (.cells #[.int .i64 (i : Int)] 3)
  have HA := Lib.hid (all_ok ns ok x _ cap _ w.heap.size (hx.below hB0) rfl)
  have h1 := ok.one
  have h4 := ok.four
  have p1 := ok.le
  have d1 : decide ((i : Int) < 0) = false := by simp
  have HX := Lib.hid hx
  have HK := Lib.hid ok
  obtain ⟨i0, hti, hy0, hy1, hy2⟩ := info_parts info_int
  have hmk : ∀ W : World, (Instr.makeSlice 44 (.int .i64 (ns.length : Int)) (.int .i64 (ns.length : Int))).run Tryd.prog W = .ok (.slice (some ⟨W.heap.size, 0, none⟩) ns.length ns.length) (W.alloc (.cells (madeCells (Value.int .i64 0).cells (ns.length * 1)) 3)) := fun W => by
    have := run_make (P := Tryd.prog) W 44 3 i0 (.int .i64 0) Tryd.underlying44 hti hy0 .i64 .i64 ns.length ns.length (by omega) (Int.le_refl _) (by rw [hy2]; omega) (by omega)
    simpa [hy1] using this
  obtain ⟨O, hO⟩ : ∃ O, O = Obj.cells (madeCells (Value.int .i64 0).cells (ns.length * 1)) 3 := ⟨_, rfl⟩
  rw [← hO] at hmk
  have HO := Lib.hid hO
  obtain ⟨P, hP⟩ : ∃ P, P = Sh.prod ns := ⟨_, rfl⟩
  rw [← hP] at HA p1 hi
  have d2 : decide (P ≤ i) = false := by simp; omega
  clear hx ok hP hO hti hy0 hy1 hy2 hB0
  refine (callsIn_wide (n := 3)).1 ?_
  refine callsIn_of_wp_marks Tryd.func20 rfl trivial ?_ rfl
  simp only [Tryd.ntmps20, List.size_toArray, List.length_cons, List.length_nil, Nat.reduceAdd, Nat.reduceSub, Array.replicate_succ, Array.replicate_zero, List.push_toArray, List.append_toArray, List.nil_append, List.cons_append]
  gi_wp2_with (refine ⟨trivial, ?_⟩; gi_at_call 41; refine (callsIn_wide.2 HA.out).mono ?_; rintro e w' ⟨rfl, rfl⟩)
  obtain ⟨W2, hW2⟩ : ∃ W2, ((w.alloc (.cells #[.int .i64 (i : Int)] 3)).alloc O).alloc (.cells #[.slice (some ⟨w.heap.size + 1, 0, none⟩) ns.length ns.length] 44) = W2 := ⟨_, rfl⟩
  have hI0 : CrdInv ns i w (w.heap.size + 1) (w.heap.size + 1 + 1) [] W2 ∧ W2.heap.size = w.heap.size + 3 := by
    rw [← hW2]
    have s1 : (w.alloc (.cells #[.int .i64 (i : Int)] 3)).heap.size = w.heap.size + 1 := World.size_alloc _ _
    have s2 : ((w.alloc (.cells #[.int .i64 (i : Int)] 3)).alloc O).heap.size = w.heap.size + 1 + 1 := by rw [World.size_alloc, s1]
    refine ⟨⟨((Boxed.new w 3 _).alloc _).alloc _, ?_, ?_, ?_⟩, by rw [World.size_alloc, s2]⟩
    · have := Boxed.new ((w.alloc (.cells #[.int .i64 (i : Int)] 3)).alloc O) 44 (.slice (some ⟨w.heap.size + 1, 0, none⟩) ns.length ns.length)
      rw [s2] at this
      exact this
    · have := World.ownsRow_lit (base := w.heap.size) (size := 1) (e := 3) (w.alloc (.cells #[.int .i64 (i : Int)] 3)) (madeCells (Value.int .i64 0).cells (ns.length * 1)) ns.length (by rw [s1]; omega) (by unfold maxLen; omega) (size_madeCells _ _)
      rw [s1, show (Value.int .i64 0).cells = #[.int .i64 0] from rfl, toList_madeCells_one, Nat.mul_one] at this
      refine World.ownsRow.alloc ?_ _
      have e : (Sh.ints (Sh.crdAll ns i (([] : List (Fin (Sh.ints ns).length)).map Fin.val)).1).map (Value.int .i64) = List.replicate ns.length (.int .i64 0) := by simp [Sh.crdAll, Sh.ints]
      rw [e, HO.out, show (Value.int .i64 0).cells = #[.int .i64 0] from rfl, Nat.mul_one]
      exact this
    · exact (((Below.refl w.heap.size w).alloc (Nat.le_refl _) _).alloc (by rw [s1]; omega) _).alloc (by rw [s2]; omega) _
  obtain ⟨hI, hs2⟩ := hI0
  rw [hW2]
  have HX2 := Lib.hid ((HX.out.below hI.2.2.2))
  have HS2 := Lib.hid hs2
  clear hW2 hs2 hmk HA
  refine ⟨trivial, (callsIn_wide.2 (backwardI_any _ _ _ _)).mono ?_⟩
  rintro e W3 ⟨rfl, rfl⟩
  have bS := Boxed.new W2 44 (.slice x ns.length cap)
  have hI3 : CrdInv ns i w (w.heap.size + 1) (w.heap.size + 1 + 1) [] (W2.alloc (.cells #[.slice x ns.length cap] 44)) := (CrdInv.own (B := w.heap.size) (Nat.le_refl _)).alloc _ hI
  have hX3 : Reads .i64 (W2.alloc (.cells #[.slice x ns.length cap] 44)) w.heap.size x (Sh.ints ns) := (HX2.out).below ((Below.refl _ W2).alloc hI.2.2.2.size _)
  have hlt3 : W2.heap.size < (W2.alloc (.cells #[.slice x ns.length cap] 44)).heap.size := by simp
  have cS : (W2.alloc (.cells #[.slice x ns.length cap] 44)).cell? ⟨W2.heap.size, 0, none⟩ = some (.slice x (Sh.ints ns).length cap) := by rw [Sh.ints_len]; exact bS.cell
  gi_wp2
  refine wpIn_rangeFunc_ownG rfl (by omega) (gf := 64) (lb := #[.pointer (some ⟨W2.heap.size, 0, none⟩)]) rfl trivial (enters_of Tryd.func64 (by kernel_rfl) rfl)
    (backI_stops 2 (by omega) W2.heap.size w.heap.size x cap (Sh.ints ns) (by rw [Sh.ints_len]; omega) _ hlt3 hI3.2.2.2.size cS hX3) KeepsBox.trans (keepsBox_b hI3.2.2.2.size hlt3) (Below.refl _ _) (fun _ => rfl)
    (CrdInv ns i w (w.heap.size + 1) (w.heap.size + 1 + 1)) (fun _ _ _ => False) (CrdInv.own (hI3.2.2.2.size)) (fun _ _ _ _ _ hs _ _ => hs) hI3 ?a1 ?assign ?body ?done ?stop
  case assign =>
    intro l j W K hK
    gi_wp2
    exact hK
  case body =>
    rintro l js ⟨j, hj⟩ W hJ hlj
    have hJ' := hJ
    obtain ⟨hb1, hb2, hr, hb⟩ := hJ'
    have hjn : j < ns.length := by rw [Sh.ints_len] at hj; exact hj
    have cI := hb1.cell
    have fI := hb1.frozen
    have cC := hb2.cell
    have hc := hr.cellAt j (by omega)
    have fR := hr.frozenAt j
    obtain ⟨e1, e2⟩ := Sh.crdAll_bd ns i (js.map Fin.val)
    obtain ⟨q, hq⟩ : ∃ q, q = (Sh.crdAll ns i (js.map Fin.val)).2 := ⟨_, rfl⟩
    obtain ⟨d, hd⟩ : ∃ d, d = ns.getD j 0 := ⟨_, rfl⟩
    obtain ⟨y, hy⟩ : ∃ y, y = (Sh.crdAll ns i (js.map Fin.val)).1.getD j 0 := ⟨_, rfl⟩
    rw [← hq] at cI e2
    have hjl : j < (Sh.crdAll ns i (js.map Fin.val)).1.length := by rw [e1]; exact hjn
    have hc' : W.cell? ⟨w.heap.size + 1, j, none⟩ = some (.int .i64 (y : Int)) := by rw [hc, hy, List.getElem?_map, Sh.ints, List.getElem?_map, List.getD_eq_getElem?_getD, List.getElem?_eq_getElem hjl]; rfl
    obtain ⟨r, hr1⟩ : ∃ r, r = q % d := ⟨_, rfl⟩
    obtain ⟨s, hs1⟩ : ∃ s, s = q / d := ⟨_, rfl⟩
    have g1 : (q : Int) % (d : Int) = (r : Int) := by rw [hr1]; exact cast_mod q d
    have g2 : (q : Int) / (d : Int) = (s : Int) := by rw [hs1]; exact cast_div q d
    have g3 : 1 ≤ d := by rw [hd]; exact HK.out.pos_at hjn
    have g4 : d ≤ 4096 := by rw [hd]; exact HK.out.le_at hjn
    have g5 : (d : Int) ≠ 0 := by omega
    have g6 : s ≤ q := by rw [hs1]; exact Nat.div_le_self _ _
    have hwl : w.heap.size < W.heap.size := hb1.lt
    have hgl : w.heap.size + 1 < W.heap.size := (hr.lt _ rfl).2
    have hBl : w.heap.size + 1 + 1 < W.heap.size := hb2.lt
    have hdv : (Sh.ints ns)[j] = (d : Int) := by simp [Sh.ints, hd, hjn]
    have HST := Lib.hid (fun n1 => hJ.step (by omega) (by omega) hj hq hd hr1 hs1 n1)
    show Code.wpIn _ _ _ _ _ _ W
    simp only [hdv]
    clear hc hq hd hy hr1 hs1 hb1 hb2 hr hb hlj hI hI3 hX3 bS cS hlt3 hJ hdv e1
    have hmx : Tryd.prog.follows .mixedOrders = true := by kernel_rfl
    gi_wp2
    refine regionIn_quiet_tail 6 hmx (by kernel_rfl) (by kernel_rfl) (fun ⟨_, _, h⟩ => h) ?_
    simp only [List.take_succ_cons, List.take_zero, List.drop_succ_cons, List.drop_zero]
    repeat (first | go_big_quiet_step (fail) | quiet_step (fail))
    refine wpQuiet_nil ?_
    rintro w' ⟨nq, rfl⟩
    go_wp2
    gi_wp2
    have hs2 := HS2.out
    refine ⟨?_, ⟨?_, ?_⟩, HST.out _⟩
    · exact (((keeps_draws W nq).trans (KeepsOthers.setCell _ _ _)).trans (KeepsOthers.setCell _ _ _)).from _
    · exact ((draws_below w.heap.size W nq).setCell (p := ⟨w.heap.size + 1, j, none⟩) (by show _ ≤ w.heap.size + 1; omega) _).setCell (p := ⟨w.heap.size, 0, none⟩) (Nat.le_refl _) _
    · exact (Below.heap_setCell _ _ _ _ (by show W2.heap.size ≠ w.heap.size; omega)).trans (Below.heap_setCell (W.drewN nq) _ _ _ (by show W2.heap.size ≠ w.heap.size + 1; omega))
  case done =>
    rintro D ys W hD rfl hJ hK
    have cU := hJ.2.1.cell
    have hR : RetL (Sh.ints (Sh.crd ns i)) 0 w (.returned (.tuple #[.slice (some ⟨w.heap.size + 1, 0, none⟩) ns.length ns.length, .int .i64 0])) (W.putObj D (.deferred none)) := by
      refine ⟨_, rfl, ?_, hJ.2.2.2.trans (belowK_b (w := w) (Nat.le_refl _) W D _ _ (by have := hI3.2.2.2.size; omega) hK rfl rfl)⟩
      have := ownsRow_putObj hJ.2.2.1 (.deferred none) hK rfl
      rw [Sh.crdAll_done ns i _ (Sh.ints_len ns)] at this
      unfold Owns
      rw [Sh.ints_len, Sh.crd_len]
      exact this
    gi_wp2
    refine ⟨by simp, .inl ⟨_, _, rfl, run_takeDeferred hK, ?_⟩⟩
    exact ⟨_, results_tmp2 (t := 4) (u := 5) rfl _ _ _, hR⟩
  case stop =>
    rintro D c pre W _ _ h _
    exact h.elim

end Go.Proofs.YtmeeldhejbdgjaaDoor
