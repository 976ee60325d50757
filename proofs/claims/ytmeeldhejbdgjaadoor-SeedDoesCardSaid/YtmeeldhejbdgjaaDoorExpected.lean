/-
  What seed.expected comes to: what a seed makes of the transform (a range over slices.Backward of axes).
-/
import Derived.Test.YtmeeldhejbdgjaaDoorBackA
import Derived.Test.YtmeeldhejbdgjaaDoorReads
import Derived.Test.YtmeeldhejbdgjaaDoorFolded
import Derived.Test.YtmeeldhejbdgjaaDoorWeights
import Derived.Test.YtmeeldhejbdgjaaDoorShapes
import Derived.RangeFuncNested
import Derived.Great.BuildSlice
namespace Go.Proofs.YtmeeldhejbdgjaaDoor
open Go.RowKit Go.Shelf

attribute [local go_sem] Oper.semAt_some

theorem reads_stays {k : IntKind} {W W' : World} {row : Option Nat} {x : Option Addr} {xs : List Int} (h : Reads k W W.heap.size x xs) (hg : W.grownBy W' row) (hr : ∀ r, row = some r → ∃ o : Obj, W.heap[r]? = some o ∧ o.isCells = false) : Reads k W' W'.heap.size x xs := fun hn => by
  obtain ⟨b, off, rfl, hb, hc⟩ := h hn
  refine ⟨b, off, rfl, Nat.lt_of_lt_of_le hb hg.size, fun j hj => ?_⟩
  have hne : some b ≠ row := fun e => by
    obtain ⟨o, ho, hoc⟩ := hr b e.symm
    have := hc j hj
    cases o with
    | cells cs t fr => cases hoc
    | _ => simp [World.cell?, ho] at this
  exact (World.cell?_of_block (a := ⟨b, off + j, none⟩) (hg.block b hb hne)).trans (hc j hj)

/-- Between two rounds, the axes js having come: all that was there is, but the box of the words; and in it the words, folded. -/
structure ExInv (p : Int) (xa : List Ax) (inv : Bool) (xs : List Int) (r : Int) (w W3 : World) (Bx : Nat) (js : List (Fin xa.length)) (W : World) : Prop where
  same : ∀ k, k < W3.heap.size → k ≠ Bx → W.heap[k]? = W3.heap[k]?
  size : W3.heap.size ≤ W.heap.size
  below : Below w.heap.size w W
  box : ∃ x' c', Boxed W Bx 24 (.slice x' (dnJ p xa inv xs r js).length c') ∧ (dnJ p xa inv xs r js).length ≤ c' ∧ Reads .u64 W W.heap.size x' (dnJ p xa inv xs r js)

theorem ExInv.own {p : Int} {xa : List Ax} {inv : Bool} {xs : List Int} {r : Int} {w W3 : World} {Bx : Nat} (hw : w.heap.size ≤ W3.heap.size) : OwnFrom W3.heap.size (ExInv p xa inv xs r w W3 Bx) := by
  rintro js W W' row ⟨h1, h2, h3, x', c', h4, h5, h6⟩ hg hr
  have hr' : ∀ r, row = some r → ∃ o : Obj, W.heap[r]? = some o ∧ o.isCells = false := fun r e => (hr r e).2
  exact ⟨fun k hk hne => (hg.block k (by omega) (fun e => by have := (hr k e.symm).1; omega)).trans (h1 k hk hne), Nat.le_trans h2 hg.size, h3.grown hg h3.size (fun k e => Nat.le_trans hw (hr k e).1), x', c', boxed_stays h4 hg hr', h5, reads_stays h6 hg hr'⟩

/-- The box of the words gets a new list, in memory of its own. -/
theorem ExInv.step {p : Int} {xa : List Ax} {inv : Bool} {xs : List Int} {r : Int} {w W3 : World} {Bx Bs : Nat} {js : List (Fin xa.length)} {W w6 : World} (hI : ExInv p xa inv xs r w W3 Bx js W) (hb : Below W.heap.size W w6) {u : Value} (hu : Boxed W Bx 24 u)
    (hx : Bx < W3.heap.size) (hwx : w.heap.size ≤ Bx) (hs : Bs < W3.heap.size) (hsx : Bs ≠ Bx) (j : Fin xa.length) {x6 : Option Addr} {c6 : Nat} (hc6 : (dnJ p xa inv xs r (js ++ [j])).length ≤ c6) (hr6 : Reads .u64 w6 w6.heap.size x6 (dnJ p xa inv xs r (js ++ [j])))
    (hg6 : 0 < (dnJ p xa inv xs r (js ++ [j])).length → ∃ g, x6 = some ⟨g, 0, none⟩ ∧ W.heap.size ≤ g ∧ g < w6.heap.size) :
    KeepsFrom W3.heap.size W (w6.setCell ⟨Bx, 0, none⟩ (.slice x6 (dnJ p xa inv xs r (js ++ [j])).length c6)) ∧ KeepsBox w.heap.size Bs W (w6.setCell ⟨Bx, 0, none⟩ (.slice x6 (dnJ p xa inv xs r (js ++ [j])).length c6)) ∧
      ExInv p xa inv xs r w W3 Bx (js ++ [j]) (w6.setCell ⟨Bx, 0, none⟩ (.slice x6 (dnJ p xa inv xs r (js ++ [j])).length c6)) := by
  obtain ⟨v, hv⟩ : ∃ v, v = Value.slice x6 (dnJ p xa inv xs r (js ++ [j])).length c6 := ⟨_, rfl⟩
  have hsz := hI.size
  have hset : ∀ k, k ≠ Bx → (w6.setCell ⟨Bx, 0, none⟩ v).heap[k]? = w6.heap[k]? := fun k hk => Below.heap_setCell w6 _ _ k hk
  have hbw : Below w.heap.size W w6 := hb.mono hI.below.size
  have hb6 : Boxed w6 Bx 24 u := (hb.block _ hu.lt).trans hu
  have hss : (w6.setCell ⟨Bx, 0, none⟩ v).heap.size = w6.heap.size := by simp
  rw [← hv]
  refine ⟨⟨by rw [hss]; exact hb.size, fun k o hk ho _ => ?_⟩, ⟨hbw.setCell (p := ⟨Bx, 0, none⟩) hwx _, (hset _ hsx).trans (hb.block _ (by omega))⟩, fun k hk hne => (hset _ hne).trans ((hb.block _ (by omega)).trans (hI.same k hk hne)), by rw [hss]; exact Nat.le_trans hsz hb.size, (hI.below.trans hbw).setCell (p := ⟨Bx, 0, none⟩) hwx _, x6, c6, by rw [← hv]; exact hb6.set _, hc6, fun hn => ?_⟩
  · rw [hset _ (by omega), hb.block k (Array.getElem?_eq_some_iff.1 ho).1]; exact ho
  · obtain ⟨g, rfl, hg1, hg2⟩ := hg6 hn
    obtain ⟨b, off, e, hb', hc⟩ := hr6 hn
    cases e
    refine ⟨g, 0, rfl, by rw [hss]; exact hg2, fun q hq => ?_⟩
    exact (World.cell?_of_block (a := ⟨g, 0 + q, none⟩) (hset g (by omega))).trans (hc q hq)

theorem wp_store_box {P : Program} {o : Oper} {a : Act} {w : World} {K : Act → World → Prop} {Q : Exit → Act → World → Prop} (ty : TypeId) (x y : Operand) (ho : o.op = .store ty x y) (hd : o.dst = none) {B : Nat} {t : TypeId} {old v : Value}
    (hx : a.eval x = .pointer (some ⟨B, 0, none⟩)) (hy : a.eval y = v) (h1 : v.oneCell' = true) (hb : Boxed w B t old) (hi : (P.info? ty).map (·.size) = some 1) (h : K a (w.setCell ⟨B, 0, none⟩ v)) : o.wp P a w K Q := by
  have e : w.setRow B #[v] = w.setCell ⟨B, 0, none⟩ v := (setCell_eq_setRow w B 0 #[old] t (0, 0) v hb).symm
  unfold Oper.wp execOp
  simp only [ho, hx, hy, Instr.storeAt, Instr.sureAddr, Sem.run_bind, Sem.run_pure, Result.andThen_ok, run_storeVar_one w B t ty old v hb hi h1, e]
  simp only [Oper.upon, hd]
  exact h

/-- A round's frame: the axis that has come, in a box. -/
def AxAt (xa : List Ax) (a1 : Fin xa.length → Nat → Act) (j : Fin xa.length) (a' : Act) (W : World) : Prop := ∃ Ba, a' = a1 j Ba ∧ W.heap[Ba]? = some (.cells #[.int .i64 (xa.getD j.1 noAx).n, .bool (xa.getD j.1 noAx).neg] 26)

set_option maxRecDepth 100000 in
set_option maxHeartbeats 4000000 in
theorem expected_any (p : Int) (x : Option Addr) (n cap : Nat) (xa : List Ax) (inv : Bool) (y : Option Addr) (m cap' : Nat) (xs : List Int) (r : Int) (w : World) (hG : Gl w) (hx : ReadsA w w.heap.size x xa) (hn : xa.length = n) (hy : Reads .u64 w w.heap.size y xs) (hm : xs.length = m) (hw : Words xs) (hc : m ≤ cap')
    (h : Grid p xa xs) (r0 : 0 ≤ r) (r1 : r < 18446744073709551616) :
    Calls Tryd.prog 35 #[.int .u64 p, .slice x n cap, .bool inv, .slice y m cap', .int .u64 r] w (RetB (.int .u64 (Fp.ev p (doTo p xa inv xs xa.length) r)) w) := by
  subst hn hm
  have h4 : xa.length ≤ 4 := by have := h.ax.ok.four; rwa [szs_len] at this
  obtain ⟨W0, hW0⟩ : ∃ W0, W0 = (((w.alloc (.cells #[.int .u64 p] 22)).alloc (.cells #[.bool inv] 4)).alloc (.cells #[.slice y xs.length cap'] 24)).alloc (.cells #[.int .u64 r] 22) := ⟨_, rfl⟩
  have hB0 : Below w.heap.size w W0 := by rw [hW0]; exact below_al (below_al (below_al (below_al (Below.refl _ _) _) _) _) _
  have HD := Lib.hid (dims_any x xa.length cap xa W0 ((hx.below hB0).more hB0.size) rfl (by omega))
  rw [hW0] at HD
  have H := Lib.hid h
  have HX := Lib.hid hx
  have HY := Lib.hid hy
  have HW := Lib.hid hw
  have HG := Lib.hid hG
  have HDL := Lib.hid (dims_len xa)
  have hDL := dims_len xa
  clear h hx hy hw hG hB0 hW0 W0
  refine (callsIn_wide (n := 3)).1 ?_
  refine callsIn_of_wp_marks Tryd.func35 rfl trivial ?_ rfl
  simp only [Tryd.ntmps35, List.size_toArray, List.length_cons, List.length_nil, Nat.reduceAdd, Nat.reduceSub, Array.replicate_succ, Array.replicate_zero, List.push_toArray, List.append_toArray, List.nil_append, List.cons_append]
  gi_wp2
  refine ⟨trivial, (callsIn_wide.2 HD.out).mono ?_⟩
  rintro e w1 ⟨v, rfl, hO, b1⟩
  obtain ⟨yd, cd, rfl, hcd, -, hr, hgd⟩ := hO.form
  rw [HDL.out] at hcd
  rw [HDL.out]
  gi_wp2
  refine ⟨trivial, (callsIn_wide.2 (backwardA_any _ _ _ _)).mono ?_⟩
  rintro e W3 ⟨rfl, rfl⟩
  have hd1 : 1 ≤ xa.length := by have := H.out.ax.ok.one; rwa [szs_len] at this
  obtain ⟨gd, rfl, hgd1, hgd2⟩ := hgd (by rw [HDL.out]; exact hd1)
  obtain ⟨W0, hW0⟩ : ∃ W0, W0 = (((w.alloc (.cells #[.int .u64 p] 22)).alloc (.cells #[.bool inv] 4)).alloc (.cells #[.slice y xs.length cap'] 24)).alloc (.cells #[.int .u64 r] 22) := ⟨_, rfl⟩
  rw [← hW0] at b1 hgd1
  have s0 : W0.heap.size = w.heap.size + 1 + 1 + 1 + 1 := by rw [hW0, World.size_alloc, World.size_alloc, World.size_alloc, World.size_alloc]
  have hB0 : Below w.heap.size w W0 := by rw [hW0]; exact below_al (below_al (below_al (below_al (Below.refl _ _) _) _) _) _
  obtain ⟨Bd, hBd⟩ : ∃ Bd, Bd = w1.heap.size := ⟨_, rfl⟩
  obtain ⟨W3, hW3⟩ : ∃ W3, W3 = (w1.alloc (.cells #[.slice (some ⟨gd, 0, none⟩) xa.length cd] 44)).alloc (.cells #[.slice x xa.length cap] 23) := ⟨_, rfl⟩
  have s3 : W3.heap.size = Bd + 1 + 1 := by rw [hW3, World.size_alloc, World.size_alloc, hBd]
  have l1 : w.heap.size + 1 + 1 + 1 < Bd := by have := b1.size; omega
  have bb : Below W0.heap.size W0 W3 := by rw [hW3]; exact below_al (below_al b1 _) _
  have t1 : Boxed W0 w.heap.size 22 (.int .u64 p) := by rw [hW0]; exact (((Boxed.new _ _ _).alloc _).alloc _).alloc _
  have t2 : Boxed W0 (w.heap.size + 1) 4 (.bool inv) := by
    have := Boxed.new (w.alloc (.cells #[.int .u64 p] 22)) 4 (.bool inv)
    rw [World.size_alloc] at this
    rw [hW0]; exact (this.alloc _).alloc _
  have t3 : Boxed W0 (w.heap.size + 1 + 1) 24 (.slice y xs.length cap') := by
    have := Boxed.new ((w.alloc (.cells #[.int .u64 p] 22)).alloc (.cells #[.bool inv] 4)) 24 (.slice y xs.length cap')
    rw [World.size_alloc, World.size_alloc] at this
    rw [hW0]; exact this.alloc _
  have t4 : Boxed W0 (w.heap.size + 1 + 1 + 1) 22 (.int .u64 r) := by
    have := Boxed.new (((w.alloc (.cells #[.int .u64 p] 22)).alloc (.cells #[.bool inv] 4)).alloc (.cells #[.slice y xs.length cap'] 24)) 22 (.int .u64 r)
    rw [World.size_alloc, World.size_alloc, World.size_alloc] at this
    rw [hW0]; exact this
  have B1 : Boxed W3 w.heap.size 22 (.int .u64 p) := (bb.block _ (by omega)).trans t1
  have B2 : Boxed W3 (w.heap.size + 1) 4 (.bool inv) := (bb.block _ (by omega)).trans t2
  have B3 : Boxed W3 (w.heap.size + 1 + 1) 24 (.slice y xs.length cap') := (bb.block _ (by omega)).trans t3
  have B4 : Boxed W3 (w.heap.size + 1 + 1 + 1) 22 (.int .u64 r) := (bb.block _ (by omega)).trans t4
  have B5 : Boxed W3 Bd 44 (.slice (some ⟨gd, 0, none⟩) xa.length cd) := by rw [hW3, hBd]; exact (Boxed.new _ _ _).alloc _
  have B6 : Boxed W3 (Bd + 1) 23 (.slice x xa.length cap) := by
    have := Boxed.new (w1.alloc (.cells #[.slice (some ⟨gd, 0, none⟩) xa.length cd] 44)) 23 (.slice x xa.length cap)
    rw [World.size_alloc, ← hBd] at this
    rw [hW3]; exact this
  have hb3 : Below w.heap.size w W3 := below_then hB0 bb
  have hgd3 : gd < Bd := by omega
  have HRD : Hid (∀ j, j < xa.length → W3.cell? ⟨gd, j, none⟩ = some (.int .i64 ((dims xa).getD j 0))) := Lib.hid (fun j hj => by
    have := hO.cell j (by rw [HDL.out]; exact hj)
    rw [hW3]
    exact ((below_al (below_al (Below.refl w1.heap.size w1) _) _).cell (p := ⟨gd, j, none⟩) hgd2).trans this)
  have hgx : gd ≠ w.heap.size + 1 + 1 := by omega
  have hI3 : ExInv p xa inv xs r w W3 (w.heap.size + 1 + 1) [] W3 := ⟨fun _ _ _ => rfl, Nat.le_refl _, hb3, y, cap', B3, hc, (HY.out.below hb3).more hb3.size⟩
  have HX3 := Lib.hid (HX.out.below hb3)
  rw [World.size_alloc, ← hW3, ← hBd]
  have hw3 : w.heap.size ≤ W3.heap.size := hb3.size
  clear hO b1 hr hgd hW0 hW3 bb t1 t2 t3 t4 hB0 hBd hgd2 hgd1 s0 HD
  have hmx : Tryd.prog.follows .mixedOrders = true := by kernel_rfl
  gi_wp2
  refine wpIn_rangeFunc_ownH rfl (by omega) (gf := 80) (lb := #[.pointer (some ⟨Bd + 1, 0, none⟩)]) rfl trivial (enters_of Tryd.func80 (by kernel_rfl) rfl)
    (backA_stops 2 (by omega) (Bd + 1) w.heap.size x cap xa (by omega) W3 B6.lt hw3 B6.cell HX3.out) KeepsBox.trans (keepsBox_b hw3 B6.lt) (Below.refl _ _) (fun _ => rfl)
    (ExInv p xa inv xs r w W3 (w.heap.size + 1 + 1)) (fun _ _ _ => False) (ExInv.own hw3) (fun _ _ _ _ _ hs _ _ => hs) hI3
    (AxAt xa ?a1) ?own ?assign ?body ?done ?stop
  case own =>
    rintro j a' _ W W' row ⟨Ba, e, hBa⟩ hg hr
    refine ⟨Ba, e, (hg.block Ba (Array.getElem?_eq_some_iff.1 hBa).1 (fun e' => ?_)).trans hBa⟩
    obtain ⟨o, ho, hoc⟩ := (hr Ba e'.symm).2
    rw [hBa] at ho
    cases ho
    cases hoc
  case assign =>
    intro l pre j W K' hI hK'
    obtain ⟨Ba, hBa⟩ : ∃ Ba, Ba = W.heap.size := ⟨_, rfl⟩
    have HN := Lib.hid (hK' _ (W.alloc (.cells #[.int .i64 (xa.getD j.1 noAx).n, .bool (xa.getD j.1 noAx).neg] 26)) ((KeepsOthers.alloc W _).from _) ⟨below_al (Below.refl _ W) _ |>.mono hI.below.size, heap_alloc_old W _ (by have := hI.size; omega)⟩ ((ExInv.own hw3).alloc _ hI) ⟨Ba, rfl, by rw [hBa]; exact heap_alloc_new _ _⟩)
    clear hK'
    gi_wp2
    rw [← hBa]
    have he : xa[j.1] = xa.getD j.1 noAx := by simp
    simp only [he]
    exact HN.out
  case body =>
    rintro l js ⟨j, hj⟩ a' W hlW hloop hI ⟨Ba, rfl, hBa⟩ hlj
    have hA := H.out.ax
    have hL := hA.int hj
    have l2 := hA.L hj
    have l3 := hA.L_le hj
    have hdv := hA.dvd' hj
    obtain ⟨x', c', bX, hc', hR⟩ := hI.box
    have e1 : Boxed W w.heap.size 22 (.int .u64 p) := (hI.same _ (by omega) (by omega)).trans B1
    have e2 : Boxed W (w.heap.size + 1) 4 (.bool inv) := (hI.same _ (by omega) (by omega)).trans B2
    have e4 : Boxed W (w.heap.size + 1 + 1 + 1) 22 (.int .u64 r) := (hI.same _ (by omega) (by omega)).trans B4
    have e5 : Boxed W Bd 44 (.slice (some ⟨gd, 0, none⟩) xa.length cd) := (hI.same _ (by omega) (by omega)).trans B5
    have RD : Reads .i64 W W.heap.size (some ⟨gd, 0, none⟩) (Sh.ints (szs xa)) := fun _ => ⟨gd, 0, rfl, by have := hI.size; omega, fun q hq => by
      rw [Nat.zero_add, ← hA.is]
      exact (World.cell?_of_block (a := ⟨gd, q, none⟩) (hI.same gd (by omega) hgx)).trans (HRD.out q (by rw [Sh.ints_len, szs_len] at hq; exact hq))⟩
    have HIn := Lib.hid (inner_ok (szs xa) hA.ok j (by rw [szs_len]; exact hj) (some ⟨gd, 0, none⟩) xa.length cd W W.heap.size RD (szs_len xa) hcd)
    have c1 := e1.cell
    have c2 := e2.cell
    have c4 := e4.cell
    have c5 := e5.cell
    have cX := bX.cell
    have fX := bX.frozen
    show Code.wpIn _ _ _ _ _ _ W
    dsimp only at hBa ⊢
    rw [hL] at hBa ⊢
    have hI1 : gI xa j ≤ 4096 := hA.ok.le_drop _
    obtain ⟨I, hI'⟩ : ∃ I, I = gI xa j := ⟨_, rfl⟩
    rw [show Sh.prod ((szs xa).drop (j + 1)) = I from hI'.symm] at HIn
    rw [← hI'] at hI1
    have a0 : W.cell? ⟨Ba, 0, none⟩ = some (.int .i64 (gL xa j : Int)) := by rw [cell_of_row W Ba 0 _ _ _ hBa]; rfl
    have a1 : W.cell? ⟨Ba, 1, none⟩ = some (.bool (gN xa j)) := by rw [cell_of_row W Ba 1 _ _ _ hBa]; rfl
    obtain ⟨X, hX⟩ : ∃ X, X = dnJ p xa inv xs r js := ⟨_, rfl⟩
    rw [← hX] at bX hc' hR cX
    obtain ⟨d1, d2⟩ := hA.dnJ_len inv r (xs := xs) H.out.le.1 js
    have d3 := H.out.le.2
    rw [← hX] at d1 d2
    have HWX : Hid (Words X) := Lib.hid (by rw [hX]; exact dnJ_words p xa inv HW.out r js)
    obtain ⟨neg, hneg⟩ : ∃ neg, neg = gN xa j := ⟨_, rfl⟩
    rw [show (xa.getD j noAx).neg = neg from hneg.symm] at hBa ⊢
    rw [← hneg] at a1 hdv
    obtain ⟨L, hLL⟩ : ∃ L, L = gL xa j := ⟨_, rfl⟩
    rw [← hLL] at hBa a0 l2 l3 hdv ⊢
    have HS : Hid (fdL p X (wts p neg inv L (Fp.pw p r I)) = dnJ p xa inv xs r (js ++ [⟨j, hj⟩])) := Lib.hid (by rw [dnJ_snoc, hX, hneg, hLL, hI']; rfl)
    have HII := Lib.hid hI
    have HBX := Lib.hid bX
    have HRR := Lib.hid hR
    have HGW := Lib.hid (HG.out.then hI.below)
    have HK := Lib.hid hA.kn
    have hdv' := Lib.hid hdv
    clear e1 e2 e4 e5 RD hI bX hR hBa hX hneg hLL hI' hA hL hdv
    gi_wp2
    refine ⟨trivial, (CallsIn.inRound _ (callsIn_wide.2 HIn.out)).mono ?_⟩
    rintro e w' ⟨rfl, rfl⟩
    gi_wp2
    have s1 := fun s : Since W => s.cell c1
    have s2 := fun s : Since W => s.cell c2
    have s4 := fun s : Since W => s.cell c4
    have sX := fun s : Since W => s.cell cX
    have sA := fun s : Since W => s.cell a0
    have sB := fun s : Since W => s.cell a1
    refine regionIn_reads (C := fun w' => ∃ s : Since W, w' = s.out) 9 hmx (by kernel_rfl) (by kernel_rfl) ⟨⟨W.drew, draws_below _ W 1⟩, rfl⟩ ?_
    simp only [List.take_succ_cons, List.take_zero]
    repeat (go_big_quiet_step (skip))
    refine wpQuiet_nil ?_
    show tailC _ _ _ _ 12 [9, 10, 11, 12] _ _
    clear s1 s2 s4 sX sA sB c1 c2 c4 c5 cX fX a0 a1
    refine tail_call (f := 23) (args := #[.int .u64 p, .int .u64 r, .int .u64 (I : Int)]) rfl rfl (by kernel_rfl) ?_
    refine (pow_any p r (I : Int) _ r0 r1 (by omega) (by omega)).mono ?_
    rintro e w4 ⟨rfl, nd, rfl⟩
    rw [Int.toNat_natCast]
    have hb4 : Below W.heap.size W (W.drew.drewN nd) := below_draws (draws_below _ W 1) nd
    refine ⟨_, rfl, fun _ => ⟨⟨_, hb4⟩, rfl⟩, ?_⟩
    obtain ⟨z0, z1, -⟩ := Fp.pw_bd p r I
    refine tail_call (f := 60) (args := #[.int .u64 p, .agg #[.int .i64 (L : Int), .bool neg], .bool inv, .int .u64 (Fp.pw p r I)]) rfl rfl (by kernel_rfl) ?_
    refine (weights_any p L neg inv (Fp.pw p r I) _ (HGW.out.then hb4) HK.out l2 l3 hdv'.out z0 (by omega)).mono ?_
    rintro e w5 ⟨v5, rfl, hO5, hb5⟩
    obtain ⟨x5, c5, rfl, hc5, -, hr5, -⟩ := hO5.form
    rw [wts_len] at hc5 ⊢
    have hb5' : Below W.heap.size W w5 := below_then hb4 hb5
    refine ⟨_, rfl, fun _ => ⟨⟨_, hb5'⟩, rfl⟩, ?_⟩
    refine tail_call (f := 59) (args := #[.int .u64 p, .slice x' X.length c', .slice x5 L c5]) rfl rfl (by kernel_rfl) ?_
    refine (folded_any p x' X.length c' X x5 L c5 (wts p neg inv L (Fp.pw p r I)) w5 HK.out ((HRR.out.below hb5').more hb5'.size) rfl HWX.out hc' hr5 (wts_len _ _ _ _ _) (wts_words _ _ _ _ _) d1 l2 (by omega) (by omega)).mono ?_
    rintro e w6 ⟨v6, rfl, hO6, hb6⟩
    rw [HS.out] at hO6
    obtain ⟨x6, c6, rfl, hc6, -, hr6, hg6⟩ := hO6.form
    have hb6' : Below W.heap.size W w6 := below_then hb5' hb6
    refine ⟨_, rfl, fun _ => ⟨⟨_, hb6'⟩, rfl⟩, ?_⟩
    refine tail_last rfl rfl ?_
    have b6 : Boxed w6 (w.heap.size + 1 + 1) 24 (.slice x' X.length c') := (hb6'.block _ HBX.out.lt).trans HBX.out
    refine wp_store_box (v := .slice x6 (dnJ p xa inv xs r (js ++ [⟨j, hj⟩])).length c6) 24 (.tmp 8) (.tmp 39) rfl rfl (by kernel_rfl) (by kernel_rfl) rfl b6 (by kernel_rfl) ⟨rfl, ?_⟩
    exact ExInv.step HII.out hb6' HBX.out B3.lt (by omega) B6.lt (by omega) ⟨j, hj⟩ hc6 hr6 (fun hn => by
      obtain ⟨g, e, hg1, hg2⟩ := hg6 hn
      exact ⟨g, e, Nat.le_trans hb5'.size hg1, hg2⟩)
  case done =>
    rintro D ys W hD rfl hJ hK
    have hE : dnJ p xa inv xs r (downTo xa.length xa.length) = [Fp.ev p (doTo p xa inv xs xa.length) r] := by
      have : ∀ t, t ≤ xa.length → dnJ p xa inv xs r (downTo xa.length t) = dn p xa inv xs r t := by
        intro t
        induction t with
        | zero => intro _; rw [downTo_zero]; rfl
        | succ t ih => intro ht; rw [downTo_succ _ _ (by omega), dnJ_snoc, ih (by omega)]; rfl
      rw [this _ (Nat.le_refl _)]
      exact H.out.expect r
    obtain ⟨x', c', bX, hc', hR⟩ := hJ.box
    rw [hE] at bX hc' hR
    obtain ⟨b', off', rfl, hb', hcc⟩ := hR (by simp)
    have cX := bX.cell
    have c0 := hcc 0 (by simp)
    obtain ⟨e0, he0⟩ : ∃ e0, e0 = Fp.ev p (doTo p xa inv xs xa.length) r := ⟨_, rfl⟩
    rw [← he0] at cX c0
    simp only [Nat.add_zero, List.getD_cons_zero, List.length_cons, List.length_nil, Nat.zero_add] at cX c0
    have hR : RetB (.int .u64 (Fp.ev p (doTo p xa inv xs xa.length) r)) w (.returned (.int .u64 e0)) (W.putObj D (.deferred none)) :=
      ⟨by rw [he0], hJ.below.trans (belowK_b (w := w) (Nat.le_refl _) W D _ _ (by omega) hK rfl rfl)⟩
    clear bX hc' hcc he0
    gi_wp2
    refine ⟨by simp, .inl ⟨_, _, rfl, run_takeDeferred hK, ?_⟩⟩
    exact ⟨_, results_tmp (t := 10) rfl _ _ _, hR⟩
  case stop =>
    rintro D c pre W _ _ h _
    exact h.elim

end Go.Proofs.YtmeeldhejbdgjaaDoor
