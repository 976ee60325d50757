/-
  What plan.Item comes to; all of plan in one word.
-/
import Derived.Test.YtlbfllaaabginaaDoorPlanCheck
import Derived.Laws.CopyOwn
import Derived.WideShapes
namespace Go.Proofs.YtlbfllaaabginaaDoor
open Go.RowKit Go.Shelf

/-- A row out of its block. -/
theorem owns_block {k : IntKind} {e : TypeId} {w : World} {base g : Nat} {xs : List Int} (hb : base ≤ g) (h : w.heap[g]? = some (.cells (xs.map (Value.int k)).toArray e (0, 0))) (hl : xs.length ≤ maxLen) :
    Owns k e w base (.slice (some ⟨g, 0, none⟩) xs.length xs.length) xs :=
  ⟨by simp, .inr ⟨g, xs.length, (xs.map (Value.int k)).toArray, rfl, hb, h, Nat.le_refl _, hl, by simp, by simp [List.take_of_length_le]⟩⟩
/-- And the block of a row as long as its room. -/
theorem block_owns {e : TypeId} {w : World} {base g n : Nat} {l : List Value} (h : w.ownsRow base e 1 (.slice (some ⟨g, 0, none⟩) n n) n l) : w.heap[g]? = some (.cells l.toArray e (0, 0)) := by
  rcases h.2 with ⟨e1, e2⟩ | ⟨g', cap, cur, e1, e2, e3, e4, e5, e6, e7⟩
  · cases e1
  · simp at e1
    obtain ⟨rfl, rfl⟩ := e1
    rw [e3]
    have : cur = l.toArray := by
      apply Array.ext'
      rw [← e7, Nat.mul_one, List.take_of_length_le (by simp; omega)]
    rw [this]

set_option maxRecDepth 100000 in
set_option maxHeartbeats 4000000 in
theorem item17_ok (q : Rq) (j : Nat) (w : World) (hG : Gl w) (hq : RqIn w w.heap.size q) (hok : Rok q) (hj : (j : Int) < q.b) : Calls Tryd.prog 20 #[rqV q, .int .i64 (j : Int)] w (LineRet w (part q j) 0) := by
  have hB := below_al (Below.refl w.heap.size w) (rqO q 39)
  have HB := Lib.hid hB
  have HRA := Lib.hid (RqAt.new w 39 q)
  have HC := Lib.hid (check17_any q _ (hG.then hB) (hq.then hB))
  rw [hok.zero] at HC
  have HW : Hid (∀ W, Below w.heap.size w W → Calls Tryd.prog 35 #[.slice q.x q.n q.cap] W (RetB (.int .i64 (rqN q : Int)) W)) := Lib.hid (fun W hW => wordsOf17_any (p := q.p) q.x q.n q.cap q.xa W hok.ax ((hq.below hW).more hW.size).ax hq.an hq.al)
  have hN := hok.pos
  have hpi := part_in hok hq.yn hj
  rw [hq.yn] at hpi
  have HPl := Lib.hid (part_len hok hq.yn hj)
  have HPg : Hid (∀ t, t < rqN q → (part q j).getD t 0 = q.xs.getD (j * rqN q + t) 0) := Lib.hid (fun t ht => part_get q j ht)
  obtain ⟨b0, off, hy, hb0, hc⟩ := hq.yr (by rw [hq.yn]; omega)
  have HY := Lib.hid (fun t (ht : t < q.m) => hc t (by rw [hq.yn]; exact ht))
  have hcy := hq.yc
  have hbb := hok.b
  have HO : Hid (∀ W, Calls Tryd.prog 38 #[.int .i64 (j : Int), .int .i64 0, .int .i64 (q.b - 1)] W fun e w' => e = .returned (.bool false) ∧ W = w') := Lib.hid (fun W => by
    have := outside17_any (j : Int) 0 (q.b - 1) W
    rwa [decide_eq_false (by omega : ¬ (j : Int) < 0), decide_eq_false (by omega : ¬ q.b - 1 < (j : Int))] at this)
  generalize rqN q = N at HW hN hpi HPl HPg
  obtain ⟨t, ht⟩ : ∃ t, t = j * N := ⟨_, rfl⟩
  have hz : (j : Int) * (N : Int) = (t : Int) := by rw [ht]; simp
  rw [← ht] at hpi HPg
  have hjb : j ≤ 16 := by omega
  generalize part q j = ps at HPl HPg ⊢
  unfold rqV
  unfold rqO at HB HRA HC
  clear hG hok ht hc hB
  obtain ⟨p, x, n, cap, xa, inv, b, y, m, cy, xs, zo, k, cz, zs, rt, ag⟩ := q
  dsimp only at HB HRA HC HW hpi HPl HPg hy HY hcy hbb HO hj ⊢
  clear hq
  subst hy
  obtain ⟨i0, hi, hz0, hz1, hz2⟩ := info_parts info_u64
  have HZ2 := Lib.hid hz2; clear hz2
  unfold rqV at HC
  dsimp only at HC
  have hne : ¬ cy = t := by omega
  have hmt : t ≤ m := by omega
  have hcm : m ≤ 9223372036854775807 := by have := hcy.2; unfold maxLen at this; omega
  have hcm2 : cy ≤ 9223372036854775807 := by have := hcy.2; unfold maxLen at this; omega
  have hcm3 : m ≤ cy := hcy.1
  clear hcy
  go_enter Tryd.func20, Tryd.ntmps20
  obtain ⟨k0, k1, k2, k3, k4, k5, k6, k7⟩ := HRA.out
  dsimp only at k0 k1 k2 k3 k4 k5 k6 k7
  go_upto_region 7 with (first
    | (go_at_call 23; refine HC.out.mono ?_; rintro e w1 ⟨rfl, b1⟩; have B1 := Lib.hid (below_then HB.out b1); have HRB := HRA.out.then b1; obtain ⟨l0, l1, l2, l3, l4, l5, l6, l7⟩ := HRB; dsimp only at l0 l1 l2 l3 l4 l5 l6 l7; clear b1)
    | (go_at_call 38; refine (HO.out _).mono ?_; rintro e w' ⟨rfl, rfl⟩)
    | (go_at_call 35; refine (HW.out _ B1.out).mono ?_; rintro e w2 ⟨rfl, b2⟩; have B2 := Lib.hid (below_then B1.out b2); have hcy := (b2.cell (p := ⟨w.heap.size, 4, none⟩) (World.block_lt_of_cell? _ _ l4)).trans l4; clear b2 l0 l1 l2 l3 l4 l5 l6 l7)
    | (at_make; refine wpList_make_full _ rfl _ _ 37 rfl w2.heap.size 22 i0 (.int .u64 0) 1 Tryd.underlying37 hi hz0 hz1 .i64 .i64 _ _ N rfl rfl rfl rfl (by rw [HZ2.out]; omega) (by unfold maxLen; omega) (Nat.le_refl _) ?_; intro w3 hown hgrow))
  have hb3 := (Below.refl w2.heap.size w2).grown hgrow (Nat.le_refl _) (fun k e => by cases e)
  have hg3 := block_owns hown
  have hcy3 := (hb3.cell (p := ⟨w.heap.size, 4, none⟩) (World.block_lt_of_cell? _ _ hcy)).trans hcy
  have B3 := Lib.hid (below_then B2.out hb3)
  have HG3 := Lib.hid hg3
  have hcl : ((madeCells (Value.int .u64 0).cells (N * 1)).toList).length = N := by rw [show (Value.int .u64 0).cells = #[.int .u64 0] from rfl, toList_madeCells_one]; simp
  generalize (madeCells (Value.int .u64 0).cells (N * 1)).toList = cur at HG3 hcl
  have HCl := Lib.hid hcl
  have hL : w.heap.size ≤ w2.heap.size := B2.out.size
  have hsz : (Tryd.prog.info? 22).map (·.size) = some 1 := by kernel_rfl
  clear hown hgrow hb3 hg3 hcl hi hz0 hz1 hcy
  have HCp : Hid (∀ i v, (ps.map (Value.int .u64))[i]? = some v → w3.cell? ((⟨b0, off + t, none⟩ : Addr).add i) = some v) := Lib.hid (fun i v hv => by
    have hi' : i < N := by
      rw [← HPl.out]
      rcases Nat.lt_or_ge i ps.length with h | h
      · exact h
      · rw [List.getElem?_eq_none (by simpa using h)] at hv; cases hv
    rw [Go.WideShapes.add_plain, Nat.add_assoc, (B3.out.cell (p := ⟨b0, off + (t + i), none⟩) hb0).trans (HY.out (t + i) (by omega)), ← HPg.out i hi']
    have hps : i < ps.length := by rw [HPl.out]; exact hi'
    simpa [hps] using hv)
  have HOne : Hid (∀ v ∈ ps.map (Value.int .u64), v.oneCell' = true) := Lib.hid (fun v hv => by
    obtain ⟨z, _, rfl⟩ := List.mem_map.1 hv
    rfl)
  have HCn : Hid ((ps.map (Value.int .u64)).length = N) := Lib.hid (by rw [List.length_map, HPl.out])
  generalize hcs : ps.map (Value.int .u64) = cs at HCp HOne HCn
  have HCs := Lib.hid hcs
  clear hcs
  go_wp2_with (refine wpList_copy_splice rfl _ _ _ _ rfl 22 Tryd.underlying37 hsz _ _ _ _ _ _ rfl rfl w2.heap.size 0 cur 22 HG3.out cs (by rw [HCn.out]; show N = min _ _; omega) (fun _ => ⟨rfl, _, rfl, HCp.out⟩) (by rw [HCn.out, HCl.out]; omega) HOne.out w.heap.size w B3.out hL ?_; intro w4 HG4 hb4; have B4 := Lib.hid hb4; clear hb4)
  go_ret2
  have e1 : splice cur 0 cs = ps.map (Value.int .u64) := by
    have h1 := HCl.out
    have h2 := HCn.out
    rw [HCs.out]
    unfold splice
    rw [List.drop_of_length_le (by omega)]
    simp
  have hg4 := HG4.out
  rw [e1] at hg4
  have ho := owns_block (k := .u64) (e := 22) (base := w.heap.size) hL hg4 (by rw [HPl.out]; unfold maxLen; omega)
  rw [HPl.out] at ho
  exact ⟨_, rfl, ho, B4.out⟩

set_option maxHeartbeats 4000000 in
theorem item17_any (q : Rq) (i : Int) (w : World) (hG : Gl w) (hq : RqIn w w.heap.size q) (hi : -9223372036854775808 ≤ i ∧ i < 9223372036854775808) : Calls Tryd.prog 20 #[rqV q, .int .i64 i] w (LineRet w (itL q i) (itE q i)) := by
  by_cases hE : itE q i = 0
  · obtain ⟨hok, h0, h1⟩ := itE_zero hE
    rw [itL_ok hE, hE]
    obtain ⟨j, rfl⟩ := Int.eq_ofNat_of_zero_le h0
    rw [Int.toNat_natCast]
    exact item17_ok q j w hG hq hok h1
  · rw [itL_no hE]
    have hB := below_al (Below.refl w.heap.size w) (rqO q 39)
    have HB := Lib.hid hB
    have HRA := Lib.hid (RqAt.new w 39 q)
    have HC := Lib.hid (check17_any q _ (hG.then hB) (hq.then hB))
    by_cases hC : chkE q = 0
    · have hok := chkE_zero hC
      have hout : i < 0 ∨ q.b ≤ i := Classical.byContradiction fun h => hE (itE_ok hC h)
      rw [itE_arg hC hout]
      rw [hC] at HC
      have hbb := hok.b
      have HO : Hid (∀ W, Calls Tryd.prog 38 #[.int .i64 i, .int .i64 0, .int .i64 (q.b - 1)] W fun e w' => e = .returned (.bool true) ∧ W = w') := Lib.hid (fun W => by
        have := outside17_any i 0 (q.b - 1) W
        have e : (decide (i < 0) || decide (q.b - 1 < i)) = true := by simp; omega
        rwa [e] at this)
      unfold rqV at HC ⊢
      unfold rqO at HB HRA HC
      clear hG hB hE hC hok hq hout
      obtain ⟨p, x, n, cap, xa, inv, b, y, m, cy, xs, zo, k, cz, zs, rt, ag⟩ := q
      dsimp only at HB HRA HC hbb HO ⊢
      go_enter Tryd.func20, Tryd.ntmps20
      obtain ⟨k0, k1, k2, k3, k4, k5, k6, k7⟩ := HRA.out
      dsimp only at k0 k1 k2 k3 k4 k5 k6 k7
      go_wp2_with (first
        | (go_at_call 23; refine HC.out.mono ?_; rintro e w1 ⟨rfl, b1⟩; have B1 := Lib.hid (below_then HB.out b1); have HRB := HRA.out.then b1; obtain ⟨l0, l1, l2, l3, l4, l5, l6, l7⟩ := HRB; dsimp only at l0 l1 l2 l3 l4 l5 l6 l7; clear b1)
        | (go_at_call 38; refine (HO.out _).mono ?_; rintro e w' ⟨rfl, rfl⟩))
      go_ret2
      exact ⟨_, rfl, Owns.nil, B1.out⟩
    · rw [itE_chk hC]
      have t := ne_of_bne hC
      unfold rqV at HC ⊢
      unfold rqO at HB HRA HC
      clear hG hB hE hq
      generalize chkE q = er at HC t ⊢
      clear hC
      obtain ⟨p, x, n, cap, xa, inv, b, y, m, cy, xs, zo, k, cz, zs, rt, ag⟩ := q
      dsimp only at HB HRA HC ⊢
      go_enter Tryd.func20, Tryd.ntmps20
      obtain ⟨k0, k1, k2, k3, k4, k5, k6, k7⟩ := HRA.out
      dsimp only at k0 k1 k2 k3 k4 k5 k6 k7
      go_wp2_with (go_at_call 23; refine HC.out.mono ?_; rintro e w1 ⟨rfl, b1⟩; have B1 := Lib.hid (below_then HB.out b1); clear b1)
      go_ret2
      exact ⟨_, rfl, Owns.nil, B1.out⟩

/-- All of plan in one word. -/
theorem planHas (H : StepHas Gl) : PlanHas Gl where
  keep := fun h hb => h.then hb
  steps := fun p x n cap xa inv w hG hx hn hl => steps17_any p x n cap xa inv w hG hx hn hl
  make := fun p x n cap xa inv w hG hx hn hl => make17_any H p x n cap xa inv w hG hx hn hl
  check := fun q w hG hq => check17_any q w hG hq
  item := fun q i w hG hq hi => item17_any q i w hG hq hi

end Go.Proofs.YtlbfllaaabginaaDoor
