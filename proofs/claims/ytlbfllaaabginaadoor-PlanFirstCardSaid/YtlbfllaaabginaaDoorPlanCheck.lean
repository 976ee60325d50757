/-
  What plan.Check comes to: what may be wrong is looked through in an array of structs with functions in their fields.
-/
import Derived.Test.YtlbfllaaabginaaDoorPlanMake
import Derived.Test.YtlbfllaaabginaaDoorFlys
import Derived.Test.YtlbfllaaabginaaDoorRows2
import Derived.Shelf.Abstract
import Derived.Laws.EntriesVeiled
namespace Go.Proofs.YtlbfllaaabginaaDoor
open Go.RowKit Go.Shelf

/-- What may be wrong with a request, one thing after the other; by which error it is told; which function asks. -/
def bad (q : Rq) (k : Nat) : Bool :=
  if k = 0 then (decide (q.b < 1) || decide (16 < q.b)) else if k = 1 then (decide (q.rt < 0) || decide (8 < q.rt)) else if k = 2 then (decide (q.ag < 0) || decide (8 < q.ag)) else if k = 3 then gridE q.p q.xa != 0
  else if k = 4 then (q.m : Int) != q.b * (rqN q : Int) else if k = 5 then !Fp.isIn q.p (fun j => q.xs.getD j 0) q.xs.length else (decide ((q.k : Int) < 1) || decide (4 < (q.k : Int)))
def tol (q : Rq) (k : Nat) : Int := if k < 3 then 1 else if k = 3 then gridE q.p q.xa else if k = 4 then 6 else if k = 5 then 7 else 8
theorem chkE_all {q : Rq} (h : ∀ k, k < 7 → bad q k = false) : chkE q = 0 := by
  have h0 := h 0 (by omega)
  have h1 := h 1 (by omega)
  have h2 := h 2 (by omega)
  have h3 := h 3 (by omega)
  have h4 := h 4 (by omega)
  have h5 := h 5 (by omega)
  have h6 := h 6 (by omega)
  simp only [bad, if_true, Nat.reduceEqDiff, if_false] at h0 h1 h2 h3 h4 h5 h6
  simp at h0 h1 h2 h3 h4 h6
  have h5 : Fp.isIn q.p (fun j => q.xs.getD j 0) q.xs.length = true := by cases e : Fp.isIn q.p (fun j => q.xs.getD j 0) q.xs.length <;> rw [e] at h5 <;> simp_all
  exact Rok.zero ⟨by omega, by omega, by omega, gridE_zero h3, h4, h5, by omega⟩
theorem chkE_first {q : Rq} {k : Nat} (h : ∀ j, j < k → bad q j = false) (hk : k < 7) (hb : bad q k = true) : chkE q = tol q k := by
  have ha : argB q = (bad q 0 || bad q 1 || bad q 2) := by
    simp only [argB, bad, if_true, Nat.reduceEqDiff, if_false, Nat.succ_ne_zero, Bool.or_assoc]
  have hn : ∀ j, j < k → bad q j = false := h
  unfold chkE
  rcases (show k = 0 ∨ k = 1 ∨ k = 2 ∨ k = 3 ∨ k = 4 ∨ k = 5 ∨ k = 6 by omega) with rfl | rfl | rfl | rfl | rfl | rfl | rfl
  · rw [if_pos (by rw [ha, hb]; rfl)]; rfl
  · rw [if_pos (by rw [ha, hb]; simp)]; rfl
  · rw [if_pos (by rw [ha, hb]; simp)]; rfl
  · rw [if_neg (by rw [ha, hn 0 (by omega), hn 1 (by omega), hn 2 (by omega)]; decide)]
    have : gridE q.p q.xa ≠ 0 := by simpa [bad] using hb
    rw [if_pos this]; rfl
  · rw [if_neg (by rw [ha, hn 0 (by omega), hn 1 (by omega), hn 2 (by omega)]; decide)]
    have h3 : gridE q.p q.xa = 0 := by simpa [bad] using hn 3 (by omega)
    have : (q.m : Int) ≠ q.b * (rqN q : Int) := by simpa [bad] using hb
    rw [if_neg (by simp [h3]), if_pos this]; rfl
  · rw [if_neg (by rw [ha, hn 0 (by omega), hn 1 (by omega), hn 2 (by omega)]; decide)]
    have h3 : gridE q.p q.xa = 0 := by simpa [bad] using hn 3 (by omega)
    have h4 : (q.m : Int) = q.b * (rqN q : Int) := by simpa [bad] using hn 4 (by omega)
    have h5 : Fp.isIn q.p (fun j => q.xs.getD j 0) q.xs.length = false := by
      cases e : Fp.isIn q.p (fun j => q.xs.getD j 0) q.xs.length
      · rfl
      · simp only [bad, Nat.reduceEqDiff, if_false, if_true, e] at hb
        cases hb
    rw [if_neg (by simp [h3]), if_neg (by simp [h4]), if_pos h5]; rfl
  · rw [if_neg (by rw [ha, hn 0 (by omega), hn 1 (by omega), hn 2 (by omega)]; decide)]
    have h3 : gridE q.p q.xa = 0 := by simpa [bad] using hn 3 (by omega)
    have h4 : (q.m : Int) = q.b * (rqN q : Int) := by simpa [bad] using hn 4 (by omega)
    have h5 : Fp.isIn q.p (fun j => q.xs.getD j 0) q.xs.length = true := by
      have := hn 5 (by omega)
      cases e : Fp.isIn q.p (fun j => q.xs.getD j 0) q.xs.length
      · simp only [bad, Nat.reduceEqDiff, if_false, if_true, e] at this
        cases this
      · rfl
    have h6 : q.k < 1 ∨ 4 < q.k := by simp only [bad, Nat.reduceEqDiff, if_false] at hb; simp at hb; omega
    rw [if_neg (by simp [h3]), if_neg (by simp [h4]), if_neg (by rw [h5]; decide), if_pos h6]; rfl

set_option maxHeartbeats 1000000 in
theorem outside17_any (n a b : Int) (w : World) :
    Calls Tryd.prog 38 #[.int .i64 n, .int .i64 a, .int .i64 b] w fun e w' => e = .returned (.bool (decide (n < a) || decide (b < n))) ∧ w = w' := by
  cases h1 : decide (n < a)
  · cases h2 : decide (b < n)
    all_goals
      go_enter Tryd.func38, Tryd.ntmps38
      go_wp2
      go_ret
      exact ⟨rfl, rfl⟩
  · go_enter Tryd.func38, Tryd.ntmps38
    go_wp2
    go_ret
    exact ⟨rfl, rfl⟩

set_option maxHeartbeats 1000000 in
theorem chk1_any (q : Rq) (w : World) : Calls Tryd.prog 39 #[rqV q] w (RetB (.bool (bad q 0)) w) := by
  have HB := Lib.hid (below_al (Below.refl w.heap.size w) (rqO q 39))
  have HO := Lib.hid (fun W => outside17_any q.b 1 16 W)
  have e : bad q 0 = (decide (q.b < 1) || decide (16 < q.b)) := rfl
  rw [e]
  clear e
  unfold rqV
  unfold rqO at HB
  generalize (decide (q.b < 1) || decide (16 < q.b)) = v at HO ⊢
  go_enter Tryd.func39, Tryd.ntmps39
  go_wp2_with (go_at_call 38; refine (HO.out _).mono ?_; rintro e w' ⟨rfl, rfl⟩)
  go_ret
  exact ⟨rfl, HB.out⟩

set_option maxHeartbeats 1000000 in
theorem chk2_any (q : Rq) (w : World) : Calls Tryd.prog 40 #[rqV q] w (RetB (.bool (bad q 1)) w) := by
  have HB := Lib.hid (below_al (Below.refl w.heap.size w) (rqO q 39))
  have HO := Lib.hid (fun W => outside17_any q.rt 0 8 W)
  have e : bad q 1 = (decide (q.rt < 0) || decide (8 < q.rt)) := rfl
  rw [e]
  clear e
  unfold rqV
  unfold rqO at HB
  generalize (decide (q.rt < 0) || decide (8 < q.rt)) = v at HO ⊢
  go_enter Tryd.func40, Tryd.ntmps40
  go_wp2_with (go_at_call 38; refine (HO.out _).mono ?_; rintro e w' ⟨rfl, rfl⟩)
  go_ret
  exact ⟨rfl, HB.out⟩

set_option maxHeartbeats 1000000 in
theorem chk3_any (q : Rq) (w : World) : Calls Tryd.prog 41 #[rqV q] w (RetB (.bool (bad q 2)) w) := by
  have HB := Lib.hid (below_al (Below.refl w.heap.size w) (rqO q 39))
  have HO := Lib.hid (fun W => outside17_any q.ag 0 8 W)
  have e : bad q 2 = (decide (q.ag < 0) || decide (8 < q.ag)) := rfl
  rw [e]
  clear e
  unfold rqV
  unfold rqO at HB
  generalize (decide (q.ag < 0) || decide (8 < q.ag)) = v at HO ⊢
  go_enter Tryd.func41, Tryd.ntmps41
  go_wp2_with (go_at_call 38; refine (HO.out _).mono ?_; rintro e w' ⟨rfl, rfl⟩)
  go_ret
  exact ⟨rfl, HB.out⟩

set_option maxHeartbeats 1000000 in
theorem chk4_any (q : Rq) (g : Nat) (w : World) (hg : w.cell? ⟨g, 0, none⟩ = some (.int .i64 (gridE q.p q.xa))) : Calls Tryd.prog 42 #[rqV q, .pointer (some ⟨g, 0, none⟩)] w (RetB (.bool (bad q 3)) w) := by
  have HB := Lib.hid (below_al (Below.refl w.heap.size w) (rqO q 39))
  have e : bad q 3 = (gridE q.p q.xa != 0) := rfl
  rw [e]
  clear e
  unfold rqV
  unfold rqO at HB
  generalize gridE q.p q.xa = er at hg ⊢
  have hg2 := (HB.out.cell (p := ⟨g, 0, none⟩) (World.block_lt_of_cell? _ _ hg)).trans hg
  cases t : (er != 0)
  all_goals
    go_enter Tryd.func42, Tryd.ntmps42
    go_wp2
    go_ret
    exact ⟨rfl, HB.out⟩

set_option maxRecDepth 100000 in
set_option maxHeartbeats 1000000 in
theorem chk5_any (q : Rq) (w : World) (hq : RqIn w w.heap.size q) (hA : Axes q.p q.xa) (hb : 1 ≤ q.b ∧ q.b ≤ 16) : Calls Tryd.prog 43 #[rqV q] w (RetB (.bool (bad q 4)) w) := by
  have hB := below_al (Below.refl w.heap.size w) (rqO q 39)
  have HB := Lib.hid hB
  have e : bad q 4 = ((q.m : Int) != q.b * (rqN q : Int)) := rfl
  rw [e]
  clear e
  have HW : Hid (∀ W, Below w.heap.size w W → Calls Tryd.prog 35 #[.slice q.x q.n q.cap] W (RetB (.int .i64 (rqN q : Int)) W)) := Lib.hid (fun W hW => wordsOf17_any (p := q.p) q.x q.n q.cap q.xa W hA ((hq.below hW).more hW.size).ax hq.an hq.al)
  have hN : rqN q ≤ 4096 := hA.ok.le
  have hRA := RqAt.new w 39 q
  generalize rqN q = N at HW hN ⊢
  obtain ⟨c, hc⟩ : ∃ c : Nat, q.b = (c : Int) := ⟨q.b.toNat, by omega⟩
  obtain ⟨z, hz0⟩ : ∃ z, z = c * N := ⟨_, rfl⟩
  have hzb : z ≤ 65536 := by
    rw [hz0]
    exact Nat.le_trans (Nat.mul_le_mul_right N (show c ≤ 16 by omega)) (by omega)
  have hz : (c : Int) * (N : Int) = (z : Int) := by rw [hz0]; simp
  clear hz0
  rw [hc] at hb ⊢
  rw [hz]
  unfold rqV
  unfold rqO at HB hRA
  clear hB hA hq hb
  obtain ⟨p, x, n, cap, xa, inv, b, y, m, cy, xs, zo, k, cz, zs, rt, ag⟩ := q
  dsimp only at HB HW hRA hc ⊢
  subst hc
  cases t : ((m : Int) != (z : Int))
  all_goals
    go_enter Tryd.func43, Tryd.ntmps43
    go_upto_region 1 with fail
    obtain ⟨W, hW⟩ : ∃ W, W = w.alloc (.cells #[.int .u64 p, .slice x n cap, .bool inv, .int .i64 (c : Int), .slice y m cy, .slice zo k cz, .int .i64 rt, .int .i64 ag] 39) := ⟨_, rfl⟩
    rw [← hW] at HB hRA ⊢
    clear hW
    have k1 := fun s : Since W => s.at hRA.c1
    have k3 := fun s : Since W => s.at hRA.c3
    have k4 := fun s : Since W => s.at hRA.c4
    dsimp only at k1 k3 k4
    clear hRA
    refine wp_region_since (by kernel_rfl) (by kernel_rfl) ?_
    repeat (go_big_quiet_step ((go_at_call 35; rename_i s; exact since_call s (HW.out _ (below_then HB.out s.below)))))
    refine wpQuiet_nil ?_
    rintro _ ⟨s, rfl⟩
    go_wp2
    go_ret
    exact ⟨rfl, below_then HB.out s.below⟩

set_option maxHeartbeats 1000000 in
theorem chk6_any (q : Rq) (w : World) (hq : RqIn w w.heap.size q) (hm : 1 ≤ q.m) : Calls Tryd.prog 44 #[rqV q] w (RetB (.bool (bad q 5)) w) := by
  have hB := below_al (Below.refl w.heap.size w) (rqO q 39)
  have HB := Lib.hid hB
  have e : bad q 5 = (!Fp.isIn q.p (fun j => q.xs.getD j 0) q.xs.length) := rfl
  rw [e]
  clear e
  obtain ⟨b0, off, hy, hb, hc⟩ := hq.yr (by rw [hq.yn]; omega)
  have hml : (q.m : Int) ≤ 9223372036854775807 := by have := hq.yc; unfold maxLen at this; omega
  have HI : Hid (∀ W, Below w.heap.size w W → Calls Tryd.prog 45 #[.int .u64 q.p, .slice q.y q.m q.cy] W fun e w' => e = .returned (.bool (Fp.isIn q.p (fun j => q.xs.getD j 0) q.xs.length)) ∧ W = w') := Lib.hid (fun W hW => by
    rw [hy, hq.yn]
    exact in_row q.p b0 off q.m q.cy _ W hml (fun j hj => (hW.cell (p := ⟨b0, off + j, none⟩) hb).trans (hc j (by rw [hq.yn]; exact hj))))
  generalize Fp.isIn q.p (fun j => q.xs.getD j 0) q.xs.length = v at HI ⊢
  unfold rqV
  unfold rqO at HB
  clear hB hq hm hc hy hb hml
  obtain ⟨p, x, n, cap, xa, inv, b, y, m, cy, xs, zo, k, cz, zs, rt, ag⟩ := q
  dsimp only at HB HI ⊢
  go_enter Tryd.func44, Tryd.ntmps44
  go_wp2_with (go_at_call 45; refine (HI.out _ HB.out).mono ?_; rintro e w' ⟨rfl, rfl⟩)
  go_ret
  exact ⟨rfl, HB.out⟩

set_option maxHeartbeats 1000000 in
theorem chk7_any (q : Rq) (w : World) : Calls Tryd.prog 46 #[rqV q] w (RetB (.bool (bad q 6)) w) := by
  have HB := Lib.hid (below_al (Below.refl w.heap.size w) (rqO q 39))
  have HO := Lib.hid (fun W => outside17_any (q.k : Int) 1 4 W)
  have e : bad q 6 = (decide ((q.k : Int) < 1) || decide (4 < (q.k : Int))) := rfl
  rw [e]
  clear e
  unfold rqV
  unfold rqO at HB
  generalize (decide ((q.k : Int) < 1) || decide (4 < (q.k : Int))) = v at HO ⊢
  go_enter Tryd.func46, Tryd.ntmps46
  go_wp2_with (go_at_call 38; refine (HO.out _).mono ?_; rintro e w' ⟨rfl, rfl⟩)
  go_ret
  exact ⟨rfl, HB.out⟩

/-- Which function asks for what may be wrong, and what it holds. -/
def chF (k : Nat) : FuncId :=
  if k = 0 then 39 else if k = 1 then 40 else if k = 2 then 41 else if k = 3 then 42 else if k = 4 then 43 else if k = 5 then 44 else 46
def chL (g k : Nat) : Array Value := if k = 3 then #[.pointer (some ⟨g, 0, none⟩)] else #[]
theorem seven {k : Nat} (h : k < 7) : k = 0 ∨ k = 1 ∨ k = 2 ∨ k = 3 ∨ k = 4 ∨ k = 5 ∨ k = 6 := by omega

theorem chF_enters (k : Nat) (hk : k < 7) : ∀ args W, (callFunc (chF k) args).run Tryd.prog W = .ok (.enter (chF k) args) W := by
  rcases seven hk with rfl | rfl | rfl | rfl | rfl | rfl | rfl
  · exact enters_of Tryd.func39 (by kernel_rfl) rfl
  · exact enters_of Tryd.func40 (by kernel_rfl) rfl
  · exact enters_of Tryd.func41 (by kernel_rfl) rfl
  · exact enters_of Tryd.func42 (by kernel_rfl) rfl
  · exact enters_of Tryd.func43 (by kernel_rfl) rfl
  · exact enters_of Tryd.func44 (by kernel_rfl) rfl
  · exact enters_of Tryd.func46 (by kernel_rfl) rfl

theorem chF_any (q : Rq) (g k : Nat) (w : World) (hk : k < 7) (hq : RqIn w w.heap.size q) (hg : w.cell? ⟨g, 0, none⟩ = some (.int .i64 (gridE q.p q.xa))) (hb : ∀ j, j < k → bad q j = false) :
    Calls Tryd.prog (chF k) (#[rqV q] ++ chL g k) w (RetB (.bool (bad q k)) w) := by
  rcases seven hk with rfl | rfl | rfl | rfl | rfl | rfl | rfl
  · exact chk1_any q w
  · exact chk2_any q w
  · exact chk3_any q w
  · exact chk4_any q g w hg
  · have h0 := hb 0 (by omega)
    have h3 := hb 3 (by omega)
    simp only [bad, if_true, Nat.reduceEqDiff, if_false] at h0 h3
    simp at h0 h3
    exact chk5_any q w hq (gridE_zero h3) (by omega)
  · have h0 := hb 0 (by omega)
    have h3 := hb 3 (by omega)
    have h4 := hb 4 (by omega)
    simp only [bad, if_true, Nat.reduceEqDiff, if_false] at h0 h3 h4
    simp at h0 h3 h4
    have hA := gridE_zero h3
    have hN : 1 ≤ rqN q := hA.ok.here
    have h5 : (1 : Int) * (rqN q : Int) ≤ q.b * (rqN q : Int) := Int.mul_le_mul_of_nonneg_right (by omega) (by omega)
    exact chk6_any q w hq (by omega)
  · exact chk7_any q w

theorem chk_idx (q : Rq) (g k : Nat) (hk : k < 7) (W : World) :
    (Instr.index 73 (.agg #[.int .i64 1, .func (.func 39) #[] #[], .int .i64 1, .func (.func 40) #[] #[], .int .i64 1, .func (.func 41) #[] #[],
      .int .i64 (gridE q.p q.xa), .func (.func 42) #[] #[.pointer (some ⟨g, 0, none⟩)], .int .i64 6, .func (.func 43) #[] #[], .int .i64 7, .func (.func 44) #[] #[], .int .i64 8, .func (.func 46) #[] #[]]) (.int .i64 (k : Int))).run Tryd.prog W =
      .ok (.agg #[.int .i64 (tol q k), .func (.func (chF k)) #[] (chL g k)]) W := by
  unfold tol chL
  generalize gridE q.p q.xa = e
  rcases seven hk with rfl | rfl | rfl | rfl | rfl | rfl | rfl <;> kernel_rfl

set_option maxRecDepth 100000 in
set_option maxHeartbeats 4000000 in
theorem check17_any (q : Rq) (w : World) (hG : Gl w) (hq : RqIn w w.heap.size q) : Calls Tryd.prog 23 #[rqV q] w (RetB (.int .i64 (chkE q)) w) := by
  have hB := below_al (Below.refl w.heap.size w) (rqO q 39)
  have HB := Lib.hid hB
  have hRA := RqAt.new w 39 q
  have HC := Lib.hid (check7_any q.p q.x q.n q.cap q.xa _ (hG.then hB) (hq.then hB).ax hq.an hq.al)
  have HF := Lib.hid (fun g k W (hk : k < 7) (hW : Below w.heap.size w W) => chF_any q g k W hk ((hq.below hW).more hW.size))
  have HIx := Lib.hid (fun g k (hk : k < 7) W => chk_idx q g k hk W)
  have HE := Lib.hid (fun k (hk : k < 7) => chF_enters k hk)
  have H1 : Hid (∀ k, (∀ j, j < k → bad q j = false) → k < 7 → bad q k = true → chkE q = tol q k) := Lib.hid (fun k h hk hb => chkE_first h hk hb)
  have H0 : Hid ((∀ k, k < 7 → bad q k = false) → chkE q = 0) := Lib.hid chkE_all
  have hRB := Lib.hid hRA
  unfold rqV at HF ⊢
  unfold rqO at HC HB hRA hRB
  clear hG hq hB hRA
  generalize gridE q.p q.xa = er at HC HF HIx
  go_enter Tryd.func23, Tryd.ntmps23
  go_wp2_with (go_at_call 28; refine HC.out.mono ?_; rintro e w1 ⟨rfl, b1⟩; have B1 := Lib.hid (below_then HB.out b1); have R1 := Lib.hid (hRB.out.then b1); clear b1)
  obtain ⟨W2, hW2⟩ : ∃ W2, W2 = (w1.alloc (.cells #[.int .i64 er] 27)).alloc (.cells #[.int .i64 1, .func (.func 39) #[] #[], .int .i64 1, .func (.func 40) #[] #[], .int .i64 1, .func (.func 41) #[] #[],
      .int .i64 er, .func (.func 42) #[] #[.pointer (some ⟨w1.heap.size, 0, none⟩)], .int .i64 6, .func (.func 43) #[] #[], .int .i64 7, .func (.func 44) #[] #[], .int .i64 8, .func (.func 46) #[] #[]] 73) := ⟨_, rfl⟩
  have hb2 := below_al (below_al (Below.refl w1.heap.size w1) (.cells #[.int .i64 er] 27)) (.cells #[.int .i64 1, .func (.func 39) #[] #[], .int .i64 1, .func (.func 40) #[] #[], .int .i64 1, .func (.func 41) #[] #[],
      .int .i64 er, .func (.func 42) #[] #[.pointer (some ⟨w1.heap.size, 0, none⟩)], .int .i64 6, .func (.func 43) #[] #[], .int .i64 7, .func (.func 44) #[] #[], .int .i64 8, .func (.func 46) #[] #[]] 73)
  have he2 : W2.cell? ⟨w1.heap.size, 0, none⟩ = some (.int .i64 er) := by rw [hW2]; simp
  rw [← hW2] at hb2 ⊢
  have RA := Lib.hid (R1.out.then hb2)
  have BA := Lib.hid (below_then B1.out hb2)
  have EA := Lib.hid he2
  obtain ⟨g, hg⟩ : ∃ g, g = w1.heap.size := ⟨_, rfl⟩
  rw [← hg] at EA ⊢
  clear hb2 he2 hW2 hg R1 B1
  go_loopw [23] (fun i wr => ∃ k : Nat, k ≤ 7 ∧ i = .int .i64 (k : Int) ∧ Hid (∀ j, j < k → bad q j = false) ∧ Hid (Below W2.heap.size W2 wr)) (fun i _ => 7 - (intOf i).toNat)
  case atStart => exact ⟨0, Nat.zero_le _, rfl, Lib.hid (fun j hj => by omega), Lib.hid (Below.refl _ _)⟩
  case round =>
    obtain ⟨k, hk, rfl, HA, HBr⟩ := hrel
    by_cases hlk : k < 7
    · have hdk : decide ((k : Int) < 7) = true := by simp; omega
      have hdk' : decide (k < 7) = true := by simpa using hlk
      have hix := HIx.out g k hlk
      have HEk := HE.out k hlk
      have hB3 := below_al HBr.out (.cells #[.int .i64 (tol q k), .func (.func (chF k)) #[] (chL g k)] 71)
      have HCk := Lib.hid (HF.out g k _ hlk (below_then BA.out hB3) ((hB3.cell (p := ⟨g, 0, none⟩) (World.block_lt_of_cell? _ _ EA.out)).trans EA.out) HA.out)
      have HBk := Lib.hid hB3
      have ra := (RA.out.then HBr.out).then (below_al (Below.refl wr.heap.size wr) (.cells #[.int .i64 (tol q k), .func (.func (chF k)) #[] (chL g k)] 71))
      have c0 : (wr.alloc (.cells #[.int .i64 (tol q k), .func (.func (chF k)) #[] (chL g k)] 71)).cell? ⟨wr.heap.size, 0, none⟩ = some (.int .i64 (tol q k)) := by simp
      have c1 : (wr.alloc (.cells #[.int .i64 (tol q k), .func (.func (chF k)) #[] (chL g k)] 71)).cell? ⟨wr.heap.size, 1, none⟩ = some (.func (.func (chF k)) #[] (chL g k)) := by simp
      have H1k := Lib.hid (H1.out k HA.out hlk)
      have hAn : bad q k = false → ∀ j, j < k + 1 → bad q j = false := fun hb j hj => by
        by_cases e : j = k
        · rw [e]; exact hb
        · exact HA.out j (by omega)
      have HAn := Lib.hid hAn
      generalize tol q k = tl at hix HCk H1k HBk ra c0 c1
      generalize chF k = fid at hix HCk HEk HBk ra c0 c1
      generalize chL g k = lb at hix HCk HBk ra c0 c1
      clear hB3 hAn HE HIx HF H1
      go_upto_region 6 with fail
      obtain ⟨W3, hW3⟩ : ∃ W3, W3 = wr.alloc (.cells #[.int .i64 tl, .func (.func fid) #[] lb] 71) := ⟨_, rfl⟩
      rw [← hW3] at HCk HBk ra c0 c1 ⊢
      obtain ⟨k0, k1, k2, k3, k4, k5, k6, k7⟩ := ra
      have hgl : wr.heap.size < W3.heap.size := by rw [hW3]; simp
      clear hW3 hix
      cases hbk : bad q k
      · rw [hbk] at HCk
        have HA2 := Lib.hid (HAn.out hbk)
        go_wp2_with (go_at_fn fid; refine HCk.out.mono ?_; rintro e w9 ⟨rfl, b9⟩; have B9 := Lib.hid (below_then HBk.out b9); clear b9)
        go_roundw
        case rel => exact ⟨k + 1, by omega, by go_num, HA2, B9⟩
        case measure => simp [intOf]; omega
      · rw [hbk] at HCk
        have HT := Lib.hid (H1k.out hbk)
        go_wp2_with (go_at_fn fid; refine HCk.out.mono ?_; rintro e w9 ⟨rfl, b9⟩; have c9 := (b9.cell (p := ⟨wr.heap.size, 0, none⟩) hgl).trans c0; have B9 := Lib.hid (below_then HBk.out b9); clear b9)
        go_ret
        exact ⟨by rw [HT.out]; rfl, below_then BA.out B9.out⟩
    · obtain rfl : k = 7 := by omega
      have hdk : decide ((7 : Int) < 7) = false := by simp
      have HZ := Lib.hid (H0.out HA.out)
      go_wp2
      go_ret
      exact ⟨by rw [HZ.out]; rfl, below_then BA.out HBr.out⟩

end Go.Proofs.YtlbfllaaabginaaDoor
