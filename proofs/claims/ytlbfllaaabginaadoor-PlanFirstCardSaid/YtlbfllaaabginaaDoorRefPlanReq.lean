/-
  What the document's Check and Item of a request come to (brackenref17), over every input: the same; its Few.
-/
import Derived.Test.YtlbfllaaabginaaDoorPlanHas
import Derived.Test.YtlbfllaaabginaaDoorGrids
import Derived.WideShapes
namespace Go.Proofs.YtlbfllaaabginaaDoor
open Go.RowKit

theorem six_first (a b c d e f : Bool) : (a = true) ∨ (a = false ∧ b = true) ∨ (a = false ∧ b = false ∧ c = true) ∨ (a = false ∧ b = false ∧ c = false ∧ d = true) ∨ (a = false ∧ b = false ∧ c = false ∧ d = false ∧ e = true) ∨
    (a = false ∧ b = false ∧ c = false ∧ d = false ∧ e = false ∧ f = true) ∨ (a = false ∧ b = false ∧ c = false ∧ d = false ∧ e = false ∧ f = false) := by
  cases a <;> cases b <;> cases c <;> cases d <;> cases e <;> cases f <;> simp

set_option maxRecDepth 100000 in
set_option maxHeartbeats 4000000 in
theorem rcheck17_any (q : Rq) (w : World) (hq : RqIn w w.heap.size q) : Calls Tryd.prog 24 #[rqV q] w (RetB (.int .i64 (chkE q)) w) := by
  have hB := below_al (Below.refl w.heap.size w) (rqO q 39)
  have HB := Lib.hid hB
  have HRA := Lib.hid (RqAt.new w 39 q)
  have HC := Lib.hid (rcheck7_any q.p q.x q.n q.cap q.xa _ (hq.then hB).ax hq.an hq.al)
  unfold rqO at HB HRA HC
  rcases six_first (decide (q.b < 1)) (decide (16 < q.b)) (decide (q.rt < 0)) (decide (8 < q.rt)) (decide (q.ag < 0)) (decide (8 < q.ag)) with h | ⟨h1, h⟩ | ⟨h1, h2, h⟩ | ⟨h1, h2, h3, h⟩ | ⟨h1, h2, h3, h4, h⟩ | ⟨h1, h2, h3, h4, h5, h⟩ | ⟨h1, h2, h3, h4, h5, h⟩
  iterate 6
    · have e : chkE q = 1 := by
        unfold chkE argB
        simp only [h, Bool.true_or, Bool.or_true, if_true]
      rw [e]
      unfold rqV
      clear e hq hB HC
      obtain ⟨p, x, n, cap, xa, inv, b, y, m, cy, xs, zo, k, cz, zs, rt, ag⟩ := q
      dsimp only at *
      go_enter Tryd.func24, Tryd.ntmps24
      go_wp2
      go_ret
      exact ⟨rfl, HB.out⟩
  have ha : argB q = false := by unfold argB; rw [h1, h2, h3, h4, h5, h]; rfl
  rcases chkE_cases q with ⟨_, hb⟩ | ⟨_, e, hE⟩ | ⟨_, hA, e, hne⟩ | ⟨_, hA, hlen, e, hi⟩ | ⟨_, hA, hlen, hi, e, hk⟩ | ⟨e, ⟨_, _, _, hA, hlen, hi, hk⟩⟩
  · rw [ha] at hb; cases hb
  · rw [e]
    have t := ne_of_bne hE
    unfold rqV
    generalize gridE q.p q.xa = er at HC t ⊢
    clear e hE ha hq hB
    obtain ⟨p, x, n, cap, xa, inv, b, y, m, cy, xs, zo, k, cz, zs, rt, ag⟩ := q
    dsimp only at *
    go_enter Tryd.func24, Tryd.ntmps24
    go_wp2_with (go_at_call 33; refine HC.out.mono ?_; rintro e w1 ⟨rfl, b1⟩; have B1 := Lib.hid (below_then HB.out b1); clear b1)
    go_ret
    exact ⟨rfl, B1.out⟩
  all_goals
    have HD := Lib.hid (fun W (hB : Below w.heap.size w W) => rdims_any q.x q.n q.cap q.xa W ((hq.below hB).more hB.size).ax hq.an hq.al)
    have HO := Lib.hid hA.ok
    have HDM := Lib.hid hA.is
    have HDL := Lib.hid (dims_len q.xa)
    have HAll : Hid (∀ y c W, Reads .i64 W W.heap.size y (dims q.xa) → Calls Tryd.prog 31 #[.slice y (dims q.xa).length c] W fun e w' => e = .returned (.tuple #[.int .i64 ((rqN q : Nat) : Int), .int .i64 0]) ∧ W = w') := Lib.hid (fun y c W hy => rall_ok (szs q.xa) HO.out y _ c W W.heap.size (by rw [← HDM.out]; exact hy) (by rw [HDL.out, szs_len]))
    have hN : rqN q ≤ 4096 := hA.ok.le
    have hN1 : 1 ≤ rqN q := hA.ok.here
    simp at h1 h2
    have hml : (q.m : Int) ≤ 9223372036854775807 := by have := hq.yc; unfold maxLen at this; omega
    obtain ⟨c, hc⟩ : ∃ c : Nat, q.b = (c : Int) := ⟨q.b.toNat, by omega⟩
    obtain ⟨z, hz0⟩ : ∃ z, z = rqN q * c := ⟨_, rfl⟩
    have hzb : z ≤ 65536 := by
      rw [hz0]
      exact Nat.le_trans (Nat.mul_le_mul_left _ (show c ≤ 16 by omega)) (by omega)
    have hz : ((rqN q : Nat) : Int) * (c : Int) = (z : Int) := by rw [hz0]; simp
    have hz2 : q.b * (rqN q : Int) = (z : Int) := by rw [hc, Int.mul_comm]; exact hz
    have hz1 : 1 ≤ c → 1 ≤ z := fun h => by rw [hz0]; exact Nat.mul_le_mul hN1 h
    rw [hA.zero] at HC
    have d1 : decide (q.b < 1) = false := by simp; omega
    have d2 : decide (16 < q.b) = false := by simp; omega
  · -- the length
    rw [e]
    rw [hz2] at hne
    have t : ((z : Int) != (q.m : Int)) = true := bne_of_ne (Ne.symm hne)
    unfold rqV
    generalize rqN q = N at HAll hz
    clear e hne ha hq hB hA h1 h2 hz0 hz2 hN hN1 hz1
    obtain ⟨p, x, n, cap, xa, inv, b, y, m, cy, xs, zo, k, cz, zs, rt, ag⟩ := q
    dsimp only at *
    subst hc
    go_enter Tryd.func24, Tryd.ntmps24
    go_wp2_with (first
      | (go_at_call 33; refine HC.out.mono ?_; rintro e w1 ⟨rfl, b1⟩; have B1 := Lib.hid (below_then HB.out b1); have RA1 := HRA.out.then b1; obtain ⟨k0, k1, k2, k3, k4, k5, k6, k7⟩ := RA1; dsimp only at k0 k1 k2 k3 k4 k5 k6 k7; have RA2 := Lib.hid (HRA.out.then b1); clear b1)
      | (go_at_call 32; refine (HD.out _ B1.out).mono ?_; rintro e w3 ⟨v, rfl, hO, b3⟩; obtain ⟨y3, c3, rfl, -, -, hr3, -⟩ := hO.form; have R3 := Lib.hid hr3; have B3 := Lib.hid (below_then B1.out b3); have RA3 := RA2.out.then b3; obtain ⟨l0, l1, l2, l3, l4, l5, l6, l7⟩ := RA3; dsimp only at l0 l1 l2 l3 l4 l5 l6 l7; clear b3 hO hr3 k0 k1 k2 k3 k4 k5 k6 k7)
      | (go_at_call 31; refine (HAll.out _ _ _ R3.out).mono ?_; rintro e w' ⟨rfl, rfl⟩))
    go_ret
    exact ⟨rfl, B3.out⟩
  · -- a word
    rw [e]
    rw [hz2] at hlen
    have t : ((z : Int) != (q.m : Int)) = false := by rw [← hlen]; simp
    have hm1 : 1 ≤ q.m := by have := hz1 (by omega); omega
    obtain ⟨b0, off, hy, hb, hcc⟩ := hq.yr (by rw [hq.yn]; omega)
    have HI : Hid (∀ W, Below w.heap.size w W → Calls Tryd.prog 47 #[.int .u64 q.p, .slice q.y q.m q.cy] W fun e w' => e = .returned (.bool (Fp.isIn q.p (fun j => q.xs.getD j 0) q.xs.length)) ∧ W = w') := Lib.hid (fun W hW => by
      rw [hy, hq.yn]
      exact rin_row q.p b0 off q.m q.cy _ W hml (fun j hj => (hW.cell (p := ⟨b0, off + j, none⟩) hb).trans (hcc j (by rw [hq.yn]; exact hj))))
    rw [hi] at HI
    unfold rqV
    generalize rqN q = N at HAll hz
    have HHz := Lib.hid hlen
    clear e hlen ha hq hB hA h1 h2 hz0 hz2 hN hN1 hz1 hm1 hi hy hb hcc
    obtain ⟨p, x, n, cap, xa, inv, b, y, m, cy, xs, zo, k, cz, zs, rt, ag⟩ := q
    dsimp only at *
    subst hc
    go_enter Tryd.func24, Tryd.ntmps24
    go_wp2_with (first
      | (go_at_call 33; refine HC.out.mono ?_; rintro e w1 ⟨rfl, b1⟩; have B1 := Lib.hid (below_then HB.out b1); have RA1 := HRA.out.then b1; obtain ⟨k0, k1, k2, k3, k4, k5, k6, k7⟩ := RA1; dsimp only at k0 k1 k2 k3 k4 k5 k6 k7; have RA2 := Lib.hid (HRA.out.then b1); clear b1)
      | (go_at_call 32; refine (HD.out _ B1.out).mono ?_; rintro e w3 ⟨v, rfl, hO, b3⟩; obtain ⟨y3, c3, rfl, -, -, hr3, -⟩ := hO.form; have R3 := Lib.hid hr3; have B3 := Lib.hid (below_then B1.out b3); have RA3 := RA2.out.then b3; obtain ⟨l0, l1, l2, l3, l4, l5, l6, l7⟩ := RA3; dsimp only at l0 l1 l2 l3 l4 l5 l6 l7; clear b3 hO hr3 k0 k1 k2 k3 k4 k5 k6 k7)
      | (go_at_call 31; refine (HAll.out _ _ _ R3.out).mono ?_; rintro e w' ⟨rfl, rfl⟩)
      | (go_at_call 47; refine (HI.out _ B3.out).mono ?_; rintro e w' ⟨rfl, rfl⟩))
    go_ret
    exact ⟨rfl, B3.out⟩
  · -- the seeds
    rw [e]
    rw [hz2] at hlen
    have t : ((z : Int) != (q.m : Int)) = false := by rw [← hlen]; simp
    have hm1 : 1 ≤ q.m := by have := hz1 (by omega); omega
    obtain ⟨b0, off, hy, hb, hcc⟩ := hq.yr (by rw [hq.yn]; omega)
    have HI : Hid (∀ W, Below w.heap.size w W → Calls Tryd.prog 47 #[.int .u64 q.p, .slice q.y q.m q.cy] W fun e w' => e = .returned (.bool (Fp.isIn q.p (fun j => q.xs.getD j 0) q.xs.length)) ∧ W = w') := Lib.hid (fun W hW => by
      rw [hy, hq.yn]
      exact rin_row q.p b0 off q.m q.cy _ W hml (fun j hj => (hW.cell (p := ⟨b0, off + j, none⟩) hb).trans (hcc j (by rw [hq.yn]; exact hj))))
    rw [hi] at HI
    unfold rqV
    generalize rqN q = N at HAll hz
    have HHz := Lib.hid hlen
    have s1 : (decide ((q.k : Int) < 1) = true) ∨ (decide ((q.k : Int) < 1) = false ∧ decide ((4 : Int) < (q.k : Int)) = true) := by
      rcases hk with h | h
      · exact .inl (by simp; omega)
      · exact .inr ⟨by simp; omega, by simp; omega⟩
    have s2 : (decide (q.k < 1) = true) ∨ (decide (q.k < 1) = false ∧ decide (4 < q.k) = true) := by
      rcases hk with h | h
      · exact .inl (by simp; omega)
      · exact .inr ⟨by simp; omega, by simp; omega⟩
    clear hk
    clear e hlen ha hq hB hA h1 h2 hz0 hz2 hN hN1 hz1 hm1 hi hy hb hcc
    obtain ⟨p, x, n, cap, xa, inv, b, y, m, cy, xs, zo, k, cz, zs, rt, ag⟩ := q
    dsimp only at *
    subst hc
    rcases s1 with s1 | ⟨s1, s3⟩
    all_goals
      rcases s2 with s2 | ⟨s2, s4⟩
    all_goals
      first
        | (simp at s1 s2; omega)
        | (simp at s1 s3 s2; omega)
        | (simp at s1 s2 s4; omega)
        | skip
    all_goals
      go_enter Tryd.func24, Tryd.ntmps24
      go_wp2_with (first
        | (go_at_call 33; refine HC.out.mono ?_; rintro e w1 ⟨rfl, b1⟩; have B1 := Lib.hid (below_then HB.out b1); have RA1 := HRA.out.then b1; obtain ⟨k0, k1, k2, k3, k4, k5, k6, k7⟩ := RA1; dsimp only at k0 k1 k2 k3 k4 k5 k6 k7; have RA2 := Lib.hid (HRA.out.then b1); clear b1)
        | (go_at_call 32; refine (HD.out _ B1.out).mono ?_; rintro e w3 ⟨v, rfl, hO, b3⟩; obtain ⟨y3, c3, rfl, -, -, hr3, -⟩ := hO.form; have R3 := Lib.hid hr3; have B3 := Lib.hid (below_then B1.out b3); have RA3 := RA2.out.then b3; obtain ⟨l0, l1, l2, l3, l4, l5, l6, l7⟩ := RA3; dsimp only at l0 l1 l2 l3 l4 l5 l6 l7; clear b3 hO hr3 k0 k1 k2 k3 k4 k5 k6 k7)
        | (go_at_call 31; refine (HAll.out _ _ _ R3.out).mono ?_; rintro e w' ⟨rfl, rfl⟩)
        | (go_at_call 47; refine (HI.out _ B3.out).mono ?_; rintro e w' ⟨rfl, rfl⟩))
      go_ret
      exact ⟨rfl, B3.out⟩
  · -- nothing
    rw [e]
    rw [hz2] at hlen
    have t : ((z : Int) != (q.m : Int)) = false := by rw [← hlen]; simp
    have hm1 : 1 ≤ q.m := by have := hz1 (by omega); omega
    obtain ⟨b0, off, hy, hb, hcc⟩ := hq.yr (by rw [hq.yn]; omega)
    have HI : Hid (∀ W, Below w.heap.size w W → Calls Tryd.prog 47 #[.int .u64 q.p, .slice q.y q.m q.cy] W fun e w' => e = .returned (.bool (Fp.isIn q.p (fun j => q.xs.getD j 0) q.xs.length)) ∧ W = w') := Lib.hid (fun W hW => by
      rw [hy, hq.yn]
      exact rin_row q.p b0 off q.m q.cy _ W hml (fun j hj => (hW.cell (p := ⟨b0, off + j, none⟩) hb).trans (hcc j (by rw [hq.yn]; exact hj))))
    rw [hi] at HI
    unfold rqV
    generalize rqN q = N at HAll hz
    have HHz := Lib.hid hlen
    have s1 : decide ((q.k : Int) < 1) = false := by simp; omega
    have s2 : decide (q.k < 1) = false := by simp; omega
    have s3 : decide ((4 : Int) < (q.k : Int)) = false := by simp; omega
    have s4 : decide (4 < q.k) = false := by simp; omega
    clear hk
    clear e hlen ha hq hB hA h1 h2 hz0 hz2 hN hN1 hz1 hm1 hi hy hb hcc
    obtain ⟨p, x, n, cap, xa, inv, b, y, m, cy, xs, zo, k, cz, zs, rt, ag⟩ := q
    dsimp only at *
    subst hc
    go_enter Tryd.func24, Tryd.ntmps24
    go_wp2_with (first
      | (go_at_call 33; refine HC.out.mono ?_; rintro e w1 ⟨rfl, b1⟩; have B1 := Lib.hid (below_then HB.out b1); have RA1 := HRA.out.then b1; obtain ⟨k0, k1, k2, k3, k4, k5, k6, k7⟩ := RA1; dsimp only at k0 k1 k2 k3 k4 k5 k6 k7; have RA2 := Lib.hid (HRA.out.then b1); clear b1)
      | (go_at_call 32; refine (HD.out _ B1.out).mono ?_; rintro e w3 ⟨v, rfl, hO, b3⟩; obtain ⟨y3, c3, rfl, -, -, hr3, -⟩ := hO.form; have R3 := Lib.hid hr3; have B3 := Lib.hid (below_then B1.out b3); have RA3 := RA2.out.then b3; obtain ⟨l0, l1, l2, l3, l4, l5, l6, l7⟩ := RA3; dsimp only at l0 l1 l2 l3 l4 l5 l6 l7; clear b3 hO hr3 k0 k1 k2 k3 k4 k5 k6 k7)
      | (go_at_call 31; refine (HAll.out _ _ _ R3.out).mono ?_; rintro e w' ⟨rfl, rfl⟩)
      | (go_at_call 47; refine (HI.out _ B3.out).mono ?_; rintro e w' ⟨rfl, rfl⟩))
    go_ret
    exact ⟨rfl, B3.out⟩

set_option maxRecDepth 100000 in
set_option maxHeartbeats 4000000 in
theorem ritem17_ok (q : Rq) (j : Nat) (w : World) (hq : RqIn w w.heap.size q) (hok : Rok q) (hj : (j : Int) < q.b) : Calls Tryd.prog 21 #[rqV q, .int .i64 (j : Int)] w (LineRet w (part q j) 0) := by
  have hB := below_al (Below.refl w.heap.size w) (rqO q 39)
  have HB := Lib.hid hB
  have HRA := Lib.hid (RqAt.new w 39 q)
  have HC := Lib.hid (rcheck17_any q _ (hq.then hB))
  rw [hok.zero] at HC
  have hN := hok.pos
  have hpi := part_in hok hq.yn hj
  rw [hq.yn] at hpi
  have HPl := Lib.hid (part_len hok hq.yn hj)
  have HPg : Hid (∀ t, t < rqN q → (part q j).getD t 0 = q.xs.getD (j * rqN q + t) 0) := Lib.hid (fun t ht => part_get q j ht)
  obtain ⟨b0, off, hy, hb0, hc⟩ := hq.yr (by rw [hq.yn]; omega)
  have HY := Lib.hid (fun t (ht : t < q.m) => hc t (by rw [hq.yn]; exact ht))
  have hcy := hq.yc
  have hbb := hok.b
  have hlen := hok.len
  generalize rqN q = N at hN hpi HPl HPg hlen
  obtain ⟨c, hcb⟩ : ∃ c : Nat, q.b = (c : Int) := ⟨q.b.toNat, by omega⟩
  have hc1 : 1 ≤ c ∧ c ≤ 16 := by omega
  have hjc : j < c := by omega
  have hmc : q.m = c * N := by
    rw [hcb] at hlen
    have : ((c * N : Nat) : Int) = (c : Int) * (N : Int) := by simp
    omega
  have hdv : ((q.m : Nat) : Int) / (c : Int) = (N : Int) := by
    rw [hmc, Int.natCast_mul]
    exact Int.mul_ediv_cancel_left _ (by omega)
  have hc0 : (c : Int) ≠ 0 := by omega
  obtain ⟨t, ht⟩ : ∃ t, t = j * N := ⟨_, rfl⟩
  have hz : (j : Int) * (N : Int) = (t : Int) := by rw [ht]; simp
  rw [← ht] at hpi HPg
  obtain ⟨u, hu⟩ : ∃ u, u = t + N := ⟨_, rfl⟩
  have hz2 : ((j : Int) + 1) * (N : Int) = (u : Int) := by rw [Int.add_mul, hz, hu]; simp
  obtain ⟨j1, hj1⟩ : ∃ j1, j1 = j + 1 := ⟨_, rfl⟩
  have hz3 : (j1 : Int) * (N : Int) = (u : Int) := by rw [hj1]; simpa using hz2
  have hjb : j ≤ 16 := by omega
  generalize part q j = ps at HPl HPg ⊢
  unfold rqV
  unfold rqO at HB HRA HC
  clear hok ht hc hB hlen hmc
  obtain ⟨p, x, n, cap, xa, inv, b, y, m, cy, xs, zo, k, cz, zs, rt, ag⟩ := q
  dsimp only at *
  clear hq
  subst hy
  subst hcb
  obtain ⟨i0, hi, hz0, hz1, hze⟩ := info_parts info_u64
  unfold rqV at HC
  dsimp only at HC
  have hne : ¬ cy = t := by omega
  have hmt : t ≤ m := by omega
  have hum : u ≤ m := by omega
  have htu : t ≤ u := by omega
  have hcm : m ≤ 9223372036854775807 := by have := hcy.2; unfold maxLen at this; omega
  have hcm2 : cy ≤ 9223372036854775807 := by have := hcy.2; unfold maxLen at this; omega
  have hcm3 : m ≤ cy := hcy.1
  have hut : u - t = N := by omega
  clear hcy hu
  go_enter Tryd.func21, Tryd.ntmps21
  obtain ⟨k0, k1, k2, k3, k4, k5, k6, k7⟩ := HRA.out
  dsimp only at k0 k1 k2 k3 k4 k5 k6 k7
  go_upto_region 7 with (first
    | (go_at_call 24; refine HC.out.mono ?_; rintro e w1 ⟨rfl, b1⟩; have B1 := Lib.hid (below_then HB.out b1); have HRB := HRA.out.then b1; obtain ⟨l0, l1, l2, l3, l4, l5, l6, l7⟩ := HRB; dsimp only at l0 l1 l2 l3 l4 l5 l6 l7; clear b1))
  have HSrc : Hid (∀ cp, Src .u64 w1 (some ⟨b0, off + t, none⟩) N cp ps) := Lib.hid (fun cp => ⟨HPl.out, .inr ⟨_, rfl, fun i hi => by
    rw [Go.WideShapes.add_plain, Nat.add_assoc, (B1.out.cell (p := ⟨b0, off + (t + i), none⟩) hb0).trans (HY.out (t + i) (by omega)), ← HPg.out i hi]⟩⟩)
  have hN8 : N * 8 ≤ 140737488355328 := by omega
  clear k0 k1 k2 k3 k5 k6 k7 l0 l1 l2 l3 l5 l6 l7
  go_wp2_with (at_builtin; refine wpList_copy_new rfl _ _ 37 rfl 22 i0 .u64 8 Tryd.underlying37 hi hz0 hz1 hze _ N _ ps rfl rfl (HSrc.out _) (by unfold maxLen; omega) hN8 ?_; intro v2 w2 hO hB2; have O2 := Lib.hid hO; have B2 := Lib.hid (below_then B1.out hB2); have Z2 := Lib.hid B1.out.size; clear hO hB2)
  go_ret2
  exact ⟨_, rfl, O2.out.mono Z2.out, B2.out⟩

set_option maxHeartbeats 4000000 in
theorem ritem17_any (q : Rq) (i : Int) (w : World) (hq : RqIn w w.heap.size q) (hi : -9223372036854775808 ≤ i ∧ i < 9223372036854775808) : Calls Tryd.prog 21 #[rqV q, .int .i64 i] w (LineRet w (itL q i) (itE q i)) := by
  by_cases hE : itE q i = 0
  · obtain ⟨hok, h0, h1⟩ := itE_zero hE
    rw [itL_ok hE, hE]
    obtain ⟨j, rfl⟩ := Int.eq_ofNat_of_zero_le h0
    rw [Int.toNat_natCast]
    exact ritem17_ok q j w hq hok h1
  · rw [itL_no hE]
    have hB := below_al (Below.refl w.heap.size w) (rqO q 39)
    have HB := Lib.hid hB
    have HRA := Lib.hid (RqAt.new w 39 q)
    have HC := Lib.hid (rcheck17_any q _ (hq.then hB))
    by_cases hC : chkE q = 0
    · have hok := chkE_zero hC
      have hout : i < 0 ∨ q.b ≤ i := Classical.byContradiction fun h => hE (itE_ok hC h)
      rw [itE_arg hC hout]
      rw [hC] at HC
      have hs : (decide (i < 0) = true) ∨ (decide (i < 0) = false ∧ decide (q.b ≤ i) = true) := by
        by_cases h : i < 0
        · exact .inl (by simpa using h)
        · exact .inr ⟨by simpa using h, by simp; omega⟩
      unfold rqV at HC ⊢
      unfold rqO at HB HRA HC
      clear hB hE hC hok hq hout
      obtain ⟨p, x, n, cap, xa, inv, b, y, m, cy, xs, zo, k, cz, zs, rt, ag⟩ := q
      dsimp only at *
      rcases hs with hs | ⟨hs, hs2⟩
      all_goals
        go_enter Tryd.func21, Tryd.ntmps21
        obtain ⟨k0, k1, k2, k3, k4, k5, k6, k7⟩ := HRA.out
        dsimp only at k0 k1 k2 k3 k4 k5 k6 k7
        go_wp2_with (go_at_call 24; refine HC.out.mono ?_; rintro e w1 ⟨rfl, b1⟩; have B1 := Lib.hid (below_then HB.out b1); have HRB := HRA.out.then b1; obtain ⟨l0, l1, l2, l3, l4, l5, l6, l7⟩ := HRB; dsimp only at l0 l1 l2 l3 l4 l5 l6 l7; clear b1)
        go_ret2
        exact ⟨_, rfl, Owns.nil, B1.out⟩
    · rw [itE_chk hC]
      have t := ne_of_bne hC
      unfold rqV at HC ⊢
      unfold rqO at HB HRA HC
      clear hB hE hq
      generalize chkE q = er at HC t ⊢
      clear hC
      obtain ⟨p, x, n, cap, xa, inv, b, y, m, cy, xs, zo, k, cz, zs, rt, ag⟩ := q
      dsimp only at *
      go_enter Tryd.func21, Tryd.ntmps21
      obtain ⟨k0, k1, k2, k3, k4, k5, k6, k7⟩ := HRA.out
      dsimp only at k0 k1 k2 k3 k4 k5 k6 k7
      go_wp2_with (go_at_call 24; refine HC.out.mono ?_; rintro e w1 ⟨rfl, b1⟩; have B1 := Lib.hid (below_then HB.out b1); clear b1)
      go_ret2
      exact ⟨_, rfl, Owns.nil, B1.out⟩

/-- Whether axes that may be are few: the document's Few of them. -/
theorem few_is {p : Int} (x : Option Addr) (n cap : Nat) (xa : List Ax) (most : Int) (w : World) (hA : Axes p xa) (hx : ReadsA w w.heap.size x xa) (hn : xa.length = n) (hl : n ≤ 8796093022208) :
    Hid (∀ W, Below w.heap.size w W → Calls Tryd.prog 12 #[.slice x n cap, .int .i64 most] W (RetB (.bool (decide (((Sh.prod (szs xa) : Nat) : Int) ≤ most))) W)) := by
  have HD := Lib.hid (fun W (hB : Below w.heap.size w W) => rdims_any x n cap xa W ((hx.below hB).more hB.size) hn hl)
  have HDL := Lib.hid (dims_len xa)
  have h4 : xa.length ≤ 4 := by have := hA.ok.four; rwa [szs_len] at this
  have d1 : decide ((n : Int) ≤ 10) = true := by simp; omega
  have HO := Lib.hid hA.ok
  have HDM := Lib.hid hA.is
  refine Lib.hid fun W hW => ?_
  have HW := Lib.hid hW
  clear hA hx hn hW h4
  cases hd2 : decide (((Sh.prod (szs xa) : Nat) : Int) ≤ most)
  all_goals
    go_enter Tryd.func12, Tryd.ntmps12
    go_wp2_with (first
      | (go_at_call 32; refine (HD.out _ HW.out).mono ?_; rintro e w1 ⟨v, rfl, hO, b1⟩; obtain ⟨y1, c, rfl, -, -, hr, -⟩ := hO.form; have R1 := Lib.hid hr; have B1 := Lib.hid b1; clear hO hr b1)
      | (go_at_call 31; refine (rall_ok (szs xa) HO.out y1 _ c w1 w1.heap.size (by rw [← HDM.out]; exact R1.out) (by rw [HDL.out, szs_len])).mono ?_; rintro e w' ⟨rfl, rfl⟩))
    go_ret
    exact ⟨rfl, B1.out⟩

set_option maxRecDepth 100000 in
set_option maxHeartbeats 1000000 in
theorem few17_of (q : Rq) (f : Bool) (w : World) (hF : Hid (∀ W, Below w.heap.size w W → Calls Tryd.prog 12 #[.slice q.x q.n q.cap, .int .i64 60] W (RetB (.bool f) W))) :
    Hid (∀ W, Below w.heap.size w W → Calls Tryd.prog 19 #[rqV q, .int .i64 60] W (RetB (.bool (f && decide (q.m ≤ 240) && decide (q.k ≤ 10))) W)) := by
  refine Lib.hid fun W hW => ?_
  have HB := Lib.hid (below_al (Below.refl W.heap.size W) (rqO q 39))
  have HRA := Lib.hid (RqAt.new W 39 q)
  have HF := Lib.hid (hF.out _ (below_then hW HB.out))
  unfold rqV
  unfold rqO at HB HRA HF
  clear hW hF
  obtain ⟨p, x, n, cap, xa, inv, b, y, m, cy, xs, zo, k, cz, zs, rt, ag⟩ := q
  dsimp only at *
  cases f
  · simp only [Bool.false_and]
    go_enter Tryd.func19, Tryd.ntmps19
    obtain ⟨k0, k1, k2, k3, k4, k5, k6, k7⟩ := HRA.out
    dsimp only at k0 k1 k2 k3 k4 k5 k6 k7
    go_wp2_with (go_at_call 12; refine HF.out.mono ?_; rintro e w1 ⟨rfl, b1⟩; have B1 := Lib.hid (below_then HB.out b1); clear b1)
    go_ret
    exact ⟨rfl, B1.out⟩
  · simp only [Bool.true_and]
    cases h1 : decide (m ≤ 240)
    · have h1' : decide ((m : Int) ≤ 240) = false := by simp at h1 ⊢; omega
      simp only [Bool.false_and]
      go_enter Tryd.func19, Tryd.ntmps19
      obtain ⟨k0, k1, k2, k3, k4, k5, k6, k7⟩ := HRA.out
      dsimp only at k0 k1 k2 k3 k4 k5 k6 k7
      go_wp2_with (go_at_call 12; refine HF.out.mono ?_; rintro e w1 ⟨rfl, b1⟩; have B1 := Lib.hid (below_then HB.out b1); have HRB := HRA.out.then b1; obtain ⟨l0, l1, l2, l3, l4, l5, l6, l7⟩ := HRB; dsimp only at l0 l1 l2 l3 l4 l5 l6 l7; clear b1)
      go_ret
      exact ⟨rfl, B1.out⟩
    · have h1' : decide ((m : Int) ≤ 240) = true := by simp at h1 ⊢; omega
      simp only [Bool.true_and]
      cases h2 : decide (k ≤ 10)
      all_goals
        first
          | (have h2' : decide ((k : Int) ≤ 10) = true := by (simp at h2 ⊢; omega))
          | (have h2' : decide ((k : Int) ≤ 10) = false := by (simp at h2 ⊢; omega))
        go_enter Tryd.func19, Tryd.ntmps19
        obtain ⟨k0, k1, k2, k3, k4, k5, k6, k7⟩ := HRA.out
        dsimp only at k0 k1 k2 k3 k4 k5 k6 k7
        go_wp2_with (go_at_call 12; refine HF.out.mono ?_; rintro e w1 ⟨rfl, b1⟩; have B1 := Lib.hid (below_then HB.out b1); have HRB := HRA.out.then b1; obtain ⟨l0, l1, l2, l3, l4, l5, l6, l7⟩ := HRB; dsimp only at l0 l1 l2 l3 l4 l5 l6 l7; clear b1)
        go_ret
        exact ⟨rfl, B1.out⟩

end Go.Proofs.YtlbfllaaabginaaDoor
