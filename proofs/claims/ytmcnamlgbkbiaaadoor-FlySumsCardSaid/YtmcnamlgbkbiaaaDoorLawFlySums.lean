/-
  The walk of the law FlySums: it returns true for every prime, any two slices of words, every number, either way; nothing that was there is written.
-/
import Derived.Test.YtmcnamlgbkbiaaaDoorLawFlyBack
import Derived.Test.YtmcnamlgbkbiaaaDoorLate
namespace Go.Proofs.YtmcnamlgbkbiaaaDoor
open Go.RowKit Fly

/-- Words times a number, and others to them. -/
def lnL (p c : Int) (xs ys : List Int) (n : Nat) : List Int := (List.range n).map fun j => Fp.add p (Fp.mul p c (xs.getD j 0)) (ys.getD j 0)
theorem lnL_len (p c : Int) (xs ys : List Int) (n : Nat) : (lnL p c xs ys n).length = n := by simp [lnL]
theorem Fly.Fine.lnL {p : Int} {xs ys : List Int} (h : Fine p xs) (c : Int) : Fine p (lnL p c xs ys xs.length) := ⟨by rw [lnL_len]; exact h.rdx, fun j hj => by
  rw [lnL_len] at hj
  unfold Go.Proofs.YtmcnamlgbkbiaaaDoor.lnL
  rw [show ((List.range xs.length).map fun j => Fp.add p (Fp.mul p c (xs.getD j 0)) (ys.getD j 0)).getD j 0 = _ from el_map _ hj]
  exact (Fp.add_bd p _ _).2.2 h.rdx.kn⟩
theorem lnL_words {p : Int} (h : Fp.kn p = true) (c : Int) (xs ys : List Int) (n : Nat) : Words (lnL p c xs ys n) := fun j => by
  have p1 := Fp.kn_bd h
  by_cases hj : j < n
  · unfold lnL
    rw [show ((List.range n).map fun j => Fp.add p (Fp.mul p c (xs.getD j 0)) (ys.getD j 0)).getD j 0 = _ from el_map _ hj]
    obtain ⟨a, b, _⟩ := Fp.add_bd p (Fp.mul p c (xs.getD j 0)) (ys.getD j 0)
    exact ⟨a, by omega⟩
  · rw [List.getD_eq_getElem?_getD, List.getElem?_eq_none (by rw [lnL_len]; omega)]
    exact ⟨Int.le_refl _, by show (0 : Int) < _; omega⟩
theorem Fly.Fine.sums {p : Int} {xs ys : List Int} (h : Fine p xs) (h' : Fine p ys) (hl : ys.length = xs.length) (inv : Bool) (c : Int) {k : Nat} (hk : k < xs.length) :
    (Fly.doL p inv (Go.Proofs.YtmcnamlgbkbiaaaDoor.lnL p c xs ys xs.length)).getD k 0 = Fp.add p (Fp.mul p c ((Fly.doL p inv xs).getD k 0)) ((Fly.doL p inv ys).getD k 0) := by
  rw [(h.lnL c).get inv (by rw [lnL_len]; exact hk), h.get inv hk, h'.get inv (by rw [hl]; exact hk), lnL_len, hl, ← doN_lin h.rdx.kn]
  exact doN_congr fun j hj => el_map _ hj

set_option maxRecDepth 100000 in
set_option maxHeartbeats 2000000 in
theorem flysums_no {G : World → Prop} (H : FlyHas G) (p c : Int) (inv : Bool) (x y : Option Addr) (n cap cap' : Nat) (xs ys : List Int) (w : World) (hG : G w) (hx : Reads .u64 w w.heap.size x xs) (hy : Reads .u64 w w.heap.size y ys) (hn : xs.length = n) (hm : ys.length = n) (hw : Words xs) (hw' : Words ys) (hl : n ≤ 12)
    (hE : doE p xs ≠ 0 ∨ doE p ys ≠ 0) :
    Calls Tryd.prog 5 #[.int .u64 p, .bool inv, .slice x n cap, .slice y n cap', .int .u64 c] w fun e w' => e = .returned (.bool true) ∧ Below w.heap.size w w' := by
  have hdl : decide (12 < (n : Int)) = false := by simp; omega
  have hnn := neq_same (n : Int)
  have hml : n ≤ maxLen := by unfold maxLen; omega
  have HF1 := Lib.hid (fun W (hB : Below w.heap.size w W) => H.doo p inv x n cap xs W (H.keep hG hB) ((hx.below hB).more hB.size) hn hw hml)
  have HF2 := Lib.hid (fun W (hB : Below w.heap.size w W) => H.doo p inv y n cap' ys W (H.keep hG hB) ((hy.below hB).more hB.size) hm hw' hml)
  have HV := Lib.hid (live15_any H w hG)
  by_cases h1 : doE p xs = 0
  · have h2 : doE p ys ≠ 0 := hE.resolve_left (by simp [h1])
    have e2 : doL p inv ys = [] := by unfold doL; rw [if_neg h2]
    rw [e2] at HF2
    rw [h1] at HF1
    have t2 : (doE p ys != 0) = true := bne_iff_ne.2 h2
    have HL : Hid ((doL p inv xs).length = n) := Lib.hid (by rw [(doE_zero h1).len, hn])
    have hnz : (decide ((n : Int) = 0)) = false := by have := (doE_zero h1).rdx.lo; simp; omega
    have hnz' : ((n : Int) == 0) = false := by have := (doE_zero h1).rdx.lo; rw [beq_eq_false_iff_ne]; omega
    generalize doE p ys = er at HF2 t2
    generalize doL p inv xs = fs at HF1 HL
    clear H hG hx hy hw hw' hE e2 h1 h2 hml
    go_enter Tryd.func5, Tryd.ntmps5
    go_wp2_with (first
      | (go_at_call 10; refine HV.out.mono ?_; rintro e w1 ⟨rfl, b1⟩; have B1 := Lib.hid b1; clear b1)
      | (go_at_call_of 13 (Value.slice x n cap); refine (HF1.out _ B1.out).mono ?_; rintro e w2 ⟨v, rfl, hO, b2⟩; obtain ⟨y1, c1, rfl, -, -, -, -⟩ := hO.form; have B2 := Lib.hid (below_then B1.out b2); rw [HL.out]; clear b2 hO)
      | (go_at_call 13; refine (HF2.out _ B2.out).mono ?_; rintro e w3 ⟨v, rfl, hO, b3⟩; obtain ⟨y2, c2, rfl, -, -, -, -⟩ := hO.form; have B3 := Lib.hid (below_then B2.out b3); simp only [List.length_nil]; clear b3 hO))
    go_ret
    exact ⟨rfl, B3.out⟩
  · have e1 : doL p inv xs = [] := by unfold doL; rw [if_neg h1]
    rw [e1] at HF1
    have t1 : (doE p xs != 0) = true := bne_iff_ne.2 h1
    generalize doE p xs = er at HF1 t1
    generalize doL p inv ys = gs at HF2
    generalize doE p ys = er2 at HF2
    clear H hG hx hy hw hw' hE e1 h1 hml
    go_enter Tryd.func5, Tryd.ntmps5
    go_wp2_with (first
      | (go_at_call 10; refine HV.out.mono ?_; rintro e w1 ⟨rfl, b1⟩; have B1 := Lib.hid b1; clear b1)
      | (go_at_call_of 13 (Value.slice x n cap); refine (HF1.out _ B1.out).mono ?_; rintro e w2 ⟨v, rfl, hO, b2⟩; obtain ⟨y1, c1, rfl, -, -, -, -⟩ := hO.form; have B2 := Lib.hid (below_then B1.out b2); simp only [List.length_nil]; clear b2 hO)
      | (go_at_call 13; refine (HF2.out _ B2.out).mono ?_; rintro e w3 ⟨v, rfl, hO, b3⟩; have B3 := Lib.hid (below_then B2.out b3); clear b3 hO))
    go_ret
    exact ⟨rfl, B3.out⟩

set_option maxRecDepth 100000 in
set_option maxHeartbeats 4000000 in
theorem flysums_yes {G : World → Prop} (H : FlyHas G) (p c : Int) (inv : Bool) (x y : Option Addr) (n cap cap' : Nat) (xs ys : List Int) (w : World) (hG : G w) (hx : Reads .u64 w w.heap.size x xs) (hy : Reads .u64 w w.heap.size y ys) (hn : xs.length = n) (hm : ys.length = n) (hw : Words xs) (hw' : Words ys) (hl : n ≤ 12)
    (c0 : 0 ≤ c) (c1 : c < 18446744073709551616) (h : Fine p xs) (h' : Fine p ys) :
    Calls Tryd.prog 5 #[.int .u64 p, .bool inv, .slice x n cap, .slice y n cap', .int .u64 c] w fun e w' => e = .returned (.bool true) ∧ Below w.heap.size w w' := by
  have hdl : decide (12 < (n : Int)) = false := by simp; omega
  have hnn := neq_same (n : Int)
  have hml : n ≤ maxLen := by unfold maxLen; omega
  have l1 := h.rdx.lo
  rw [hn] at l1
  have HF1 := Lib.hid (fun W (hB : Below w.heap.size w W) => H.doo p inv x n cap xs W (H.keep hG hB) ((hx.below hB).more hB.size) hn hw hml)
  have HF2 := Lib.hid (fun W (hB : Below w.heap.size w W) => H.doo p inv y n cap' ys W (H.keep hG hB) ((hy.below hB).more hB.size) hm hw' hml)
  have HV := Lib.hid (live15_any H w hG)
  have hzl := lnL_len p c xs ys n
  have hz := h.lnL (ys := ys) c
  rw [hn] at hz
  have HF3 := Lib.hid (fun W z c3 (hB : Below w.heap.size w W) (hr : Reads .u64 W W.heap.size z (lnL p c xs ys n)) => H.doo p inv z n c3 _ W (H.keep hG hB) hr hzl (lnL_words h.rdx.kn c xs ys n) hml)
  rw [h.zero] at HF1
  rw [h'.zero] at HF2
  rw [hz.zero] at HF3
  have HS : Hid (∀ k, k < n → (doL p inv (lnL p c xs ys n)).getD k 0 = Fp.add p (Fp.mul p c ((doL p inv xs).getD k 0)) ((doL p inv ys).getD k 0)) := Lib.hid (fun k hk => by
    have := h.sums h' (by rw [hm, hn]) inv c (k := k) (by rw [hn]; exact hk)
    rwa [hn] at this)
  have HW1 := Lib.hid (h.words inv)
  have HW2 := Lib.hid (h'.words inv)
  have L1 : Hid ((doL p inv xs).length = n) := Lib.hid (by rw [h.len, hn])
  have L2 : Hid ((doL p inv ys).length = n) := Lib.hid (by rw [h'.len, hm])
  have L3 : Hid ((doL p inv (lnL p c xs ys n)).length = n) := Lib.hid (by rw [hz.len, hzl])
  have HX := Lib.hid hx
  have HY := Lib.hid hy
  have HW := Lib.hid hw
  have HW' := Lib.hid hw'
  have HN := Lib.hid hn
  have HM := Lib.hid hm
  have HDL : Hid (∀ k, (List.range (k + 1)).map (fun j => Fp.add p (Fp.mul p c (xs.getD j 0)) (ys.getD j 0)) = (List.range k).map (fun j => Fp.add p (Fp.mul p c (xs.getD j 0)) (ys.getD j 0)) ++ [Fp.add p (Fp.mul p c (xs.getD k 0)) (ys.getD k 0)]) := Lib.hid (fun k => range_snoc _ k)
  obtain ⟨i0, hi, hz0, hz1, hz2⟩ := info_parts info_u64
  have hmx : Tryd.prog.follows .mixedOrders = true := by kernel_rfl
  have hdef : lnL p c xs ys n = (List.range n).map (fun j => Fp.add p (Fp.mul p c (xs.getD j 0)) (ys.getD j 0)) := rfl
  generalize doL p inv (lnL p c xs ys n) = ds at HF3 HS L3
  rw [hdef] at HF3
  generalize doL p inv xs = ts at HF1 HS HW1 L1
  generalize doL p inv ys = bs at HF2 HS HW2 L2
  clear H hG hx hy hw hw' h h' hz hzl hdef hn hm hml
  go_enter Tryd.func5, Tryd.ntmps5
  go_wp2_with (first
    | (go_at_call 10; refine HV.out.mono ?_; rintro e w1 ⟨rfl, b1⟩; have B1 := Lib.hid b1; clear b1)
    | (go_at_call_of 13 (Value.slice x n cap); refine (HF1.out _ B1.out).mono ?_; rintro e w2 ⟨v, rfl, hO, b2⟩; obtain ⟨y1, k1, rfl, -, -, hr, -⟩ := hO.form; have R1 := Lib.hid hr; have B2 := Lib.hid (below_then B1.out b2); rw [L1.out]; clear b2 hO hr)
    | (go_at_call 13; refine (HF2.out _ B2.out).mono ?_; rintro e w3 ⟨v, rfl, hO, b3⟩; obtain ⟨y2, k2, rfl, -, -, hr, -⟩ := hO.form; have R2 := Lib.hid hr; have B3 := Lib.hid (below_then B2.out b3); rw [L2.out]; have S1 := Lib.hid ((R1.out.below b3).more b3.size); clear b3 hO hr R1))
  clear HF1 HF2 HV B1 B2
  go_loopw [15, 62] (fun v i wr => ∃ (k : Nat) (o : Value), k ≤ n ∧ i = .int .i64 (k : Int) ∧ o = v ∧ Owns .u64 22 wr w3.heap.size o ((List.range k).map (fun j => Fp.add p (Fp.mul p c (xs.getD j 0)) (ys.getD j 0))) ∧ Below w3.heap.size w3 wr) (fun _ i _ => n - (intOf i).toNat)
  case atStart => exact ⟨0, _, Nat.zero_le _, rfl, rfl, Owns.nil, Below.refl _ _⟩
  case round =>
    obtain ⟨k, o, hk, rfl, rfl, hO, hB⟩ := hrel
    by_cases hlt : k < n
    · have hdk : decide (k < n) = true := by simpa using hlt
      have hBw := below_then B3.out hB
      obtain ⟨b, off, rfl, hb, hcx⟩ := HX.out (by have := HN.out; omega)
      obtain ⟨b', off', rfl, hb', hcy⟩ := HY.out (by have := HM.out; omega)
      have hx1 := (hBw.cell (p := ⟨b, off + k, none⟩) hb).trans (hcx k (by have := HN.out; omega))
      have hy1 := (hBw.cell (p := ⟨b', off' + k, none⟩) hb').trans (hcy k (by have := HM.out; omega))
      obtain ⟨u0, u1⟩ := HW.out k
      obtain ⟨v0, v1⟩ := HW'.out k
      have hD := HDL.out k
      have hL : ((List.range k).map (fun j => Fp.add p (Fp.mul p c (xs.getD j 0)) (ys.getD j 0))).length = k := by simp
      generalize hzs : (List.range k).map (fun j => Fp.add p (Fp.mul p c (xs.getD j 0)) (ys.getD j 0)) = zs at hO hD hL
      obtain ⟨u, hu⟩ : ∃ u, u = xs.getD k 0 := ⟨_, rfl⟩
      obtain ⟨v, hv⟩ : ∃ v, v = ys.getD k 0 := ⟨_, rfl⟩
      rw [← hu] at hx1 u0 u1 hD
      rw [← hv] at hy1 v0 v1 hD
      have HD := Lib.hid hD
      obtain ⟨m0, m1, -⟩ := Fp.mul_bd p c u
      have HO := Lib.hid hO
      have HB := Lib.hid hB
      have hO' : Hid (wr.ownsRow w3.heap.size 22 1 o zs.length (zs.map (Value.int .u64))) := Lib.hid hO
      have HL : Hid (zs.length = k) := Lib.hid hL
      clear hO hB hcx hcy hu hv hD hBw hzs hL
      go_wp2
      refine region_late (l1 := [_, _, _, _, _, _, _, _, _, _, _, _, _]) o (.slice (some ⟨wr.heap.size, 0, none⟩) 1 1) (.cells #[.int .u64 (Fp.add p (Fp.mul p c u) v)] 22) hmx (by kernel_rfl) (by kernel_rfl) ?_ ?_ ?_
      · intro k; go_simp
      · intro k; go_simp
      simp only [List.cons_append, List.nil_append, Act.put, List.setIfInBounds_toArray, List.set_cons_succ, List.set_cons_zero]
      repeat (go_big_quiet_step (first
        | (go_at_call 19; exact Calls.quiet_of (mul_any _ _ _ _ (by omega) (by omega) (by omega) (by omega)))
        | (go_at_call 20; exact Calls.quiet_of (add_any _ _ _ _ (by omega) (by omega) (by omega) (by omega)))))
      refine wpQuiet_nil ?_
      refine ⟨by kernel_rfl, fun k => ?_, fun nq => ?_⟩
      · go_simp
      have hsw : Hid (w3.heap.size ≤ wr.heap.size) := Lib.hid HB.out.size
      go_wp2_with (at_builtin; refine wpList_append_own _ rfl _ _ 23 rfl w3.heap.size 22 i0 (.int .u64 0) 1 8 Tryd.underlying23 hi hz0 hz1 hz2 rfl (by decide) _ _ _ rfl (World.ownsRow.alloc (w := wr.drewN nq) hO'.out _) ⟨wr.heap.size, 0, none⟩ 1 1 [.int .u64 (Fp.add p (Fp.mul p c u) v)] rfl rfl (cell_one_new _ _ _) (one_int _ _) (by rw [HL.out]; unfold maxLen; omega) (by rw [HL.out]; omega) (by have := hsw.out; simp; omega) ?_; intro v' w6 hown' hgrow _)
      go_roundw
      case rel =>
        refine ⟨k + 1, v', by omega, by go_num, rfl, ?_, ?_⟩
        · rw [HD.out]; exact Owns.push hown'
        · exact ((below_draws HB.out nq).alloc (by show _ ≤ wr.heap.size; exact HB.out.size) _).grown hgrow (Nat.le_trans HB.out.size (by simp)) HO.out.ownBlock
      case measure => simp [intOf]; omega
    · obtain rfl : k = n := by omega
      have B4 := Lib.hid (below_then B3.out hB)
      obtain ⟨z, kz, hz', -, -, hrz, -⟩ := hO.form
      rw [List.length_map, List.length_range] at hz'
      subst hz'
      have RZ := Lib.hid hrz
      have V1 := Lib.hid ((S1.out.below hB).more hB.size)
      have V2 := Lib.hid ((R2.out.below hB).more hB.size)
      clear hO hB hrz S1 R2 hi hz0 hz1 hz2
      go_wp2_with (go_at_call 13; refine (HF3.out _ _ _ B4.out RZ.out).mono ?_; rintro e w7 ⟨v, rfl, hO, b7⟩; obtain ⟨y5, k5, rfl, -, -, hr, -⟩ := hO.form; have R5 := Lib.hid hr; have B7 := Lib.hid (below_then B4.out b7); rw [L3.out]; have X1 := Lib.hid ((V1.out.below b7).more b7.size); have X2 := Lib.hid ((V2.out.below b7).more b7.size); clear b7 hO hr RZ V1 V2)
      go_loopw [114] (fun i wi => ∃ j q : Nat, j ≤ k ∧ i = .int .i64 (j : Int) ∧ wi = w7.drewN q) (fun i _ => k - (intOf i).toNat)
      case atStart => exact ⟨0, 0, Nat.zero_le _, rfl, rfl⟩
      case round =>
        obtain ⟨j, q, hj, rfl, hq⟩ := hrel
        by_cases hlj : j < k
        · have hdj : decide (j < k) = true := by simpa using hlj
          obtain ⟨d1, o1, rfl, -, hc1⟩ := X1.out (by rw [L1.out]; omega)
          obtain ⟨d2, o2, rfl, -, hc2⟩ := X2.out (by rw [L2.out]; omega)
          obtain ⟨d5, o5, rfl, -, hc5⟩ := R5.out (by rw [L3.out]; omega)
          have a1 := hc1 j (by rw [L1.out]; omega)
          have a2 := hc2 j (by rw [L2.out]; omega)
          have a5 := hc5 j (by rw [L3.out]; omega)
          rw [HS.out j hlj] at a5
          have hcq : ∀ ad, w7.cell? ad = wr.cell? ad := fun ad => by rw [hq]; rfl
          rw [hcq] at a1 a2 a5
          have HQ := Lib.hid hq
          clear hcq hq
          obtain ⟨r1, s1⟩ := HW1.out j
          obtain ⟨r2, s2⟩ := HW2.out j
          obtain ⟨u1, hu1⟩ : ∃ u, u = ts.getD j 0 := ⟨_, rfl⟩
          obtain ⟨u2, hu2⟩ : ∃ u, u = bs.getD j 0 := ⟨_, rfl⟩
          rw [← hu1] at a1 a5 r1 s1
          rw [← hu2] at a2 a5 r2 s2
          obtain ⟨m0, m1, -⟩ := Fp.mul_bd p c u1
          have n1 := neq_same (Fp.add p (Fp.mul p c u1) u2)
          clear hc1 hc2 hc5 hu1 hu2
          go_wp2
          go_quiet (first
            | (go_at_call 19; exact Calls.quiet_of (mul_any _ _ _ _ (by omega) (by omega) (by omega) (by omega)))
            | (go_at_call 20; exact Calls.quiet_of (add_any _ _ _ _ (by omega) (by omega) (by omega) (by omega))))
          go_wp2
          go_roundw
          case rel => exact ⟨j + 1, _, by omega, by go_num, by rw [HQ.out, World.drewN_drewN]⟩
          case measure => simp [intOf]; omega
        · have HQ : Hid (Below w.heap.size w wr) := Lib.hid (by rw [hq]; exact below_draws B7.out _)
          clear hq
          go_wp2
          go_ret
          exact ⟨rfl, HQ.out⟩

set_option maxRecDepth 100000 in
theorem flysums_walk {G : World → Prop} (H : FlyHas G) (p : Int) (inv : Bool) (x : Option Addr) (len cap : Nat) (zs : List Int) (y : Option Addr) (len' cap' : Nat) (zs' : List Int) (c : Int) (w : World) (_hp : (Lit.int .u64 p).wf = true) (hr : RowIn .u64 w x len cap zs) (hr' : RowIn .u64 w y len' cap' zs') (hc : (Lit.int .u64 c).wf = true) (hG : G w) :
    Calls Tryd.prog 5 #[.int .u64 p, .bool inv, .slice x len cap, .slice y len' cap', .int .u64 c] w fun e w' => e = .returned (.bool true) ∧ Below w.heap.size w w' := by
  obtain ⟨xs, -, hn, hcp, hm, hx, hw⟩ := hr.reads
  obtain ⟨ys, -, hn', hcp', hm', hy, hw'⟩ := hr'.reads
  have hcb := bounds_u64 hc
  unfold maxLen at hm hm'
  by_cases hl : len ≤ 12
  · by_cases hll : len = len'
    · subst hll
      by_cases hE : doE p xs = 0 ∧ doE p ys = 0
      · exact flysums_yes H p c inv x y len cap cap' xs ys w hG hx hy hn hn' hw hw' hl (by omega) (by omega) (doE_zero hE.1) (doE_zero hE.2)
      · exact flysums_no H p c inv x y len cap cap' xs ys w hG hx hy hn hn' hw hw' hl (by
          by_cases h1 : doE p xs = 0
          · exact .inr fun h2 => hE ⟨h1, h2⟩
          · exact .inl h1)
    · have hdl : decide (12 < (len : Int)) = false := by simp; omega
      have hnn : ((len : Int) != (len' : Int)) = true := by rw [bne_iff_ne]; omega
      have HV := Lib.hid (live15_any H w hG)
      clear hr hr' hx hy hG H
      go_enter Tryd.func5, Tryd.ntmps5
      go_wp2_with (go_at_call 10; refine HV.out.mono ?_; rintro e w1 ⟨rfl, b1⟩)
      go_ret
      exact ⟨rfl, b1⟩
  · have hdl : decide (12 < (len : Int)) = true := by simp; omega
    have HV := Lib.hid (live15_any H w hG)
    clear hr hr' hx hy hG H
    go_enter Tryd.func5, Tryd.ntmps5
    go_wp2_with (go_at_call 10; refine HV.out.mono ?_; rintro e w1 ⟨rfl, b1⟩)
    go_ret
    exact ⟨rfl, b1⟩

end Go.Proofs.YtmcnamlgbkbiaaaDoor
