/-
  The walk of the law GeomEval: it returns true for every three words and any two slices of words; nothing that was there is written.
-/
import Derived.Test.YtancfpekiecoiaaGeomEval
import Derived.Test.YtancfpekiecoiaaLawGeomSteps
import Derived.Test.YtancfpekiecoiaaRows2

namespace Go.Proofs.Ytancfpekiecoiaa
open Go.RowKit Go.Shelf

theorem Eval_yes (p r : Int) (x : Option Addr) (n cap : Nat) (xs : List Int) (w : World) (h : Fp.kn p = true) (hx : Reads .u64 w w.heap.size x xs) (hn : xs.length = n) (hw : Words xs) (hl : n ≤ 65536) (r0 : 0 ≤ r) (r1 : r < 18446744073709551616) :
    Calls Try.prog 10 #[.int .u64 p, .slice x n cap, .int .u64 r] w (RetB (.tuple #[.int .u64 (Fp.ev p xs r), .int .i64 0]) w) := by
  have := Eval_any p r x n cap xs w hx hn hw (by omega) r0 r1
  rwa [evalN_ok (by rw [hn]; exact evalE_ok h hl), evalE_ok h hl] at this
theorem words_of {n : Nat} {f : Nat → Int} (hf : ∀ k, 0 ≤ f k ∧ f k < 18446744073709551616) : Words ((List.range n).map f) := fun j => by
  by_cases h : j < n
  · have := hf j; simpa [h] using this
  · simp [h]

set_option maxRecDepth 100000 in
set_option maxHeartbeats 4000000 in
theorem geomeval_main (p c r : Int) (x y : Option Addr) (n cap cap' : Nat) (xs ys : List Int) (w : World) (h : Fp.kn p = true) (hx : Reads .u64 w w.heap.size x xs) (hy : Reads .u64 w w.heap.size y ys) (hn : xs.length = n) (hm : ys.length = n) (hw : Words xs) (hw' : Words ys) (hl : n ≤ 40)
    (c0 : 0 ≤ c) (c1 : c < 18446744073709551616) (r0 : 0 ≤ r) (r1 : r < 18446744073709551616) :
    Calls Try.prog 5 #[.int .u64 p, .slice x n cap, .slice y n cap', .int .u64 c, .int .u64 r] w fun e w' => e = .returned (.bool true) ∧ Below w.heap.size w w' := by
  have hdl : decide (40 < (n : Int)) = false := by simp; omega
  have hnn : ((n : Int) != (n : Int)) = false := by simp
  obtain ⟨f, hf⟩ : ∃ f : Nat → Int, f = fun j => Fp.add p (Fp.mul p c (xs.getD j 0)) (ys.getD j 0) := ⟨_, rfl⟩
  have hfb : ∀ k, 0 ≤ f k ∧ f k < 18446744073709551616 := fun k => by rw [hf]; obtain ⟨a, b, -⟩ := Fp.add_bd p (Fp.mul p c (xs.getD k 0)) (ys.getD k 0); exact ⟨a, by show Fp.add _ _ _ < _; omega⟩
  have hlin := Fp.ev_lin h c r xs ys (by rw [hm, hn])
  rw [hn, ← hf] at hlin
  have hpws := Fp.ev_pws h c r n
  obtain ⟨s0, s1, -⟩ := Fp.mul_bd p c r
  have HE1 := Lib.hid (fun W (hB : Below w.heap.size w W) => Eval_yes p r x n cap xs W h ((hx.below hB).more hB.size) hn hw (by omega) r0 r1)
  have HE2 := Lib.hid (fun W (hB : Below w.heap.size w W) => Eval_yes p r y n cap' ys W h ((hy.below hB).more hB.size) hm hw' (by omega) r0 r1)
  have HE3 := Lib.hid (fun W z k3 (hr : Reads .u64 W W.heap.size z ((List.range n).map f)) => Eval_yes p r z n k3 _ W h hr (by simp) (words_of hfb) (by omega) r0 r1)
  have HPW := Lib.hid (fun W => powers_yes p c n W h c0 c1 (by omega))
  have HE4 := Lib.hid (fun W z k4 (hr : Reads .u64 W W.heap.size z (pws p c n)) => Eval_yes p r z n k4 _ W h hr (pws_len p c n) (words_of fun k => by obtain ⟨a, b, -⟩ := Fp.pw_bd p c k; exact ⟨a, by omega⟩) (by omega) r0 r1)
  have HSM := Lib.hid (fun W => Sum_yes p (Fp.mul p c r) (n : Int) n W h s0 (by omega) rfl (by omega))
  have HPL := Lib.hid (pws_len p c n)
  rw [hlin] at HE3
  change Hid (∀ W z k4 (_ : Reads .u64 W W.heap.size z (pws p c n)), Calls _ _ _ _ (RetB (.tuple #[.int .u64 (Fp.ev p ((List.range n).map (Fp.pw p c)) r), .int .i64 0]) W)) at HE4
  rw [hpws] at HE4
  obtain ⟨a0, a1, -⟩ := Fp.ev_bd p xs r
  obtain ⟨b0, b1, -⟩ := Fp.ev_bd p ys r
  generalize Fp.ev p xs r = A at HE1 HE3 a0 a1
  generalize Fp.ev p ys r = B at HE2 HE3 b0 b1
  obtain ⟨m0, m1, -⟩ := Fp.mul_bd p c A
  have t1 : (Fp.add p (Fp.mul p c A) B == Fp.add p (Fp.mul p c A) B) = true := by simp
  generalize Fp.gsum p (Fp.mul p c r) n = G at HE4 HSM
  have t2 : (G == G) = true := by simp
  have HLN : Hid (∀ k : Nat, ((List.range k).map f).length = k) := Lib.hid (fun k => by simp)
  have HDL : Hid (∀ k, f k = Fp.add p (Fp.mul p c (xs.getD k 0)) (ys.getD k 0)) := Lib.hid (fun k => by rw [hf])
  have HX := Lib.hid hx
  have HY := Lib.hid hy
  have HW := Lib.hid hw
  have HW' := Lib.hid hw'
  have HN := Lib.hid hn
  have HM := Lib.hid hm
  have HK := Lib.hid h
  obtain ⟨i0, hi, hz0, hz1, hz2⟩ := info_parts info_u64
  have hmx : Try.prog.follows .mixedOrders = true := by kernel_rfl
  clear hx hy hw hw' h hn hm hf hfb hlin hpws
  go_enter Try.func5, Try.ntmps5
  go_wp2_with (first
    | (go_at_call 7; refine (live8_any _).mono ?_; rintro e w' ⟨rfl, nd, rfl⟩)
    | (go_at_call 14; refine (known_yes p _ HK.out).mono ?_; rintro e w' ⟨rfl, rfl⟩))
  obtain ⟨w5, hw5⟩ : ∃ w5, w5 = w.drewN nd := ⟨_, rfl⟩
  have B5 : Hid (Below w.heap.size w w5) := Lib.hid (by rw [hw5]; exact draws_below _ _ _)
  rw [← hw5]
  clear hw5
  go_loopw [11, 44] (fun v i wr => ∃ (k : Nat) (o : Value), k ≤ n ∧ i = .int .i64 (k : Int) ∧ o = v ∧ Owns .u64 22 wr w5.heap.size o ((List.range k).map f) ∧ Below w5.heap.size w5 wr) (fun _ i _ => n - (intOf i).toNat)
  case atStart => exact ⟨0, _, Nat.zero_le _, rfl, rfl, Owns.nil, Below.refl _ _⟩
  case round =>
    obtain ⟨k, o, hk, rfl, rfl, hO, hB⟩ := hrel
    by_cases hlt : k < n
    · have hdk : decide (k < n) = true := by simpa using hlt
      have hBw := B5.out.trans (hB.mono B5.out.size)
      obtain ⟨b, off, rfl, hb, hcx⟩ := HX.out (by have := HN.out; omega)
      obtain ⟨b', off', rfl, hb', hcy⟩ := HY.out (by have := HM.out; omega)
      have hx1 := (hBw.cell (p := ⟨b, off + k, none⟩) hb).trans (hcx k (by have := HN.out; omega))
      have hy1 := (hBw.cell (p := ⟨b', off' + k, none⟩) hb').trans (hcy k (by have := HM.out; omega))
      obtain ⟨u0, u1⟩ := HW.out k
      obtain ⟨v0, v1⟩ := HW'.out k
      have hD := HDL.out k
      obtain ⟨u, hu⟩ : ∃ u, u = xs.getD k 0 := ⟨_, rfl⟩
      obtain ⟨v, hv⟩ : ∃ v, v = ys.getD k 0 := ⟨_, rfl⟩
      rw [← hu] at hx1 u0 u1 hD
      rw [← hv] at hy1 v0 v1 hD
      have HD := Lib.hid hD
      obtain ⟨m2, m3, -⟩ := Fp.mul_bd p c u
      have HO := Lib.hid hO
      have HB := Lib.hid hB
      have hO' : Hid (wr.ownsRow w5.heap.size 22 1 o ((List.range k).map f).length (((List.range k).map f).map (Value.int .u64))) := Lib.hid hO
      clear hO hB hcx hcy hu hv hD hBw
      go_wp2
      refine region_late (l1 := [_, _, _, _, _, _, _, _, _, _, _, _, _]) o (.slice (some ⟨wr.heap.size, 0, none⟩) 1 1) (.cells #[.int .u64 (Fp.add p (Fp.mul p c u) v)] 22) hmx (by kernel_rfl) (by kernel_rfl) ?_ ?_ ?_
      · intro k; go_simp
      · intro k; go_simp
      simp only [List.cons_append, List.nil_append, Act.put, List.setIfInBounds_toArray, List.set_cons_succ, List.set_cons_zero]
      repeat (go_big_quiet_step (first
        | (go_at_call 17; exact Calls.quiet_of (mul_any _ _ _ _ (by omega) (by omega) (by omega) (by omega)))
        | (go_at_call 16; exact Calls.quiet_of (add_any _ _ _ _ (by omega) (by omega) (by omega) (by omega)))))
      refine wpQuiet_nil ?_
      refine ⟨by kernel_rfl, fun k => ?_, fun nq => ?_⟩
      · go_simp
      have hsw : Hid (w5.heap.size ≤ wr.heap.size) := Lib.hid HB.out.size
      go_wp2_with (at_builtin; refine wpList_append_own _ rfl _ _ 23 rfl w5.heap.size 22 i0 (.int .u64 0) 1 8 Try.underlying23 hi hz0 hz1 hz2 rfl (by decide) _ _ _ rfl (World.ownsRow.alloc (w := wr.drewN nq) hO'.out _) ⟨wr.heap.size, 0, none⟩ 1 1 [.int .u64 (Fp.add p (Fp.mul p c u) v)] rfl rfl (cell_one_new _ _ _) (one_int _ _) (by rw [HLN.out]; unfold maxLen; omega) (by rw [HLN.out]; omega) (by have := hsw.out; simp; omega) ?_; intro v' w6 hown' hgrow _)
      go_roundw
      case rel =>
        refine ⟨k + 1, v', by omega, by go_num, rfl, ?_, ?_⟩
        · rw [range_snoc, HD.out]; exact Owns.push hown'
        · exact ((below_draws HB.out nq).alloc (by show _ ≤ wr.heap.size; exact HB.out.size) _).grown hgrow (Nat.le_trans HB.out.size (by simp)) HO.out.ownBlock
      case measure => simp [intOf]; omega
    · obtain rfl : k = n := by omega
      have B6 := Lib.hid (B5.out.trans (hB.mono B5.out.size))
      obtain ⟨z, kz, hz', -, -, hrz, -⟩ := hO.form
      rw [HLN.out] at hz'
      subst hz'
      have RZ := Lib.hid hrz
      clear hO hB hrz hi hz0 hz1 hz2 HX HY HW HW' HDL
      go_wp2_with fail
      refine (HE1.out _ B6.out).mono ?_
      rintro e w7 ⟨rfl, b7⟩
      have B7 := Lib.hid (B6.out.trans (b7.mono B6.out.size))
      have RZ7 := Lib.hid ((RZ.out.below b7).more b7.size)
      clear b7 RZ HE1
      go_wp2_with fail
      refine (HE2.out _ B7.out).mono ?_
      rintro e w8 ⟨rfl, b8⟩
      have B8 := Lib.hid (B7.out.trans (b8.mono B7.out.size))
      have RZ8 := Lib.hid ((RZ7.out.below b8).more b8.size)
      clear b8 RZ7 HE2
      go_wp2_with fail
      refine (HE3.out _ _ _ RZ8.out).mono ?_
      rintro e w9 ⟨rfl, b9⟩
      have B9 := Lib.hid (B8.out.trans (b9.mono B8.out.size))
      clear b9 RZ8 HE3
      go_wp2_with fail
      refine (HPW.out _).mono ?_
      rintro e w10 ⟨v, rfl, hO, b10⟩
      obtain ⟨z2, k2, rfl, -, -, hr2, -⟩ := hO.form
      rw [HPL.out]
      have B10 := Lib.hid (B9.out.trans (b10.mono B9.out.size))
      have R2 := Lib.hid hr2
      clear b10 hO hr2 HPW
      go_wp2_with fail
      refine (HE4.out _ _ _ R2.out).mono ?_
      rintro e w11 ⟨rfl, b11⟩
      have B11 := Lib.hid (B10.out.trans (b11.mono B10.out.size))
      clear b11 R2 HE4
      go_wp2_with (first
        | (go_at_call 8; refine (HSM.out _).mono ?_; rintro e w' ⟨rfl, n5, rfl⟩)
        | (go_at_call 17; refine (mul_any _ _ _ _ (by omega) (by omega) (by omega) (by omega)).mono ?_; rintro e w' ⟨rfl, n6, rfl⟩)
        | (go_at_call 16; refine (add_any _ _ _ _ (by omega) (by omega) (by omega) (by omega)).mono ?_; rintro e w' ⟨rfl, n7, rfl⟩))
      go_ret
      exact ⟨rfl, below_draws B11.out _⟩

set_option maxRecDepth 100000 in
set_option maxHeartbeats 1000000 in
theorem walk_GeomEval (p : Int) (x : Option Addr) (len cap : Nat) (zs : List Int) (y : Option Addr) (len' cap' : Nat) (zs' : List Int) (c r : Int) (w : World) (_hp : (Lit.int .u64 p).wf = true) (hr : RowIn .u64 w x len cap zs) (hr' : RowIn .u64 w y len' cap' zs') (hc : (Lit.int .u64 c).wf = true) (hr1 : (Lit.int .u64 r).wf = true) :
    Calls Try.prog 5 #[.int .u64 p, .slice x len cap, .slice y len' cap', .int .u64 c, .int .u64 r] w fun e w' => e = .returned (.bool true) ∧ Below w.heap.size w w' := by
  obtain ⟨xs, -, hn, hcp, hm, hx, hw⟩ := hr.reads
  obtain ⟨ys, -, hn', hcp', hm', hy, hw'⟩ := hr'.reads
  have cb := bounds_u64 hc
  have rb := bounds_u64 hr1
  unfold maxLen at hm hm'
  have D := Lib.hid (fun n => draws_below w.heap.size w n)
  by_cases hl : len ≤ 40
  · by_cases hll : len = len'
    · subst hll
      cases h : Fp.kn p
      · have hdl : decide (40 < (len : Int)) = false := by simp; omega
        have hnn : ((len : Int) != (len : Int)) = false := by simp
        have H := Lib.hid h
        clear hr hr' hx hy hn hn' hw hw' h
        go_enter Try.func5, Try.ntmps5
        go_wp2_with (first
          | (go_at_call 7; refine (live8_any _).mono ?_; rintro e w' ⟨rfl, nd, rfl⟩)
          | (go_at_call 14; refine (known_no p _ H.out).mono ?_; rintro e w' ⟨rfl, rfl⟩))
        go_ret
        exact ⟨rfl, D.out _⟩
      · exact geomeval_main p c r x y len cap cap' xs ys w h hx hy hn hn' hw hw' hl (by omega) (by omega) (by omega) (by omega)
    · have hdl : decide (40 < (len : Int)) = false := by simp; omega
      have hnn : ((len : Int) != (len' : Int)) = true := by rw [bne_iff_ne]; omega
      clear hr hr' hx hy hn hn' hw hw'
      go_enter Try.func5, Try.ntmps5
      go_wp2_with (go_at_call 7; refine (live8_any _).mono ?_; rintro e w' ⟨rfl, nd, rfl⟩)
      go_ret
      exact ⟨rfl, D.out _⟩
  · have hdl : decide (40 < (len : Int)) = true := by simp; omega
    clear hr hr' hx hy hn hn' hw hw'
    go_enter Try.func5, Try.ntmps5
    go_wp2_with (go_at_call 7; refine (live8_any _).mono ?_; rintro e w' ⟨rfl, nd, rfl⟩)
    go_ret
    exact ⟨rfl, D.out _⟩

end Go.Proofs.Ytancfpekiecoiaa
