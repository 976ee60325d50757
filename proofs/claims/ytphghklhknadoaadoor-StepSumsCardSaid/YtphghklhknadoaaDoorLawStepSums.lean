/-
  The walk of the law StepSums: it returns true for every prime, all axes, every step, any two slices of words, every number, either way; nothing that was there is written.
-/
import Derived.Test.YtphghklhknadoaaDoorStepA
import Derived.Test.YtphghklhknadoaaDoorGrids
import Derived.Test.YtphghklhknadoaaDoorRows2
import Derived.Deep.RegionWith
namespace Go.Proofs.YtphghklhknadoaaDoor
open Go.RowKit

theorem len_same (a : Int) : (a != a) = false := by simp

set_option maxRecDepth 100000 in
set_option maxHeartbeats 2000000 in
theorem stepsums_no {G : World → Prop} (H : StepHas G) (p : Int) (ax : Option Addr) (na acap : Nat) (xa : List Ax) (inv : Bool) (s : Sp) (x y : Option Addr) (n cap m cap' : Nat) (xs ys : List Int) (c : Int) (w : World) (hG : G w) (hax : ReadsA w w.heap.size ax xa) (hna : xa.length = na) (hlb : na ≤ 8796093022208) (hs : SpIn s)
    (hx : Reads .u64 w w.heap.size x xs) (hy : Reads .u64 w w.heap.size y ys) (hn : xs.length = n) (hm : ys.length = m) (hw : Words xs) (hw' : Words ys) (hml : n ≤ maxLen) (hml' : m ≤ maxLen)
    (hE : Stp.wE p xa s xs ≠ 0 ∨ Stp.wE p xa s ys ≠ 0 ∨ 40 < n ∨ n ≠ m) :
    Calls Tryd.prog 7 #[.int .u64 p, .slice ax na acap, .bool inv, spV s, .slice x n cap, .slice y m cap', .int .u64 c] w fun e w' => e = .returned (.bool true) ∧ Below w.heap.size w w' := by
  have HB := Lib.hid (below_al (Below.refl _ w) (.cells #[.int .i64 s.ax, .bool s.tw, .int .i64 s.st.r, .int .i64 s.st.l, .int .i64 s.st.m] 27))
  have HS := Lib.hid (SpAt.new w 27 s)
  have HV := Lib.hid (live16_any H _ (H.keep hG HB.out))
  obtain ⟨b, HFew⟩ := few_any ax na acap xa 32 w hax hna hlb
  have HF1 := Lib.hid (fun W (hB : Below w.heap.size w W) => H.doo p ax na acap xa inv s x n cap xs W (H.keep hG hB) ((hax.below hB).more hB.size) hna hlb hs ((hx.below hB).more hB.size) hn hw hml)
  have HF2 := Lib.hid (fun W (hB : Below w.heap.size w W) => H.doo p ax na acap xa inv s y m cap' ys W (H.keep hG hB) ((hax.below hB).more hB.size) hna hlb hs ((hy.below hB).more hB.size) hm hw' hml')
  by_cases hb : b = false ∨ 40 < n ∨ n ≠ m
  · obtain ⟨d1, hd1⟩ : ∃ d, d = decide (40 < (n : Int)) := ⟨_, rfl⟩
    obtain ⟨d2, hd2⟩ : ∃ d, d = ((n : Int) != (m : Int)) := ⟨_, rfl⟩
    have hd : b = false ∨ d1 = true ∨ d2 = true := by
      rcases hb with h | h | h
      · exact .inl h
      · right; left; rw [hd1]; simp; omega
      · right; right; rw [hd2, bne_iff_ne]; omega
    replace hd1 := hd1.symm
    replace hd2 := hd2.symm
    clear HF1 HF2 hb hx hy hG hw hw' hm hn hml hml' hax H hE
    obtain ⟨sax, stw, sr, sl, sm⟩ := s
    unfold spV
    dsimp only at HB HS HV ⊢
    cases b <;> cases d1 <;> cases d2 <;> first | (exfalso; simp at hd; done) | skip
    all_goals
      go_enter Tryd.func7, Tryd.ntmps7
      go_wp2_with (first
        | (go_at_call 12; refine HV.out.mono ?_; rintro e w1 ⟨rfl, b1⟩; have B1 := Lib.hid (below_then HB.out b1); clear b1)
        | (go_at_call 13; refine (HFew.out _ B1.out).mono ?_; rintro e w2 ⟨rfl, b2⟩; have B2 := Lib.hid (below_then B1.out b2); clear b2))
      go_ret
      exact ⟨rfl, B2.out⟩
  obtain rfl : b = true := by cases b <;> simp_all
  obtain rfl : n = m := by omega
  have hdl : decide (40 < (n : Int)) = false := by simp; omega
  have hnn := len_same (n : Int)
  by_cases h1 : Stp.wE p xa s xs = 0
  · have h2 : Stp.wE p xa s ys ≠ 0 := by omega
    rw [Stp.wL_no h2] at HF2
    rw [h1] at HF1
    have t2 : (Stp.wE p xa s ys != 0) = true := bne_iff_ne.2 h2
    have hok := Stp.wE_zero h1
    have HL : Hid ((Stp.wL p xa inv s xs).length = n) := Lib.hid (by rw [hok.wL, Stp.stp_len, hn])
    have hnz : (decide ((n : Int) = 0)) = false := by have := hok.le; simp; omega
    have hnz' : ((n : Int) == 0) = false := by have := hok.le; rw [beq_eq_false_iff_ne]; omega
    generalize Stp.wE p xa s ys = er at HF2 t2
    generalize Stp.wL p xa inv s xs = fs at HF1 HL
    clear H hG hx hy hw hw' hE h1 h2 hml hml' hax hs hok
    obtain ⟨sax, stw, sr, sl, sm⟩ := s
    unfold spV at HF1 HF2 ⊢
    dsimp only at HB HS HV HF1 HF2 ⊢
    go_enter Tryd.func7, Tryd.ntmps7
    go_wp2_with (first
      | (go_at_call 12; refine HV.out.mono ?_; rintro e w1 ⟨rfl, b1⟩; have B1 := Lib.hid (below_then HB.out b1); have S1 := Lib.hid (HS.out.then b1); clear b1 HS)
      | (go_at_call 13; refine (HFew.out _ B1.out).mono ?_; rintro e w2 ⟨rfl, b2⟩; have B2 := Lib.hid (below_then B1.out b2); have S2 := Lib.hid (S1.out.then b2); obtain ⟨k0, k1, k2, k3, k4⟩ := S2.out; dsimp only at k0 k1 k2 k3 k4; clear b2 S1)
      | (go_at_call_of 14 (Value.slice x n cap); refine (HF1.out _ B2.out).mono ?_; rintro e w3 ⟨v, rfl, hO, b3⟩; obtain ⟨y1, c1, rfl, -, -, -, -⟩ := hO.form; have B3 := Lib.hid (below_then B2.out b3); have S3 := Lib.hid (S2.out.then b3); obtain ⟨q0, q1, q2, q3, q4⟩ := S3.out; dsimp only at q0 q1 q2 q3 q4; rw [HL.out]; clear b3 hO k0 k1 k2 k3 k4)
      | (go_at_call 14; refine (HF2.out _ B3.out).mono ?_; rintro e w4 ⟨v, rfl, hO, b4⟩; obtain ⟨y2, c2, rfl, -, -, -, -⟩ := hO.form; have B4 := Lib.hid (below_then B3.out b4); simp only [List.length_nil]; clear b4 hO))
    go_ret
    exact ⟨rfl, B4.out⟩
  · rw [Stp.wL_no h1] at HF1
    have t1 : (Stp.wE p xa s xs != 0) = true := bne_iff_ne.2 h1
    generalize Stp.wE p xa s xs = er at HF1 t1
    generalize Stp.wL p xa inv s ys = gs at HF2
    generalize Stp.wE p xa s ys = er2 at HF2
    clear H hG hx hy hw hw' hE h1 hml hml' hax hs
    obtain ⟨sax, stw, sr, sl, sm⟩ := s
    unfold spV at HF1 HF2 ⊢
    dsimp only at HB HS HV HF1 HF2 ⊢
    go_enter Tryd.func7, Tryd.ntmps7
    go_wp2_with (first
      | (go_at_call 12; refine HV.out.mono ?_; rintro e w1 ⟨rfl, b1⟩; have B1 := Lib.hid (below_then HB.out b1); have S1 := Lib.hid (HS.out.then b1); clear b1 HS)
      | (go_at_call 13; refine (HFew.out _ B1.out).mono ?_; rintro e w2 ⟨rfl, b2⟩; have B2 := Lib.hid (below_then B1.out b2); have S2 := Lib.hid (S1.out.then b2); obtain ⟨k0, k1, k2, k3, k4⟩ := S2.out; dsimp only at k0 k1 k2 k3 k4; clear b2 S1)
      | (go_at_call_of 14 (Value.slice x n cap); refine (HF1.out _ B2.out).mono ?_; rintro e w3 ⟨v, rfl, hO, b3⟩; obtain ⟨y1, c1, rfl, -, -, -, -⟩ := hO.form; have B3 := Lib.hid (below_then B2.out b3); have S3 := Lib.hid (S2.out.then b3); obtain ⟨q0, q1, q2, q3, q4⟩ := S3.out; dsimp only at q0 q1 q2 q3 q4; simp only [List.length_nil]; clear b3 hO k0 k1 k2 k3 k4)
      | (go_at_call 14; refine (HF2.out _ B3.out).mono ?_; rintro e w4 ⟨v, rfl, hO, b4⟩; have B4 := Lib.hid (below_then B3.out b4); clear b4 hO))
    go_ret
    exact ⟨rfl, B4.out⟩

set_option maxRecDepth 100000 in
set_option maxHeartbeats 4000000 in
theorem stepsums_yes {G : World → Prop} (H : StepHas G) (p : Int) (ax : Option Addr) (na acap : Nat) (xa : List Ax) (inv : Bool) (s : Sp) (x y : Option Addr) (n cap cap' : Nat) (xs ys : List Int) (c : Int) (w : World) (hG : G w) (hax : ReadsA w w.heap.size ax xa) (hna : xa.length = na) (hlb : na ≤ 8796093022208) (hs : SpIn s)
    (hx : Reads .u64 w w.heap.size x xs) (hy : Reads .u64 w w.heap.size y ys) (hn : xs.length = n) (hm : ys.length = n) (hw : Words xs) (hw' : Words ys) (hl : n ≤ 40) (c0 : 0 ≤ c) (c1 : c < 18446744073709551616) (h : Stp.Wok p xa s xs) (h' : Stp.Wok p xa s ys) :
    Calls Tryd.prog 7 #[.int .u64 p, .slice ax na acap, .bool inv, spV s, .slice x n cap, .slice y n cap', .int .u64 c] w fun e w' => e = .returned (.bool true) ∧ Below w.heap.size w w' := by
  have hdl : decide (40 < (n : Int)) = false := by simp; omega
  have hnn := len_same (n : Int)
  have hml : n ≤ maxLen := by unfold maxLen; omega
  have l1 := h.le
  rw [hn] at l1
  have hk := h.ok.ax.kn
  have HB := Lib.hid (below_al (Below.refl _ w) (.cells #[.int .i64 s.ax, .bool s.tw, .int .i64 s.st.r, .int .i64 s.st.l, .int .i64 s.st.m] 27))
  have HSp := Lib.hid (SpAt.new w 27 s)
  have HV := Lib.hid (live16_any H _ (H.keep hG HB.out))
  obtain ⟨b, HFew⟩ := few_any ax na acap xa 32 w hax hna hlb
  have HF1 := Lib.hid (fun W (hB : Below w.heap.size w W) => H.doo p ax na acap xa inv s x n cap xs W (H.keep hG hB) ((hax.below hB).more hB.size) hna hlb hs ((hx.below hB).more hB.size) hn hw hml)
  have HF2 := Lib.hid (fun W (hB : Below w.heap.size w W) => H.doo p ax na acap xa inv s y n cap' ys W (H.keep hG hB) ((hax.below hB).more hB.size) hna hlb hs ((hy.below hB).more hB.size) hm hw' hml)
  cases b
  · clear HF1 HF2 hx hy hG hw hw' hm hn hml hax H h h'
    obtain ⟨sax, stw, sr, sl, sm⟩ := s
    unfold spV
    dsimp only at HB HSp HV ⊢
    go_enter Tryd.func7, Tryd.ntmps7
    go_wp2_with (first
      | (go_at_call 12; refine HV.out.mono ?_; rintro e w1 ⟨rfl, b1⟩; have B1 := Lib.hid (below_then HB.out b1); clear b1)
      | (go_at_call 13; refine (HFew.out _ B1.out).mono ?_; rintro e w2 ⟨rfl, b2⟩; have B2 := Lib.hid (below_then B1.out b2); clear b2))
    go_ret
    exact ⟨rfl, B2.out⟩
  have hzl : (Stp.lin p c xs ys).length = n := by simp [Stp.lin, hn]
  have hzn := Stp.lin_nums hk c xs ys
  have hz : Stp.Wok p xa s (Stp.lin p c xs ys) := h.other (by rw [hzl, hn]) (fun j _ => (hzn j).2)
  have HF3 := Lib.hid (fun W z c3 (hB : Below w.heap.size w W) (hr : Reads .u64 W W.heap.size z (Stp.lin p c xs ys)) => H.doo p ax na acap xa inv s z n c3 _ W (H.keep hG hB) ((hax.below hB).more hB.size) hna hlb hs hr hzl (hzn.words hk) hml)
  rw [h.zero, h.wL] at HF1
  rw [h'.zero, h'.wL] at HF2
  rw [hz.zero, hz.wL] at HF3
  have HS : Hid (∀ k, k < n → (Stp.stp p xa inv s (Stp.lin p c xs ys)).getD k 0 = Fp.add p (Fp.mul p c ((Stp.stp p xa inv s xs).getD k 0)) ((Stp.stp p xa inv s ys).getD k 0)) := Lib.hid (fun k hk => Stp.stp_lin h (by rw [hm, hn]) c (by rw [hn]; exact hk))
  have HW1 := Lib.hid (Stp.stp_words hk xa inv s xs)
  have HW2 := Lib.hid (Stp.stp_words hk xa inv s ys)
  have L1 : Hid ((Stp.stp p xa inv s xs).length = n) := Lib.hid (by rw [Stp.stp_len, hn])
  have L2 : Hid ((Stp.stp p xa inv s ys).length = n) := Lib.hid (by rw [Stp.stp_len, hm])
  have L3 : Hid ((Stp.stp p xa inv s (Stp.lin p c xs ys)).length = n) := Lib.hid (by rw [Stp.stp_len, hzl])
  have HX := Lib.hid hx
  have HY := Lib.hid hy
  have HW := Lib.hid hw
  have HW' := Lib.hid hw'
  have HN := Lib.hid hn
  have HM := Lib.hid hm
  have HDL : Hid (∀ k, (List.range (k + 1)).map (fun j => Fp.add p (Fp.mul p c (xs.getD j 0)) (ys.getD j 0)) = (List.range k).map (fun j => Fp.add p (Fp.mul p c (xs.getD j 0)) (ys.getD j 0)) ++ [Fp.add p (Fp.mul p c (xs.getD k 0)) (ys.getD k 0)]) := Lib.hid (fun k => range_snoc _ k)
  obtain ⟨i0, hi, hz0, hz1, hz2⟩ := info_parts info_u64
  have hmx : Tryd.prog.follows .mixedOrders = true := by kernel_rfl
  have hdef : Stp.lin p c xs ys = (List.range n).map (fun j => Fp.add p (Fp.mul p c (xs.getD j 0)) (ys.getD j 0)) := by unfold Stp.lin; rw [hn]
  generalize Stp.stp p xa inv s (Stp.lin p c xs ys) = ds at HF3 HS L3
  rw [hdef] at HF3
  generalize Stp.stp p xa inv s xs = ts at HF1 HS HW1 L1
  generalize Stp.stp p xa inv s ys = bs at HF2 HS HW2 L2
  clear H hG hx hy hw hw' h h' hz hzl hdef hn hm hml hzn hk hax hs
  obtain ⟨sax, stw, sr, sl, sm⟩ := s
  unfold spV at HF1 HF2 HF3 ⊢
  dsimp only at HB HSp HV HF1 HF2 HF3 ⊢
  go_enter Tryd.func7, Tryd.ntmps7
  go_wp2_with (first
    | (go_at_call 12; refine HV.out.mono ?_; rintro e w1 ⟨rfl, b1⟩; have B1 := Lib.hid (below_then HB.out b1); have S1 := Lib.hid (HSp.out.then b1); clear b1 HSp)
    | (go_at_call 13; refine (HFew.out _ B1.out).mono ?_; rintro e w2 ⟨rfl, b2⟩; have B2 := Lib.hid (below_then B1.out b2); have S2 := Lib.hid (S1.out.then b2); obtain ⟨k0, k1, k2, k3, k4⟩ := S2.out; dsimp only at k0 k1 k2 k3 k4; clear b2 S1)
    | (go_at_call_of 14 (Value.slice x n cap); refine (HF1.out _ B2.out).mono ?_; rintro e w3' ⟨v, rfl, hO, b3⟩; obtain ⟨y1, k1', rfl, -, -, hr, -⟩ := hO.form; have R1 := Lib.hid hr; have B3' := Lib.hid (below_then B2.out b3); have S3 := Lib.hid (S2.out.then b3); obtain ⟨q0, q1, q2, q3, q4⟩ := S3.out; dsimp only at q0 q1 q2 q3 q4; rw [L1.out]; clear b3 hO hr k0 k1 k2 k3 k4)
    | (go_at_call 14; refine (HF2.out _ B3'.out).mono ?_; rintro e w3 ⟨v, rfl, hO, b3⟩; obtain ⟨y2, k2', rfl, -, -, hr, -⟩ := hO.form; have R2 := Lib.hid hr; have B3 := Lib.hid (below_then B3'.out b3); rw [L2.out]; have S1 := Lib.hid ((R1.out.below b3).more b3.size); have Sp3 := Lib.hid (S3.out.then b3); clear b3 hO hr R1 q0 q1 q2 q3 q4))
  clear HF1 HF2 HV B1 B2 B3' S2 S3 HFew
  go_loopw [19, 75] (fun v i wr => ∃ (k : Nat) (o : Value), k ≤ n ∧ i = .int .i64 (k : Int) ∧ o = v ∧ Owns .u64 22 wr w3.heap.size o ((List.range k).map (fun j => Fp.add p (Fp.mul p c (xs.getD j 0)) (ys.getD j 0))) ∧ Below w3.heap.size w3 wr) (fun _ i _ => n - (intOf i).toNat)
  case atStart => exact ⟨0, _, Nat.zero_le _, rfl, rfl, Owns.nil, Below.refl _ _⟩
  case round =>
    obtain ⟨k, o, hk, rfl, rfl, hO, hB⟩ := hrel
    by_cases hlt : k < n
    · have hdk : decide (k < n) = true := by simpa using hlt
      have hBw := below_then B3.out hB
      obtain ⟨b, off, rfl, hb, hcx⟩ := HX.out (by have := HN.out; omega)
      obtain ⟨b', off', rfl, hb', hcy⟩ := HY.out (by have := HM.out; omega)
      have hx1 := (hBw.cell (p := ⟨b, off + k, none⟩) hb).trans (hcx k (by have := HN.out; omega))
      have hy1 := (hBw.cell (p := ⟨b', off' + k, none⟩) hb').trans (hcy k (by have := HM.out; omega))
      obtain ⟨u0, u1⟩ := HW.out k
      obtain ⟨v0, v1⟩ := HW'.out k
      have hD := HDL.out k
      have hL : ((List.range k).map (fun j => Fp.add p (Fp.mul p c (xs.getD j 0)) (ys.getD j 0))).length = k := by simp
      generalize hzs : (List.range k).map (fun j => Fp.add p (Fp.mul p c (xs.getD j 0)) (ys.getD j 0)) = zs at hO hD hL
      obtain ⟨u, hu⟩ : ∃ u, u = xs.getD k 0 := ⟨_, rfl⟩
      obtain ⟨v, hv⟩ : ∃ v, v = ys.getD k 0 := ⟨_, rfl⟩
      rw [← hu] at hx1 u0 u1 hD
      rw [← hv] at hy1 v0 v1 hD
      have HD := Lib.hid hD
      obtain ⟨m0, m1, -⟩ := Fp.mul_bd p c u
      have HO := Lib.hid hO
      have HB := Lib.hid hB
      have hO' : Hid (wr.ownsRow w3.heap.size 22 1 o zs.length (zs.map (Value.int .u64))) := Lib.hid hO
      have HL : Hid (zs.length = k) := Lib.hid hL
      clear hO hB hcx hcy hu hv hD hBw hzs hL
      go_wp2
      refine region_late (l1 := [_, _, _, _, _, _, _, _, _, _, _, _, _]) o (.slice (some ⟨wr.heap.size, 0, none⟩) 1 1) (.cells #[.int .u64 (Fp.add p (Fp.mul p c u) v)] 22) hmx (by kernel_rfl) (by kernel_rfl) ?_ ?_ ?_
      · intro k; go_simp
      · intro k; go_simp
      simp only [List.cons_append, List.nil_append, Act.put, List.setIfInBounds_toArray, List.set_cons_succ, List.set_cons_zero]
      repeat (go_big_quiet_step (first
        | (go_at_call 31; exact Calls.quiet_of (mul_any _ _ _ _ (by omega) (by omega) (by omega) (by omega)))
        | (go_at_call 30; exact Calls.quiet_of (add_any _ _ _ _ (by omega) (by omega) (by omega) (by omega)))))
      refine wpQuiet_nil ?_
      refine ⟨by kernel_rfl, fun k => ?_, fun nq => ?_⟩
      · go_simp
      have hsw : Hid (w3.heap.size ≤ wr.heap.size) := Lib.hid HB.out.size
      go_wp2_with (at_builtin; refine wpList_append_own _ rfl _ _ 28 rfl w3.heap.size 22 i0 (.int .u64 0) 1 8 Tryd.underlying28 hi hz0 hz1 hz2 rfl (by decide) _ _ _ rfl (World.ownsRow.alloc (w := wr.drewN nq) hO'.out _) ⟨wr.heap.size, 0, none⟩ 1 1 [.int .u64 (Fp.add p (Fp.mul p c u) v)] rfl rfl (cell_one_new _ _ _) (one_int _ _) (by rw [HL.out]; unfold maxLen; omega) (by rw [HL.out]; omega) (by have := hsw.out; simp; omega) ?_; intro v' w6 hown' hgrow _)
      go_roundw
      case rel =>
        refine ⟨k + 1, v', by omega, by go_num, rfl, ?_, ?_⟩
        · rw [HD.out]; exact Owns.push hown'
        · exact ((below_draws HB.out nq).alloc (by show _ ≤ wr.heap.size; exact HB.out.size) _).grown hgrow (Nat.le_trans HB.out.size (by simp)) HO.out.ownBlock
      case measure => simp [intOf]; omega
    · obtain rfl : k = n := by omega
      have B4 := Lib.hid (below_then B3.out hB)
      obtain ⟨z, kz, hz', -, -, hrz, -⟩ := hO.form
      rw [List.length_map, List.length_range] at hz'
      subst hz'
      have RZ := Lib.hid hrz
      have V1 := Lib.hid ((S1.out.below hB).more hB.size)
      have V2 := Lib.hid ((R2.out.below hB).more hB.size)
      obtain ⟨p0, p1, p2, p3, p4⟩ := Sp3.out.then hB
      dsimp only at p0 p1 p2 p3 p4
      clear hO hB hrz S1 R2 hi hz0 hz1 hz2 Sp3
      go_wp2_with (go_at_call 14; refine (HF3.out _ _ _ B4.out RZ.out).mono ?_; rintro e w7 ⟨v, rfl, hO, b7⟩; obtain ⟨y5, k5, rfl, -, -, hr, -⟩ := hO.form; have R5 := Lib.hid hr; have B7 := Lib.hid (below_then B4.out b7); rw [L3.out]; have X1 := Lib.hid ((V1.out.below b7).more b7.size); have X2 := Lib.hid ((V2.out.below b7).more b7.size); clear b7 hO hr RZ V1 V2 p0 p1 p2 p3 p4)
      go_loopw [129] (fun i wi => ∃ j q : Nat, j ≤ k ∧ i = .int .i64 (j : Int) ∧ wi = w7.drewN q) (fun i _ => k - (intOf i).toNat)
      case atStart => exact ⟨0, 0, Nat.zero_le _, rfl, rfl⟩
      case round =>
        obtain ⟨j, q, hj, rfl, hq⟩ := hrel
        by_cases hlj : j < k
        · have hdj : decide (j < k) = true := by simpa using hlj
          obtain ⟨d1, o1, rfl, -, hc1⟩ := X1.out (by rw [L1.out]; omega)
          obtain ⟨d2, o2, rfl, -, hc2⟩ := X2.out (by rw [L2.out]; omega)
          obtain ⟨d5, o5, rfl, -, hc5⟩ := R5.out (by rw [L3.out]; omega)
          have a1 := hc1 j (by rw [L1.out]; omega)
          have a2 := hc2 j (by rw [L2.out]; omega)
          have a5 := hc5 j (by rw [L3.out]; omega)
          rw [HS.out j hlj] at a5
          have hcq : ∀ ad, w7.cell? ad = wr.cell? ad := fun ad => by rw [hq]; rfl
          rw [hcq] at a1 a2 a5
          have HQ := Lib.hid hq
          clear hcq hq
          obtain ⟨r1, s1⟩ := HW1.out j
          obtain ⟨r2, s2⟩ := HW2.out j
          obtain ⟨u1, hu1⟩ : ∃ u, u = ts.getD j 0 := ⟨_, rfl⟩
          obtain ⟨u2, hu2⟩ : ∃ u, u = bs.getD j 0 := ⟨_, rfl⟩
          rw [← hu1] at a1 a5 r1 s1
          rw [← hu2] at a2 a5 r2 s2
          obtain ⟨m0, m1, -⟩ := Fp.mul_bd p c u1
          have n1 := len_same (Fp.add p (Fp.mul p c u1) u2)
          clear hc1 hc2 hc5 hu1 hu2
          go_wp2
          go_quiet (first
            | (go_at_call 31; exact Calls.quiet_of (mul_any _ _ _ _ (by omega) (by omega) (by omega) (by omega)))
            | (go_at_call 30; exact Calls.quiet_of (add_any _ _ _ _ (by omega) (by omega) (by omega) (by omega))))
          go_wp2
          go_roundw
          case rel => exact ⟨j + 1, _, by omega, by go_num, by rw [HQ.out, World.drewN_drewN]⟩
          case measure => simp [intOf]; omega
        · have HQ : Hid (Below w.heap.size w wr) := Lib.hid (by rw [hq]; exact below_draws B7.out _)
          clear hq
          go_wp2
          go_ret
          exact ⟨rfl, HQ.out⟩

theorem stepsums_walk {G : World → Prop} (H : StepHas G) (p : Int) (ax : Option Addr) (na acap : Nat) (xa : List Ax) (inv : Bool) (s : Sp) (x : Option Addr) (len cap : Nat) (zs : List Int) (y : Option Addr) (len' cap' : Nat) (zs' : List Int) (c : Int) (w : World) (_hp : (Lit.int .u64 p).wf = true) (hA : AxisIn w ax na acap xa) (hlb : na ≤ 8796093022208) (hs : SpIn s) (hr : RowIn .u64 w x len cap zs) (hr' : RowIn .u64 w y len' cap' zs') (hc : (Lit.int .u64 c).wf = true) (hG : G w) :
    Calls Tryd.prog 7 #[.int .u64 p, .slice ax na acap, .bool inv, spV s, .slice x len cap, .slice y len' cap', .int .u64 c] w fun e w' => e = .returned (.bool true) ∧ Below w.heap.size w w' := by
  obtain ⟨hna, -, -, hax, -⟩ := hA
  obtain ⟨xs, -, hn, hcp, hm, hx, hw⟩ := hr.reads
  obtain ⟨ys, -, hn', hcp', hm', hy, hw'⟩ := hr'.reads
  have hcb := bounds_u64 hc
  by_cases hE : Stp.wE p xa s xs ≠ 0 ∨ Stp.wE p xa s ys ≠ 0 ∨ 40 < len ∨ len ≠ len'
  · exact stepsums_no H p ax na acap xa inv s x y len cap len' cap' xs ys c w hG hax hna hlb hs hx hy hn hn' hw hw' (Nat.le_trans hcp hm) (Nat.le_trans hcp' hm') hE
  · have h1 : Stp.wE p xa s xs = 0 := Classical.byContradiction fun e => hE (.inl e)
    have h2 : Stp.wE p xa s ys = 0 := Classical.byContradiction fun e => hE (.inr (.inl e))
    obtain rfl : len = len' := by omega
    exact stepsums_yes H p ax na acap xa inv s x y len cap cap' xs ys c w hG hax hna hlb hs hx hy hn hn' hw hw' (by omega) (by omega) (by omega) (Stp.wE_zero h1) (Stp.wE_zero h2)

end Go.Proofs.YtphghklhknadoaaDoor
