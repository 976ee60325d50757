/-
  What fly's methods of a radix come to: five words.
-/
import Derived.Test.YtmcnamlgbkbiaaaDoorCirThree
namespace Go.Proofs.YtmcnamlgbkbiaaaDoor
open Go.RowKit Fly

theorem words4 {a b c d : Int} (ha : 0 ≤ a ∧ a < 18446744073709551616) (hb : 0 ≤ b ∧ b < 18446744073709551616) (hc : 0 ≤ c ∧ c < 18446744073709551616) (hd : 0 ≤ d ∧ d < 18446744073709551616) : Words [a, b, c, d] := fun j => by
  rcases j with _ | _ | _ | _ | j <;> simp [ha, hb, hc, hd]

set_option maxRecDepth 100000 in
set_option maxHeartbeats 8000000 in
theorem cfive_any (p a b c d e : Int) (inv : Bool) (y : Option Addr) (cy : Nat) (x : Option Addr) (cap : Nat) (w : World) (h : Rdx p 5) (hf : Fine p [a, b, c, d, e]) (hw : Words [a, b, c, d, e]) (hx : Reads .u64 w w.heap.size x [a, b, c, d, e]) (hy : Reads .u64 w w.heap.size y (ptL p inv 5)) :
    Calls Tryd.prog 51 #[.agg #[.int .u64 p, .slice y 5 cy], .slice x 5 cap] w (RetNums w (doL p inv [a, b, c, d, e])) := by
  rw [do5 h inv hf]
  unfold s5
  have H := Lib.hid h.kn
  obtain ⟨p1, p2⟩ := Fp.kn_bd h.kn
  have HW := Lib.hid hw
  obtain ⟨a0, a1⟩ := hw 0
  obtain ⟨b0, b1⟩ := hw 1
  obtain ⟨c0, c1⟩ := hw 2
  obtain ⟨d0, d1⟩ := hw 3
  obtain ⟨e0, e1⟩ := hw 4
  simp only [List.getD_cons_zero, List.getD_cons_succ] at a0 a1 b0 b1 c0 c1 d0 d1 e0 e1
  have HX := Lib.hid hx
  obtain ⟨g, off, rfl, hg, hc⟩ := hx (by simp)
  have HB := Lib.hid (below_al (Below.refl _ w) (.cells #[.int .u64 p, .slice y 5 cy] 48))
  have HY := Lib.hid ((hy.below HB.out).more HB.out.size)
  have HXW := Lib.hid ((HX.out.below HB.out).more HB.out.size)
  have hp := cir_p w 48 p (.slice y 5 cy)
  have hq := cir_l w 48 p (.slice y 5 cy)
  have hc0 : (w.alloc (.cells #[.int .u64 p, .slice y 5 cy] 48)).cell? ⟨g, off, none⟩ = some (.int .u64 a) := (HB.out.cell (p := ⟨g, off, none⟩) hg).trans (hc 0 (by simp))
  have hc1 : (w.alloc (.cells #[.int .u64 p, .slice y 5 cy] 48)).cell? ⟨g, off + 1, none⟩ = some (.int .u64 b) := (HB.out.cell (p := ⟨g, off + 1, none⟩) hg).trans (hc 1 (by simp))
  have hc2 : (w.alloc (.cells #[.int .u64 p, .slice y 5 cy] 48)).cell? ⟨g, off + 2, none⟩ = some (.int .u64 c) := (HB.out.cell (p := ⟨g, off + 2, none⟩) hg).trans (hc 2 (by simp))
  have hc3 : (w.alloc (.cells #[.int .u64 p, .slice y 5 cy] 48)).cell? ⟨g, off + 3, none⟩ = some (.int .u64 d) := (HB.out.cell (p := ⟨g, off + 3, none⟩) hg).trans (hc 3 (by simp))
  have hc4 : (w.alloc (.cells #[.int .u64 p, .slice y 5 cy] 48)).cell? ⟨g, off + 4, none⟩ = some (.int .u64 e) := (HB.out.cell (p := ⟨g, off + 4, none⟩) hg).trans (hc 4 (by simp))
  have hmx : Tryd.prog.follows .mixedOrders = true := by kernel_rfl
  have HMB : Hid (∀ i j, 0 ≤ Fp.mul p i j ∧ Fp.mul p i j < 18446744073709551616) := Lib.hid (fun i j => ⟨(Fp.mul_bd p i j).1, by have := (Fp.mul_bd p i j).2.1; omega⟩)
  obtain ⟨f0, hf0⟩ : ∃ f, f = Fp.sub p a e := ⟨_, rfl⟩
  have HF0 := Lib.hid hf0
  have hb0 : 0 ≤ f0 ∧ f0 < 18446744073709551616 := by rw [hf0]; exact ⟨(Fp.sub_bd _ _ _).1, by have := (Fp.sub_bd p a e).2.1; omega⟩
  rw [← hf0]
  obtain ⟨f1, hf1⟩ : ∃ f, f = Fp.sub p b e := ⟨_, rfl⟩
  have HF1 := Lib.hid hf1
  have hb1 : 0 ≤ f1 ∧ f1 < 18446744073709551616 := by rw [hf1]; exact ⟨(Fp.sub_bd _ _ _).1, by have := (Fp.sub_bd p b e).2.1; omega⟩
  rw [← hf1]
  obtain ⟨f2, hf2⟩ : ∃ f, f = Fp.sub p c e := ⟨_, rfl⟩
  have HF2 := Lib.hid hf2
  have hb2 : 0 ≤ f2 ∧ f2 < 18446744073709551616 := by rw [hf2]; exact ⟨(Fp.sub_bd _ _ _).1, by have := (Fp.sub_bd p c e).2.1; omega⟩
  rw [← hf2]
  obtain ⟨f3, hf3⟩ : ∃ f, f = Fp.sub p d e := ⟨_, rfl⟩
  have HF3 := Lib.hid hf3
  have hb3 : 0 ≤ f3 ∧ f3 < 18446744073709551616 := by rw [hf3]; exact ⟨(Fp.sub_bd _ _ _).1, by have := (Fp.sub_bd p d e).2.1; omega⟩
  rw [← hf3]
  obtain ⟨t, ht⟩ : ∃ t, t = pt p inv 5 := ⟨_, rfl⟩
  have HT : Hid (∀ (i : Int) (k : Nat) (a : Int) (W : World), i = (k : Int) → Reads .u64 W W.heap.size y (ptL p inv 5) → k < 5 → 0 ≤ a ∧ a < 18446744073709551616 →
      Calls Tryd.prog 62 #[.agg #[.int .u64 p, .slice y 5 cy], .int .i64 i, .int .u64 a] W (RetB (.int .u64 (Fp.mul p (t k) a)) W)) := Lib.hid (fun i k a W hi hr hk ha => by
    rw [ht]
    exact ctpt_any p i a inv 5 k y cy W hi hr hk (by omega) ha.1 ha.2)
  rw [← ht]
  clear hc hx h hf hw hf0 hf1 hf2 hf3 HX hy ht
  go_enter Tryd.func51, Tryd.ntmps51
  go_wp2
  obtain ⟨W, hW⟩ : ∃ W, W = w.alloc (.cells #[.int .u64 p, .slice y 5 cy] 48) := ⟨_, rfl⟩
  rw [← hW] at hp hq hc0 hc1 hc2 hc3 hc4 HB HY HXW ⊢
  clear hW
  have kp := fun s : Since W => s.at hp
  have kq := fun s : Since W => s.at hq
  have k0 := fun s : Since W => s.at hc0
  have k1 := fun s : Since W => s.at hc1
  have k2 := fun s : Since W => s.at hc2
  have k3 := fun s : Since W => s.at hc3
  have k4 := fun s : Since W => s.at hc4
  refine wp_region_since (by kernel_rfl) (by kernel_rfl) ?_
  repeat (go_big_quiet_step (first | (go_at_call 61; rename_i s; exact since_call s (cless_any _ _ _ _ _ _ _ (by omega) (by omega) (by omega) (by omega)))))
  refine wpQuiet_nil ?_
  rw [← HF0.out, ← HF1.out, ← HF2.out, ← HF3.out]
  rintro W1 ⟨⟨_, hB1⟩, rfl⟩
  clear kp kq k0 k1 k2 k3 k4 hc0 hc1 hc2 hc3 hc4
  replace hp := (Since.mk W1 hB1).at hp
  replace hq := (Since.mk W1 hB1).at hq
  dsimp only at hp hq
  replace HB := Lib.hid (below_then HB.out hB1)
  replace HY := Lib.hid ((HY.out.below hB1).more hB1.size)
  replace HXW := Lib.hid ((HXW.out.below hB1).more hB1.size)
  clear hB1
  go_wp2
  have kp := fun s : Since W1 => s.at hp
  have kq := fun s : Since W1 => s.at hq
  have hS0 : Below W1.heap.size W1 W1.drew := draws_below _ W1 1
  refine region_readsL (C := fun w' => ∃ s : Since W1, w' = s.out) [0, 1, 3, 4, 5, 6, 8, 9, 11, 12, 16, 17, 18, 19, 21, 22, 24, 25, 29, 30, 31, 32, 34, 35, 37, 38, 42, 43, 44, 45, 47, 48, 50, 51] hmx (by kernel_rfl) rfl (by kernel_rfl) ⟨⟨_, hS0⟩, rfl⟩ ?_
  simp only [List.map_cons, List.map_nil, List.getD_cons_zero, List.getD_cons_succ]
  repeat (go_big_quiet_step (skip))
  refine wpQuiet_nil ?_
  clear kp kq hp hq
  show anyC _ _ _ _ _ 56 23 _ _ _
  obtain ⟨W0, hW0⟩ : ∃ W0, W0 = W1.drew := ⟨_, rfl⟩
  rw [← hW0] at hS0 ⊢
  clear hW0
  have HYZ := Lib.hid ((HY.out.below hS0).more hS0.size)
  have HXZ := Lib.hid ((HXW.out.below hS0).more hS0.size)
  clear HY HXW
  refine anyC_one (i := 2) (by kernel_rfl) (wpOp_of_list rfl ?_)
  go_wp2_with (go_at_call 60; refine (cirsum_any p _ _ _ _ _ _ [a, b, c, d, e] _ H.out HXZ.out rfl HW.out (by unfold maxLen; simp)).mono ?_; rintro e W2 ⟨rfl, hb⟩)
  have hS2 := below_then hS0 hb
  have HY2 := Lib.hid ((HYZ.out.below hb).more hb.size)
  refine ⟨rfl, fun _ => ⟨⟨_, hS2⟩, rfl⟩, ?_⟩
  clear hb
  refine anyC_one (i := 7) (by kernel_rfl) (wpOp_of_list rfl ?_)
  go_wp2_with (go_at_call 62; refine (HT.out _ 1 _ _ rfl HY2.out (by omega) hb1).mono ?_; rintro e W3 ⟨rfl, hb⟩)
  have hS3 := below_then hS2 hb
  have HY3 := Lib.hid ((HY2.out.below hb).more hb.size)
  clear hb HY2
  refine ⟨rfl, fun _ => ⟨⟨_, hS3⟩, rfl⟩, ?_⟩
  clear hS2
  refine anyC_one (i := 10) (by kernel_rfl) (wpOp_of_list rfl ?_)
  go_wp2_with (go_at_call 62; refine (HT.out _ 2 _ _ rfl HY3.out (by omega) hb2).mono ?_; rintro e W4 ⟨rfl, hb⟩)
  have hS4 := below_then hS3 hb
  have HY4 := Lib.hid ((HY3.out.below hb).more hb.size)
  clear hb HY3
  refine ⟨rfl, fun _ => ⟨⟨_, hS4⟩, rfl⟩, ?_⟩
  clear hS3
  refine anyC_one (i := 13) (by kernel_rfl) (wpOp_of_list rfl ?_)
  go_wp2_with (go_at_call 62; refine (HT.out _ 3 _ _ rfl HY4.out (by omega) hb3).mono ?_; rintro e W5 ⟨rfl, hb⟩)
  have hS5 := below_then hS4 hb
  have HY5 := Lib.hid ((HY4.out.below hb).more hb.size)
  clear hb HY4
  refine ⟨rfl, fun _ => ⟨⟨_, hS5⟩, rfl⟩, ?_⟩
  clear hS4
  refine anyC_one (i := 14) (by kernel_rfl) (wpOp_of_list rfl ?_)
  go_wp2
  have hS6 := below_al hS5 (.cells #[.int .u64 f0, .int .u64 (Fp.mul p (t 1) f1), .int .u64 (Fp.mul p (t 2) f2), .int .u64 (Fp.mul p (t 3) f3)] 22)
  have HR6 := Lib.hid (nums_reads W5 22 [f0, Fp.mul p (t 1) f1, Fp.mul p (t 2) f2, Fp.mul p (t 3) f3])
  refine ⟨rfl, fun _ => ⟨⟨_, hS6⟩, rfl⟩, ?_⟩
  obtain ⟨W6, hW6⟩ : ∃ W6, W6 = W5.alloc (.cells #[.int .u64 f0, .int .u64 (Fp.mul p (t 1) f1), .int .u64 (Fp.mul p (t 2) f2), .int .u64 (Fp.mul p (t 3) f3)] 22) := ⟨_, rfl⟩
  rw [← hW6] at hS6 ⊢
  replace HR6 : Hid (Reads .u64 W6 W6.heap.size (some ⟨W5.heap.size, 0, none⟩) [f0, Fp.mul p (t 1) f1, Fp.mul p (t 2) f2, Fp.mul p (t 3) f3]) := Lib.hid (by rw [hW6]; exact HR6.out)
  have hb : Below W5.heap.size W5 W6 := by rw [hW6]; exact below_al (Below.refl _ _) _
  have HY6 := Lib.hid ((HY5.out.below hb).more hb.size)
  clear hb HY5 hW6 hS5
  refine anyC_one (i := 15) (by kernel_rfl) (wpOp_of_list rfl ?_)
  go_wp2_with (go_at_call 60; refine (cirsum_any p _ _ _ _ _ _ [f0, Fp.mul p (t 1) f1, Fp.mul p (t 2) f2, Fp.mul p (t 3) f3] _ H.out HR6.out rfl (words4 hb0 (HMB.out _ _) (HMB.out _ _) (HMB.out _ _)) (by unfold maxLen; simp)).mono ?_; rintro e W7 ⟨rfl, hb⟩)
  have hS7 := below_then hS6 hb
  have HY7 := Lib.hid ((HY6.out.below hb).more hb.size)
  clear hb HY6 HR6
  refine ⟨rfl, fun _ => ⟨⟨_, hS7⟩, rfl⟩, ?_⟩
  clear hS6
  refine anyC_one (i := 20) (by kernel_rfl) (wpOp_of_list rfl ?_)
  go_wp2_with (go_at_call 62; refine (HT.out _ 2 _ _ rfl HY7.out (by omega) hb1).mono ?_; rintro e W8 ⟨rfl, hb⟩)
  have hS8 := below_then hS7 hb
  have HY8 := Lib.hid ((HY7.out.below hb).more hb.size)
  clear hb HY7
  refine ⟨rfl, fun _ => ⟨⟨_, hS8⟩, rfl⟩, ?_⟩
  clear hS7
  refine anyC_one (i := 23) (by kernel_rfl) (wpOp_of_list rfl ?_)
  go_wp2_with (go_at_call 62; refine (HT.out _ 4 _ _ rfl HY8.out (by omega) hb2).mono ?_; rintro e W9 ⟨rfl, hb⟩)
  have hS9 := below_then hS8 hb
  have HY9 := Lib.hid ((HY8.out.below hb).more hb.size)
  clear hb HY8
  refine ⟨rfl, fun _ => ⟨⟨_, hS9⟩, rfl⟩, ?_⟩
  clear hS8
  refine anyC_one (i := 26) (by kernel_rfl) (wpOp_of_list rfl ?_)
  go_wp2_with (go_at_call 62; refine (HT.out _ 1 _ _ rfl HY9.out (by omega) hb3).mono ?_; rintro e W10 ⟨rfl, hb⟩)
  have hS10 := below_then hS9 hb
  have HY10 := Lib.hid ((HY9.out.below hb).more hb.size)
  clear hb HY9
  refine ⟨rfl, fun _ => ⟨⟨_, hS10⟩, rfl⟩, ?_⟩
  clear hS9
  refine anyC_one (i := 27) (by kernel_rfl) (wpOp_of_list rfl ?_)
  go_wp2
  have hS11 := below_al hS10 (.cells #[.int .u64 f0, .int .u64 (Fp.mul p (t 2) f1), .int .u64 (Fp.mul p (t 4) f2), .int .u64 (Fp.mul p (t 1) f3)] 22)
  have HR11 := Lib.hid (nums_reads W10 22 [f0, Fp.mul p (t 2) f1, Fp.mul p (t 4) f2, Fp.mul p (t 1) f3])
  refine ⟨rfl, fun _ => ⟨⟨_, hS11⟩, rfl⟩, ?_⟩
  obtain ⟨W11, hW11⟩ : ∃ W11, W11 = W10.alloc (.cells #[.int .u64 f0, .int .u64 (Fp.mul p (t 2) f1), .int .u64 (Fp.mul p (t 4) f2), .int .u64 (Fp.mul p (t 1) f3)] 22) := ⟨_, rfl⟩
  rw [← hW11] at hS11 ⊢
  replace HR11 : Hid (Reads .u64 W11 W11.heap.size (some ⟨W10.heap.size, 0, none⟩) [f0, Fp.mul p (t 2) f1, Fp.mul p (t 4) f2, Fp.mul p (t 1) f3]) := Lib.hid (by rw [hW11]; exact HR11.out)
  have hb : Below W10.heap.size W10 W11 := by rw [hW11]; exact below_al (Below.refl _ _) _
  have HY11 := Lib.hid ((HY10.out.below hb).more hb.size)
  clear hb HY10 hW11 hS10
  refine anyC_one (i := 28) (by kernel_rfl) (wpOp_of_list rfl ?_)
  go_wp2_with (go_at_call 60; refine (cirsum_any p _ _ _ _ _ _ [f0, Fp.mul p (t 2) f1, Fp.mul p (t 4) f2, Fp.mul p (t 1) f3] _ H.out HR11.out rfl (words4 hb0 (HMB.out _ _) (HMB.out _ _) (HMB.out _ _)) (by unfold maxLen; simp)).mono ?_; rintro e W12 ⟨rfl, hb⟩)
  have hS12 := below_then hS11 hb
  have HY12 := Lib.hid ((HY11.out.below hb).more hb.size)
  clear hb HY11 HR11
  refine ⟨rfl, fun _ => ⟨⟨_, hS12⟩, rfl⟩, ?_⟩
  clear hS11
  refine anyC_one (i := 33) (by kernel_rfl) (wpOp_of_list rfl ?_)
  go_wp2_with (go_at_call 62; refine (HT.out _ 3 _ _ rfl HY12.out (by omega) hb1).mono ?_; rintro e W13 ⟨rfl, hb⟩)
  have hS13 := below_then hS12 hb
  have HY13 := Lib.hid ((HY12.out.below hb).more hb.size)
  clear hb HY12
  refine ⟨rfl, fun _ => ⟨⟨_, hS13⟩, rfl⟩, ?_⟩
  clear hS12
  refine anyC_one (i := 36) (by kernel_rfl) (wpOp_of_list rfl ?_)
  go_wp2_with (go_at_call 62; refine (HT.out _ 1 _ _ rfl HY13.out (by omega) hb2).mono ?_; rintro e W14 ⟨rfl, hb⟩)
  have hS14 := below_then hS13 hb
  have HY14 := Lib.hid ((HY13.out.below hb).more hb.size)
  clear hb HY13
  refine ⟨rfl, fun _ => ⟨⟨_, hS14⟩, rfl⟩, ?_⟩
  clear hS13
  refine anyC_one (i := 39) (by kernel_rfl) (wpOp_of_list rfl ?_)
  go_wp2_with (go_at_call 62; refine (HT.out _ 4 _ _ rfl HY14.out (by omega) hb3).mono ?_; rintro e W15 ⟨rfl, hb⟩)
  have hS15 := below_then hS14 hb
  have HY15 := Lib.hid ((HY14.out.below hb).more hb.size)
  clear hb HY14
  refine ⟨rfl, fun _ => ⟨⟨_, hS15⟩, rfl⟩, ?_⟩
  clear hS14
  refine anyC_one (i := 40) (by kernel_rfl) (wpOp_of_list rfl ?_)
  go_wp2
  have hS16 := below_al hS15 (.cells #[.int .u64 f0, .int .u64 (Fp.mul p (t 3) f1), .int .u64 (Fp.mul p (t 1) f2), .int .u64 (Fp.mul p (t 4) f3)] 22)
  have HR16 := Lib.hid (nums_reads W15 22 [f0, Fp.mul p (t 3) f1, Fp.mul p (t 1) f2, Fp.mul p (t 4) f3])
  refine ⟨rfl, fun _ => ⟨⟨_, hS16⟩, rfl⟩, ?_⟩
  obtain ⟨W16, hW16⟩ : ∃ W16, W16 = W15.alloc (.cells #[.int .u64 f0, .int .u64 (Fp.mul p (t 3) f1), .int .u64 (Fp.mul p (t 1) f2), .int .u64 (Fp.mul p (t 4) f3)] 22) := ⟨_, rfl⟩
  rw [← hW16] at hS16 ⊢
  replace HR16 : Hid (Reads .u64 W16 W16.heap.size (some ⟨W15.heap.size, 0, none⟩) [f0, Fp.mul p (t 3) f1, Fp.mul p (t 1) f2, Fp.mul p (t 4) f3]) := Lib.hid (by rw [hW16]; exact HR16.out)
  have hb : Below W15.heap.size W15 W16 := by rw [hW16]; exact below_al (Below.refl _ _) _
  have HY16 := Lib.hid ((HY15.out.below hb).more hb.size)
  clear hb HY15 hW16 hS15
  refine anyC_one (i := 41) (by kernel_rfl) (wpOp_of_list rfl ?_)
  go_wp2_with (go_at_call 60; refine (cirsum_any p _ _ _ _ _ _ [f0, Fp.mul p (t 3) f1, Fp.mul p (t 1) f2, Fp.mul p (t 4) f3] _ H.out HR16.out rfl (words4 hb0 (HMB.out _ _) (HMB.out _ _) (HMB.out _ _)) (by unfold maxLen; simp)).mono ?_; rintro e W17 ⟨rfl, hb⟩)
  have hS17 := below_then hS16 hb
  have HY17 := Lib.hid ((HY16.out.below hb).more hb.size)
  clear hb HY16 HR16
  refine ⟨rfl, fun _ => ⟨⟨_, hS17⟩, rfl⟩, ?_⟩
  clear hS16
  refine anyC_one (i := 46) (by kernel_rfl) (wpOp_of_list rfl ?_)
  go_wp2_with (go_at_call 62; refine (HT.out _ 4 _ _ rfl HY17.out (by omega) hb1).mono ?_; rintro e W18 ⟨rfl, hb⟩)
  have hS18 := below_then hS17 hb
  have HY18 := Lib.hid ((HY17.out.below hb).more hb.size)
  clear hb HY17
  refine ⟨rfl, fun _ => ⟨⟨_, hS18⟩, rfl⟩, ?_⟩
  clear hS17
  refine anyC_one (i := 49) (by kernel_rfl) (wpOp_of_list rfl ?_)
  go_wp2_with (go_at_call 62; refine (HT.out _ 3 _ _ rfl HY18.out (by omega) hb2).mono ?_; rintro e W19 ⟨rfl, hb⟩)
  have hS19 := below_then hS18 hb
  have HY19 := Lib.hid ((HY18.out.below hb).more hb.size)
  clear hb HY18
  refine ⟨rfl, fun _ => ⟨⟨_, hS19⟩, rfl⟩, ?_⟩
  clear hS18
  refine anyC_one (i := 52) (by kernel_rfl) (wpOp_of_list rfl ?_)
  go_wp2_with (go_at_call 62; refine (HT.out _ 2 _ _ rfl HY19.out (by omega) hb3).mono ?_; rintro e W20 ⟨rfl, hb⟩)
  have hS20 := below_then hS19 hb
  have HY20 := Lib.hid ((HY19.out.below hb).more hb.size)
  clear hb HY19
  refine ⟨rfl, fun _ => ⟨⟨_, hS20⟩, rfl⟩, ?_⟩
  clear hS19
  refine anyC_one (i := 53) (by kernel_rfl) (wpOp_of_list rfl ?_)
  go_wp2
  have hS21 := below_al hS20 (.cells #[.int .u64 f0, .int .u64 (Fp.mul p (t 4) f1), .int .u64 (Fp.mul p (t 3) f2), .int .u64 (Fp.mul p (t 2) f3)] 22)
  have HR21 := Lib.hid (nums_reads W20 22 [f0, Fp.mul p (t 4) f1, Fp.mul p (t 3) f2, Fp.mul p (t 2) f3])
  refine ⟨rfl, fun _ => ⟨⟨_, hS21⟩, rfl⟩, ?_⟩
  obtain ⟨W21, hW21⟩ : ∃ W21, W21 = W20.alloc (.cells #[.int .u64 f0, .int .u64 (Fp.mul p (t 4) f1), .int .u64 (Fp.mul p (t 3) f2), .int .u64 (Fp.mul p (t 2) f3)] 22) := ⟨_, rfl⟩
  rw [← hW21] at hS21 ⊢
  replace HR21 : Hid (Reads .u64 W21 W21.heap.size (some ⟨W20.heap.size, 0, none⟩) [f0, Fp.mul p (t 4) f1, Fp.mul p (t 3) f2, Fp.mul p (t 2) f3]) := Lib.hid (by rw [hW21]; exact HR21.out)
  have hb : Below W20.heap.size W20 W21 := by rw [hW21]; exact below_al (Below.refl _ _) _
  have HY21 := Lib.hid ((HY20.out.below hb).more hb.size)
  clear hb HY20 hW21 hS20
  refine anyC_one (i := 54) (by kernel_rfl) (wpOp_of_list rfl ?_)
  go_wp2_with (go_at_call 60; refine (cirsum_any p _ _ _ _ _ _ [f0, Fp.mul p (t 4) f1, Fp.mul p (t 3) f2, Fp.mul p (t 2) f3] _ H.out HR21.out rfl (words4 hb0 (HMB.out _ _) (HMB.out _ _) (HMB.out _ _)) (by unfold maxLen; simp)).mono ?_; rintro e W22 ⟨rfl, hb⟩)
  have hS22 := below_then hS21 hb
  have HY22 := Lib.hid ((HY21.out.below hb).more hb.size)
  clear hb HY21 HR21
  refine ⟨rfl, fun _ => ⟨⟨_, hS22⟩, rfl⟩, ?_⟩
  clear hS21
  refine anyC_one (i := 55) (by kernel_rfl) (wpOp_of_list rfl ?_)
  go_wp2
  have hS23 := below_al hS22 (.cells #[.int .u64 (smL p [a, b, c, d, e]), .int .u64 (smL p [f0, Fp.mul p (t 1) f1, Fp.mul p (t 2) f2, Fp.mul p (t 3) f3]), .int .u64 (smL p [f0, Fp.mul p (t 2) f1, Fp.mul p (t 4) f2, Fp.mul p (t 1) f3]), .int .u64 (smL p [f0, Fp.mul p (t 3) f1, Fp.mul p (t 1) f2, Fp.mul p (t 4) f3]), .int .u64 (smL p [f0, Fp.mul p (t 4) f1, Fp.mul p (t 3) f2, Fp.mul p (t 2) f3])] 22)
  refine ⟨rfl, fun _ => ⟨⟨_, hS23⟩, rfl⟩, ?_⟩
  refine anyC_one (i := 56) (by kernel_rfl) (wpOp_of_list rfl ?_)
  go_wp2
  refine ⟨rfl, fun h => absurd rfl h, anyC_end (by kernel_rfl) ⟨rfl, ?_⟩⟩
  go_wp2
  go_ret
  have hz : w.heap.size ≤ W22.heap.size := (below_then HB.out hS22).size
  exact ⟨_, rfl, nums_owns W22 [smL p [a, b, c, d, e], smL p [f0, Fp.mul p (t 1) f1, Fp.mul p (t 2) f2, Fp.mul p (t 3) f3], smL p [f0, Fp.mul p (t 2) f1, Fp.mul p (t 4) f2, Fp.mul p (t 1) f3], smL p [f0, Fp.mul p (t 3) f1, Fp.mul p (t 1) f2, Fp.mul p (t 4) f3], smL p [f0, Fp.mul p (t 4) f1, Fp.mul p (t 3) f2, Fp.mul p (t 2) f3]] _ hz (by unfold maxLen; simp), below_then HB.out hS23⟩

end Go.Proofs.YtmcnamlgbkbiaaaDoor
