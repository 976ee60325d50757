/-
  What fly's methods of a radix come to: four words.
-/
import Derived.Test.YtmcnamlgbkbiaaaDoorCirThree
import Derived.Deep.CutRange
namespace Go.Proofs.YtmcnamlgbkbiaaaDoor
open Go.RowKit Fly

set_option maxRecDepth 100000 in
set_option maxHeartbeats 8000000 in
theorem cfour_any (p a b c d : Int) (inv : Bool) (y : Option Addr) (cy : Nat) (x : Option Addr) (cap : Nat) (w : World) (h : Rdx p 4) (hf : Fine p [a, b, c, d]) (hw : Words [a, b, c, d]) (hx : Reads .u64 w w.heap.size x [a, b, c, d]) (hy : Reads .u64 w w.heap.size y (ptL p inv 4)) :
    Calls Tryd.prog 50 #[.agg #[.int .u64 p, .slice y 4 cy], .slice x 4 cap] w (RetNums w (doL p inv [a, b, c, d])) := by
  rw [do4 h inv hf]
  have H := Lib.hid h.kn
  obtain ⟨p1, p2⟩ := Fp.kn_bd h.kn
  obtain ⟨a0, a1⟩ := hw 0
  obtain ⟨b0, b1⟩ := hw 1
  obtain ⟨c0, c1⟩ := hw 2
  obtain ⟨d0, d1⟩ := hw 3
  simp only [List.getD_cons_zero, List.getD_cons_succ] at a0 a1 b0 b1 c0 c1 d0 d1
  have HX := Lib.hid hx
  obtain ⟨g, off, rfl, hg, hc⟩ := hx (by simp)
  have HB := Lib.hid (below_al (Below.refl _ w) (.cells #[.int .u64 p, .slice y 4 cy] 48))
  have HY := Lib.hid ((hy.below HB.out).more HB.out.size)
  have hp := cir_p w 48 p (.slice y 4 cy)
  have hq := cir_l w 48 p (.slice y 4 cy)
  have hc0 : (w.alloc (.cells #[.int .u64 p, .slice y 4 cy] 48)).cell? ⟨g, off, none⟩ = some (.int .u64 a) := (HB.out.cell (p := ⟨g, off, none⟩) hg).trans (hc 0 (by simp))
  have hc1 : (w.alloc (.cells #[.int .u64 p, .slice y 4 cy] 48)).cell? ⟨g, off + 1, none⟩ = some (.int .u64 b) := (HB.out.cell (p := ⟨g, off + 1, none⟩) hg).trans (hc 1 (by simp))
  have hc2 : (w.alloc (.cells #[.int .u64 p, .slice y 4 cy] 48)).cell? ⟨g, off + 2, none⟩ = some (.int .u64 c) := (HB.out.cell (p := ⟨g, off + 2, none⟩) hg).trans (hc 2 (by simp))
  have hc3 : (w.alloc (.cells #[.int .u64 p, .slice y 4 cy] 48)).cell? ⟨g, off + 3, none⟩ = some (.int .u64 d) := (HB.out.cell (p := ⟨g, off + 3, none⟩) hg).trans (hc 3 (by simp))
  have hmx : Tryd.prog.follows .mixedOrders = true := by kernel_rfl
  obtain ⟨u, hu⟩ : ∃ u, u = Fp.mul p (pt p inv 4 1) (Fp.sub p b d) := ⟨_, rfl⟩
  obtain ⟨v, hv⟩ : ∃ v, v = Fp.sub p a c := ⟨_, rfl⟩
  obtain ⟨E, hE⟩ : ∃ E, E = smL p [a, c] := ⟨_, rfl⟩
  obtain ⟨O, hO⟩ : ∃ O, O = smL p [b, d] := ⟨_, rfl⟩
  have HU := Lib.hid hu
  have HV := Lib.hid hv
  have HE := Lib.hid hE
  have HO := Lib.hid hO
  have hub : 0 ≤ u ∧ u < 18446744069414584321 := by rw [hu]; exact ⟨(Fp.mul_bd _ _ _).1, (Fp.mul_bd _ _ _).2.1⟩
  have hvb : 0 ≤ v ∧ v < 18446744069414584321 := by rw [hv]; exact ⟨(Fp.sub_bd _ _ _).1, (Fp.sub_bd _ _ _).2.1⟩
  have hEb : 0 ≤ E ∧ E < p := by rw [hE]; exact smL_bd h.kn _
  have hOb : 0 ≤ O ∧ O < p := by rw [hO]; exact smL_bd h.kn _
  rw [← hu, ← hv, ← hE, ← hO]
  have HSB := Lib.hid (Fp.sub_bd p b d)
  have HW1 : Hid (Words [a, c]) := Lib.hid (words2 ⟨a0, a1⟩ ⟨c0, c1⟩)
  have HW2 : Hid (Words [b, d]) := Lib.hid (words2 ⟨b0, b1⟩ ⟨d0, d1⟩)
  have HW3 : Hid (Words [E, O]) := Lib.hid (words2 (by omega) (by omega))
  have HW4 : Hid (Words [v, u]) := Lib.hid (words2 (by omega) (by omega))
  clear hc hx h hf hw hu hv hE hO HX hy
  go_enter Tryd.func50, Tryd.ntmps50
  go_upto_region 1 with fail
  obtain ⟨W, hW⟩ : ∃ W, W = w.alloc (.cells #[.int .u64 p, .slice y 4 cy] 48) := ⟨_, rfl⟩
  rw [← hW] at hp hq hc0 hc1 hc2 hc3 HB HY ⊢
  clear hW
  go_cut [5, 6] from 9 to 26 (fun s t wx => s = .int .u64 E ∧ t = .int .u64 O ∧ Hid (Below W.heap.size W wx))
  case first =>
    have kp := fun s : Since W => s.at hp
    have kq := fun s : Since W => s.at hq
    have k0 := fun s : Since W => s.at hc0
    have k1 := fun s : Since W => s.at hc1
    have k2 := fun s : Since W => s.at hc2
    have k3 := fun s : Since W => s.at hc3
    have hS0 : Below W.heap.size W W.drew := draws_below _ W 1
    refine region_readsL (C := fun w' => ∃ s : Since W, w' = s.out) [0, 1, 2, 3, 4, 5, 6, 9, 10, 11, 12, 13, 14, 15] hmx (by kernel_rfl) rfl (by kernel_rfl) ⟨⟨_, hS0⟩, rfl⟩ ?_
    simp only [List.map_cons, List.map_nil, List.getD_cons_zero, List.getD_cons_succ]
    repeat (go_big_quiet_step (skip))
    refine wpQuiet_nil ?_
    clear kp kq k0 k1 k2 k3 hp hq hc0 hc1 hc2 hc3
    show anyC _ _ _ _ _ 19 6 _ _ _
    obtain ⟨W0, hW0⟩ : ∃ W0, W0 = W.drew := ⟨_, rfl⟩
    rw [← hW0] at hS0 ⊢
    clear hW0
    refine anyC_two (i := 7) (j := 16) (by kernel_rfl) (wpOp_of_list rfl ?_) (wpOp_of_list rfl ?_)
    · skip
      go_wp2
      have hS1 := below_al hS0 (.cells #[.int .u64 a, .int .u64 c] 22)
      have HR1 := Lib.hid (nums_reads W0 22 [a, c])
      refine ⟨rfl, fun _ => ⟨⟨_, hS1⟩, rfl⟩, ?_⟩
      obtain ⟨W1, hW1⟩ : ∃ W1, W1 = W0.alloc (.cells #[.int .u64 a, .int .u64 c] 22) := ⟨_, rfl⟩
      rw [← hW1] at hS1 ⊢
      replace HR1 : Hid (Reads .u64 W1 W1.heap.size (some ⟨W0.heap.size, 0, none⟩) [a, c]) := Lib.hid (by rw [hW1]; exact HR1.out)
      clear hW1
      refine anyC_two (i := 8) (j := 16) (by kernel_rfl) (wpOp_of_list rfl ?_) (wpOp_of_list rfl ?_)
      · skip
        go_wp2_with (go_at_call 60; refine (cirsum_any p _ _ _ _ _ _ [a, c] _ H.out HR1.out rfl HW1.out (by unfold maxLen; simp)).mono ?_; rw [← HE.out]; rintro e W2 ⟨rfl, hb2⟩)
        have hS2 := below_then hS1 hb2
        refine ⟨rfl, fun _ => ⟨⟨_, hS2⟩, rfl⟩, ?_⟩
        refine anyC_one (i := 16) (by kernel_rfl) (wpOp_of_list rfl ?_)
        go_wp2
        have hS3 := below_al hS2 (.cells #[.int .u64 b, .int .u64 d] 22)
        have HR3 := Lib.hid (nums_reads W2 22 [b, d])
        refine ⟨rfl, fun _ => ⟨⟨_, hS3⟩, rfl⟩, ?_⟩
        obtain ⟨W3, hW3⟩ : ∃ W3, W3 = W2.alloc (.cells #[.int .u64 b, .int .u64 d] 22) := ⟨_, rfl⟩
        rw [← hW3] at hS3 ⊢
        replace HR3 : Hid (Reads .u64 W3 W3.heap.size (some ⟨W2.heap.size, 0, none⟩) [b, d]) := Lib.hid (by rw [hW3]; exact HR3.out)
        clear hW3
        refine anyC_one (i := 17) (by kernel_rfl) (wpOp_of_list rfl ?_)
        go_wp2_with (go_at_call 60; refine (cirsum_any p _ _ _ _ _ _ [b, d] _ H.out HR3.out rfl HW2.out (by unfold maxLen; simp)).mono ?_; rw [← HO.out]; rintro e W4 ⟨rfl, hb4⟩)
        have hS4 := below_then hS3 hb4
        refine ⟨rfl, fun _ => ⟨⟨_, hS4⟩, rfl⟩, ?_⟩
        refine anyC_one (i := 18) (by kernel_rfl) (wpOp_of_list rfl ?_)
        go_wp2
        refine ⟨rfl, fun _ => ⟨⟨_, hS4⟩, rfl⟩, ?_⟩
        refine anyC_one (i := 19) (by kernel_rfl) (wpOp_of_list rfl ?_)
        go_wp2
        refine ⟨rfl, fun h => absurd rfl h, anyC_end (by kernel_rfl) ⟨rfl, ?_⟩⟩
        go_wp2
        go_meet
        exact ⟨rfl, rfl, Lib.hid hS4⟩
      · skip
        go_wp2
        have hS2 := below_al hS1 (.cells #[.int .u64 b, .int .u64 d] 22)
        have HR2 := Lib.hid (nums_reads W1 22 [b, d])
        refine ⟨rfl, fun _ => ⟨⟨_, hS2⟩, rfl⟩, ?_⟩
        obtain ⟨W2, hW2⟩ : ∃ W2, W2 = W1.alloc (.cells #[.int .u64 b, .int .u64 d] 22) := ⟨_, rfl⟩
        rw [← hW2] at hS2 ⊢
        replace HR2 : Hid (Reads .u64 W2 W2.heap.size (some ⟨W1.heap.size, 0, none⟩) [b, d]) := Lib.hid (by rw [hW2]; exact HR2.out)
        have hb2 : Below W1.heap.size W1 W2 := by rw [hW2]; exact below_al (Below.refl _ _) _
        clear hW2
        refine anyC_one (i := 8) (by kernel_rfl) (wpOp_of_list rfl ?_)
        go_wp2_with (go_at_call 60; refine (cirsum_any p _ _ _ _ _ _ [a, c] _ H.out ((HR1.out.below hb2).more hb2.size) rfl HW1.out (by unfold maxLen; simp)).mono ?_; rw [← HE.out]; rintro e W3 ⟨rfl, hb3⟩)
        have hS3 := below_then hS2 hb3
        refine ⟨rfl, fun _ => ⟨⟨_, hS3⟩, rfl⟩, ?_⟩
        refine anyC_one (i := 17) (by kernel_rfl) (wpOp_of_list rfl ?_)
        go_wp2_with (go_at_call 60; refine (cirsum_any p _ _ _ _ _ _ [b, d] _ H.out ((HR2.out.below hb3).more hb3.size) rfl HW2.out (by unfold maxLen; simp)).mono ?_; rw [← HO.out]; rintro e W4 ⟨rfl, hb4⟩)
        have hS4 := below_then hS3 hb4
        refine ⟨rfl, fun _ => ⟨⟨_, hS4⟩, rfl⟩, ?_⟩
        refine anyC_one (i := 18) (by kernel_rfl) (wpOp_of_list rfl ?_)
        go_wp2
        refine ⟨rfl, fun _ => ⟨⟨_, hS4⟩, rfl⟩, ?_⟩
        refine anyC_one (i := 19) (by kernel_rfl) (wpOp_of_list rfl ?_)
        go_wp2
        refine ⟨rfl, fun h => absurd rfl h, anyC_end (by kernel_rfl) ⟨rfl, ?_⟩⟩
        go_wp2
        go_meet
        exact ⟨rfl, rfl, Lib.hid hS4⟩
    · skip
      go_wp2
      have hS1 := below_al hS0 (.cells #[.int .u64 b, .int .u64 d] 22)
      have HR1 := Lib.hid (nums_reads W0 22 [b, d])
      refine ⟨rfl, fun _ => ⟨⟨_, hS1⟩, rfl⟩, ?_⟩
      obtain ⟨W1, hW1⟩ : ∃ W1, W1 = W0.alloc (.cells #[.int .u64 b, .int .u64 d] 22) := ⟨_, rfl⟩
      rw [← hW1] at hS1 ⊢
      replace HR1 : Hid (Reads .u64 W1 W1.heap.size (some ⟨W0.heap.size, 0, none⟩) [b, d]) := Lib.hid (by rw [hW1]; exact HR1.out)
      clear hW1
      refine anyC_one (i := 7) (by kernel_rfl) (wpOp_of_list rfl ?_)
      go_wp2
      have hS2 := below_al hS1 (.cells #[.int .u64 a, .int .u64 c] 22)
      have HR2 := Lib.hid (nums_reads W1 22 [a, c])
      refine ⟨rfl, fun _ => ⟨⟨_, hS2⟩, rfl⟩, ?_⟩
      obtain ⟨W2, hW2⟩ : ∃ W2, W2 = W1.alloc (.cells #[.int .u64 a, .int .u64 c] 22) := ⟨_, rfl⟩
      rw [← hW2] at hS2 ⊢
      replace HR2 : Hid (Reads .u64 W2 W2.heap.size (some ⟨W1.heap.size, 0, none⟩) [a, c]) := Lib.hid (by rw [hW2]; exact HR2.out)
      have hb2 : Below W1.heap.size W1 W2 := by rw [hW2]; exact below_al (Below.refl _ _) _
      clear hW2
      refine anyC_one (i := 8) (by kernel_rfl) (wpOp_of_list rfl ?_)
      go_wp2_with (go_at_call 60; refine (cirsum_any p _ _ _ _ _ _ [a, c] _ H.out HR2.out rfl HW1.out (by unfold maxLen; simp)).mono ?_; rw [← HE.out]; rintro e W3 ⟨rfl, hb3⟩)
      have hS3 := below_then hS2 hb3
      refine ⟨rfl, fun _ => ⟨⟨_, hS3⟩, rfl⟩, ?_⟩
      refine anyC_one (i := 17) (by kernel_rfl) (wpOp_of_list rfl ?_)
      have hb13 := below_then hb2 hb3
      go_wp2_with (go_at_call 60; refine (cirsum_any p _ _ _ _ _ _ [b, d] _ H.out ((HR1.out.below hb13).more hb13.size) rfl HW2.out (by unfold maxLen; simp)).mono ?_; rw [← HO.out]; rintro e W4 ⟨rfl, hb4⟩)
      have hS4 := below_then hS3 hb4
      refine ⟨rfl, fun _ => ⟨⟨_, hS4⟩, rfl⟩, ?_⟩
      refine anyC_one (i := 18) (by kernel_rfl) (wpOp_of_list rfl ?_)
      go_wp2
      refine ⟨rfl, fun _ => ⟨⟨_, hS4⟩, rfl⟩, ?_⟩
      refine anyC_one (i := 19) (by kernel_rfl) (wpOp_of_list rfl ?_)
      go_wp2
      refine ⟨rfl, fun h => absurd rfl h, anyC_end (by kernel_rfl) ⟨rfl, ?_⟩⟩
      go_wp2
      go_meet
      exact ⟨rfl, rfl, Lib.hid hS4⟩
  case rest =>
    obtain ⟨rfl, rfl, hB1⟩ := hcut
    replace hp := (Since.mk wc hB1.out).at hp
    replace hq := (Since.mk wc hB1.out).at hq
    replace hc0 := (Since.mk wc hB1.out).at hc0
    replace hc1 := (Since.mk wc hB1.out).at hc1
    replace hc2 := (Since.mk wc hB1.out).at hc2
    replace hc3 := (Since.mk wc hB1.out).at hc3
    dsimp only at hp hq hc0 hc1 hc2 hc3
    replace HY := Lib.hid ((HY.out.below hB1.out).more hB1.out.size)
    replace HB := Lib.hid (below_then HB.out hB1.out)
    clear hB1
    have kp := fun s : Since wc => s.at hp
    have kq := fun s : Since wc => s.at hq
    have k0 := fun s : Since wc => s.at hc0
    have k1 := fun s : Since wc => s.at hc1
    have k2 := fun s : Since wc => s.at hc2
    have k3 := fun s : Since wc => s.at hc3
    go_wp2
    refine wp_region_since (by kernel_rfl) (by kernel_rfl) ?_
    repeat (go_big_quiet_step (first
      | (go_at_call 61; rename_i s; exact since_call s (cless_any _ _ _ _ _ _ _ (by omega) (by omega) (by omega) (by omega)))
      | (go_at_call 62; rename_i s; exact since_call s (ctpt_any p _ _ inv 4 1 _ _ _ rfl ((HY.out.below s.below).more s.below.size) (by omega) (by omega) HSB.out.1 (by have := HSB.out; omega)))))
    refine wpQuiet_nil ?_
    rw [← HU.out, ← HV.out]
    rintro W1 ⟨⟨_, hB1⟩, rfl⟩
    clear kp kq k0 k1 k2 k3 hc0 hc1 hc2 hc3
    replace hp := (Since.mk W1 hB1).at hp
    replace hq := (Since.mk W1 hB1).at hq
    dsimp only at hp hq
    replace HB := Lib.hid (below_then HB.out hB1)
    clear hB1 HY
    go_wp2
    have kp := fun s : Since W1 => s.at hp
    have kq := fun s : Since W1 => s.at hq
    have hS0 : Below W1.heap.size W1 W1.drew := draws_below _ W1 1
    refine region_readsL (C := fun w' => ∃ s : Since W1, w' = s.out) [0, 1, 2, 5, 6, 7, 10, 11, 12, 14, 15, 16] hmx (by kernel_rfl) rfl (by kernel_rfl) ⟨⟨_, hS0⟩, rfl⟩ ?_
    simp only [List.map_cons, List.map_nil, List.getD_cons_zero, List.getD_cons_succ]
    repeat (go_big_quiet_step (skip))
    refine wpQuiet_nil ?_
    clear kp kq hp hq
    show anyC _ _ _ _ _ 19 8 _ _ _
    obtain ⟨W0, hW0⟩ : ∃ W0, W0 = W1.drew := ⟨_, rfl⟩
    rw [← hW0] at hS0 ⊢
    clear hW0
    refine anyC_two (i := 3) (j := 8) (by kernel_rfl) (wpOp_of_list rfl ?_) (wpOp_of_list rfl ?_)
    · skip
      go_wp2
      have hS2 := below_al hS0 (.cells #[.int .u64 E, .int .u64 O] 22)
      have HR2 := Lib.hid (nums_reads W0 22 [E, O])
      refine ⟨rfl, fun _ => ⟨⟨_, hS2⟩, rfl⟩, ?_⟩
      obtain ⟨W2, hW2⟩ : ∃ W2, W2 = W0.alloc (.cells #[.int .u64 E, .int .u64 O] 22) := ⟨_, rfl⟩
      rw [← hW2] at hS2 ⊢
      replace HR2 : Hid (Reads .u64 W2 W2.heap.size (some ⟨W0.heap.size, 0, none⟩) [E, O]) := Lib.hid (by rw [hW2]; exact HR2.out)
      clear hW2
      refine anyC_two (i := 4) (j := 8) (by kernel_rfl) (wpOp_of_list rfl ?_) (wpOp_of_list rfl ?_)
      · skip
        go_wp2_with (go_at_call 60; refine (cirsum_any p _ _ _ _ _ _ [E, O] _ H.out HR2.out rfl HW3.out (by unfold maxLen; simp)).mono ?_; rintro e W3 ⟨rfl, hb3⟩)
        have hS3 := below_then hS2 hb3
        refine ⟨rfl, fun _ => ⟨⟨_, hS3⟩, rfl⟩, ?_⟩
        refine anyC_one (i := 8) (by kernel_rfl) (wpOp_of_list rfl ?_)
        go_wp2
        have hS4 := below_al hS3 (.cells #[.int .u64 v, .int .u64 u] 22)
        have HR4 := Lib.hid (nums_reads W3 22 [v, u])
        refine ⟨rfl, fun _ => ⟨⟨_, hS4⟩, rfl⟩, ?_⟩
        obtain ⟨W4, hW4⟩ : ∃ W4, W4 = W3.alloc (.cells #[.int .u64 v, .int .u64 u] 22) := ⟨_, rfl⟩
        rw [← hW4] at hS4 ⊢
        replace HR4 : Hid (Reads .u64 W4 W4.heap.size (some ⟨W3.heap.size, 0, none⟩) [v, u]) := Lib.hid (by rw [hW4]; exact HR4.out)
        clear hW4
        refine anyC_one (i := 9) (by kernel_rfl) (wpOp_of_list rfl ?_)
        go_wp2_with (go_at_call 60; refine (cirsum_any p _ _ _ _ _ _ [v, u] _ H.out HR4.out rfl HW4.out (by unfold maxLen; simp)).mono ?_; rintro e W5 ⟨rfl, hb5⟩)
        have hS5 := below_then hS4 hb5
        refine ⟨rfl, fun _ => ⟨⟨_, hS5⟩, rfl⟩, ?_⟩
        refine anyC_one (i := 13) (by kernel_rfl) (wpOp_of_list rfl ?_)
        go_wp2_with (go_at_call 61; refine (cless_any _ _ _ _ _ _ _ (by omega) (by omega) (by omega) (by omega)).mono ?_; rintro e W6 ⟨rfl, hb6⟩)
        have hS6 := below_then hS5 hb6
        refine ⟨rfl, fun _ => ⟨⟨_, hS6⟩, rfl⟩, ?_⟩
        refine anyC_one (i := 17) (by kernel_rfl) (wpOp_of_list rfl ?_)
        go_wp2_with (go_at_call 61; refine (cless_any _ _ _ _ _ _ _ (by omega) (by omega) (by omega) (by omega)).mono ?_; rintro e W7 ⟨rfl, hb7⟩)
        have hS7 := below_then hS6 hb7
        refine ⟨rfl, fun _ => ⟨⟨_, hS7⟩, rfl⟩, ?_⟩
        refine anyC_one (i := 18) (by kernel_rfl) (wpOp_of_list rfl ?_)
        go_wp2
        have hS8 := below_al hS7 (.cells #[.int .u64 (smL p [E, O]), .int .u64 (smL p [v, u]), .int .u64 (Fp.sub p E O), .int .u64 (Fp.sub p v u)] 22)
        refine ⟨rfl, fun _ => ⟨⟨_, hS8⟩, rfl⟩, ?_⟩
        refine anyC_one (i := 19) (by kernel_rfl) (wpOp_of_list rfl ?_)
        go_wp2
        refine ⟨rfl, fun h => absurd rfl h, anyC_end (by kernel_rfl) ⟨rfl, ?_⟩⟩
        go_wp2
        go_ret
        have hz : w.heap.size ≤ W7.heap.size := (below_then HB.out hS7).size
        exact ⟨_, rfl, nums_owns W7 [smL p [E, O], smL p [v, u], Fp.sub p E O, Fp.sub p v u] _ hz (by unfold maxLen; simp), below_then HB.out hS8⟩
      · skip
        go_wp2
        have hS3 := below_al hS2 (.cells #[.int .u64 v, .int .u64 u] 22)
        have HR3 := Lib.hid (nums_reads W2 22 [v, u])
        refine ⟨rfl, fun _ => ⟨⟨_, hS3⟩, rfl⟩, ?_⟩
        obtain ⟨W3, hW3⟩ : ∃ W3, W3 = W2.alloc (.cells #[.int .u64 v, .int .u64 u] 22) := ⟨_, rfl⟩
        rw [← hW3] at hS3 ⊢
        replace HR3 : Hid (Reads .u64 W3 W3.heap.size (some ⟨W2.heap.size, 0, none⟩) [v, u]) := Lib.hid (by rw [hW3]; exact HR3.out)
        have hb3 : Below W2.heap.size W2 W3 := by rw [hW3]; exact below_al (Below.refl _ _) _
        clear hW3
        refine anyC_one (i := 4) (by kernel_rfl) (wpOp_of_list rfl ?_)
        go_wp2_with (go_at_call 60; refine (cirsum_any p _ _ _ _ _ _ [E, O] _ H.out ((HR2.out.below hb3).more hb3.size) rfl HW3.out (by unfold maxLen; simp)).mono ?_; rintro e W4 ⟨rfl, hb4⟩)
        have hS4 := below_then hS3 hb4
        refine ⟨rfl, fun _ => ⟨⟨_, hS4⟩, rfl⟩, ?_⟩
        refine anyC_one (i := 9) (by kernel_rfl) (wpOp_of_list rfl ?_)
        go_wp2_with (go_at_call 60; refine (cirsum_any p _ _ _ _ _ _ [v, u] _ H.out ((HR3.out.below hb4).more hb4.size) rfl HW4.out (by unfold maxLen; simp)).mono ?_; rintro e W5 ⟨rfl, hb5⟩)
        have hS5 := below_then hS4 hb5
        refine ⟨rfl, fun _ => ⟨⟨_, hS5⟩, rfl⟩, ?_⟩
        refine anyC_one (i := 13) (by kernel_rfl) (wpOp_of_list rfl ?_)
        go_wp2_with (go_at_call 61; refine (cless_any _ _ _ _ _ _ _ (by omega) (by omega) (by omega) (by omega)).mono ?_; rintro e W6 ⟨rfl, hb6⟩)
        have hS6 := below_then hS5 hb6
        refine ⟨rfl, fun _ => ⟨⟨_, hS6⟩, rfl⟩, ?_⟩
        refine anyC_one (i := 17) (by kernel_rfl) (wpOp_of_list rfl ?_)
        go_wp2_with (go_at_call 61; refine (cless_any _ _ _ _ _ _ _ (by omega) (by omega) (by omega) (by omega)).mono ?_; rintro e W7 ⟨rfl, hb7⟩)
        have hS7 := below_then hS6 hb7
        refine ⟨rfl, fun _ => ⟨⟨_, hS7⟩, rfl⟩, ?_⟩
        refine anyC_one (i := 18) (by kernel_rfl) (wpOp_of_list rfl ?_)
        go_wp2
        have hS8 := below_al hS7 (.cells #[.int .u64 (smL p [E, O]), .int .u64 (smL p [v, u]), .int .u64 (Fp.sub p E O), .int .u64 (Fp.sub p v u)] 22)
        refine ⟨rfl, fun _ => ⟨⟨_, hS8⟩, rfl⟩, ?_⟩
        refine anyC_one (i := 19) (by kernel_rfl) (wpOp_of_list rfl ?_)
        go_wp2
        refine ⟨rfl, fun h => absurd rfl h, anyC_end (by kernel_rfl) ⟨rfl, ?_⟩⟩
        go_wp2
        go_ret
        have hz : w.heap.size ≤ W7.heap.size := (below_then HB.out hS7).size
        exact ⟨_, rfl, nums_owns W7 [smL p [E, O], smL p [v, u], Fp.sub p E O, Fp.sub p v u] _ hz (by unfold maxLen; simp), below_then HB.out hS8⟩
    · skip
      go_wp2
      have hS2 := below_al hS0 (.cells #[.int .u64 v, .int .u64 u] 22)
      have HR2 := Lib.hid (nums_reads W0 22 [v, u])
      refine ⟨rfl, fun _ => ⟨⟨_, hS2⟩, rfl⟩, ?_⟩
      obtain ⟨W2, hW2⟩ : ∃ W2, W2 = W0.alloc (.cells #[.int .u64 v, .int .u64 u] 22) := ⟨_, rfl⟩
      rw [← hW2] at hS2 ⊢
      replace HR2 : Hid (Reads .u64 W2 W2.heap.size (some ⟨W0.heap.size, 0, none⟩) [v, u]) := Lib.hid (by rw [hW2]; exact HR2.out)
      clear hW2
      refine anyC_one (i := 3) (by kernel_rfl) (wpOp_of_list rfl ?_)
      go_wp2
      have hS3 := below_al hS2 (.cells #[.int .u64 E, .int .u64 O] 22)
      have HR3 := Lib.hid (nums_reads W2 22 [E, O])
      refine ⟨rfl, fun _ => ⟨⟨_, hS3⟩, rfl⟩, ?_⟩
      obtain ⟨W3, hW3⟩ : ∃ W3, W3 = W2.alloc (.cells #[.int .u64 E, .int .u64 O] 22) := ⟨_, rfl⟩
      rw [← hW3] at hS3 ⊢
      replace HR3 : Hid (Reads .u64 W3 W3.heap.size (some ⟨W2.heap.size, 0, none⟩) [E, O]) := Lib.hid (by rw [hW3]; exact HR3.out)
      have hb3 : Below W2.heap.size W2 W3 := by rw [hW3]; exact below_al (Below.refl _ _) _
      clear hW3
      refine anyC_one (i := 4) (by kernel_rfl) (wpOp_of_list rfl ?_)
      go_wp2_with (go_at_call 60; refine (cirsum_any p _ _ _ _ _ _ [E, O] _ H.out HR3.out rfl HW3.out (by unfold maxLen; simp)).mono ?_; rintro e W4 ⟨rfl, hb4⟩)
      have hS4 := below_then hS3 hb4
      refine ⟨rfl, fun _ => ⟨⟨_, hS4⟩, rfl⟩, ?_⟩
      have hb24 := below_then hb3 hb4
      refine anyC_one (i := 9) (by kernel_rfl) (wpOp_of_list rfl ?_)
      go_wp2_with (go_at_call 60; refine (cirsum_any p _ _ _ _ _ _ [v, u] _ H.out ((HR2.out.below hb24).more hb24.size) rfl HW4.out (by unfold maxLen; simp)).mono ?_; rintro e W5 ⟨rfl, hb5⟩)
      have hS5 := below_then hS4 hb5
      refine ⟨rfl, fun _ => ⟨⟨_, hS5⟩, rfl⟩, ?_⟩
      refine anyC_one (i := 13) (by kernel_rfl) (wpOp_of_list rfl ?_)
      go_wp2_with (go_at_call 61; refine (cless_any _ _ _ _ _ _ _ (by omega) (by omega) (by omega) (by omega)).mono ?_; rintro e W6 ⟨rfl, hb6⟩)
      have hS6 := below_then hS5 hb6
      refine ⟨rfl, fun _ => ⟨⟨_, hS6⟩, rfl⟩, ?_⟩
      refine anyC_one (i := 17) (by kernel_rfl) (wpOp_of_list rfl ?_)
      go_wp2_with (go_at_call 61; refine (cless_any _ _ _ _ _ _ _ (by omega) (by omega) (by omega) (by omega)).mono ?_; rintro e W7 ⟨rfl, hb7⟩)
      have hS7 := below_then hS6 hb7
      refine ⟨rfl, fun _ => ⟨⟨_, hS7⟩, rfl⟩, ?_⟩
      refine anyC_one (i := 18) (by kernel_rfl) (wpOp_of_list rfl ?_)
      go_wp2
      have hS8 := below_al hS7 (.cells #[.int .u64 (smL p [E, O]), .int .u64 (smL p [v, u]), .int .u64 (Fp.sub p E O), .int .u64 (Fp.sub p v u)] 22)
      refine ⟨rfl, fun _ => ⟨⟨_, hS8⟩, rfl⟩, ?_⟩
      refine anyC_one (i := 19) (by kernel_rfl) (wpOp_of_list rfl ?_)
      go_wp2
      refine ⟨rfl, fun h => absurd rfl h, anyC_end (by kernel_rfl) ⟨rfl, ?_⟩⟩
      go_wp2
      go_ret
      have hz : w.heap.size ≤ W7.heap.size := (below_then HB.out hS7).size
      exact ⟨_, rfl, nums_owns W7 [smL p [E, O], smL p [v, u], Fp.sub p E O, Fp.sub p v u] _ hz (by unfold maxLen; simp), below_then HB.out hS8⟩

end Go.Proofs.YtmcnamlgbkbiaaaDoor
