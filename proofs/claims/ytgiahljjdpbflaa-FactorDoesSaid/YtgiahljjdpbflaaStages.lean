/-
  What Stages and Check of package factor come to, over every input.
-/
import Derived.Test.YtgiahljjdpbflaaSizes
import Derived.Test.YtgiahljjdpbflaaStage
import Derived.Test.YtgiahljjdpbflaaLate
namespace Go.Proofs.Ytgiahljjdpbflaa
open Go.RowKit Go.Shelf

attribute [local go_sem] Oper.semAt_some

theorem stages_no (n : Int) (w : World) (h : Fac.sm n = false) :
    Calls Try.prog 10 #[.int .i64 n] w (RetB (.tuple #[.slice none 0 0, .int .i64 4]) w) := by
  have HS := Lib.hid (smooth_any n)
  rw [h] at HS
  clear h
  have D := Lib.hid ((Below.refl w.heap.size w).alloc (Nat.le_refl _) (.cells #[.int .i64 n] 3))
  go_enter Try.func10, Try.ntmps10
  go_wp2_with (go_at_call 12; refine (HS.out _).mono ?_; rintro e w' ⟨rfl, hb⟩)
  go_ret2
  exact ⟨rfl, D.out.trans (hb.mono (by simp))⟩

/-- Between two rounds of Stages: the boxes of the size, of the list, and of the product so far. -/
def StInv (n : Nat) (w : World) (B1 B2 : Nat) (pre : List Fac.Rad) (W : World) : Prop :=
  Boxed W w.heap.size 3 (.int .i64 (n : Int)) ∧ (∃ v, Boxed W B1 22 v ∧ OwnsS W w.heap.size v (Fac.stages n pre 1)) ∧ Boxed W B2 3 (.int .i64 (Fac.prod pre : Nat)) ∧ Below w.heap.size w W
theorem StInv.own {n : Nat} {w : World} {B1 B2 B : Nat} (hB : w.heap.size ≤ B) : OwnFrom B (StInv n w B1 B2) := by
  rintro js W W' row ⟨h0, ⟨v, h1, h2⟩, h3, h4⟩ hg hr
  exact ⟨boxed_stays h0 hg (fun r e => (hr r e).2), ⟨v, boxed_stays h1 hg (fun r e => (hr r e).2), owned_stays h2 hg (fun r e => (hr r e).2)⟩, boxed_stays h3 hg (fun r e => (hr r e).2), h4.grown hg h4.size (fun k e => Nat.le_trans hB (hr k e).1)⟩

theorem cell_three_new (w : World) (x y z : Value) (t : TypeId) : ∀ j u, [x, y, z][j]? = some u → (w.alloc (.cells #[x, y, z] t)).cell? ((⟨w.heap.size, 0, none⟩ : Addr).add j) = some u := by
  intro j u hj
  match j, hj with
  | 0, hj => simp at hj; subst hj; simp [Addr.add]
  | 1, hj => simp at hj; subst hj; simp [Addr.add]
  | 2, hj => simp at hj; subst hj; simp [Addr.add]

/-- What a round leaves. -/
theorem StInv.step {n : Nat} {w W w1 : World} {B1 B2 : Nat} {pre : List Fac.Rad} {r : Fac.Rad} {v v' : Value} {p u q nq : Nat} {tmp : Obj}
    (hn : Boxed W w.heap.size 3 (.int .i64 (n : Int))) (hv : Boxed W B1 22 v) (hrow : OwnsS W w.heap.size v (Fac.stages n pre 1)) (hp : Boxed W B2 3 (.int .i64 (Fac.prod pre : Nat))) (hB : Below w.heap.size w W)
    (h1 : w.heap.size < B1) (h2 : B1 < B2) (ep : p = Fac.prod pre) (eu : u = Fac.prod (pre ++ [r])) (eq : q = n / u)
    (hown : w1.ownsRow w.heap.size 36 3 v' ((Fac.stages n pre 1).length + 1) ((Fac.stages n pre 1).flatMap scells ++ [.int .i64 (r.1 : Int), .int .i64 (p : Int), .int .i64 (q : Int)])) (hgrow : ((W.drewN nq).alloc tmp).grownBy w1 v.ownBlock) :
    Boxed w1 B1 22 v ∧ Boxed (w1.setCell ⟨B1, 0, none⟩ v') B2 3 (.int .i64 (p : Int)) ∧
    KeepsOthers W ((w1.setCell ⟨B1, 0, none⟩ v').setCell ⟨B2, 0, none⟩ (.int .i64 (u : Int))) ∧ StInv n w B1 B2 (pre ++ [r]) ((w1.setCell ⟨B1, 0, none⟩ v').setCell ⟨B2, 0, none⟩ (.int .i64 (u : Int))) := by
  obtain ⟨hv1, hv2, hr2, hk2, hb2⟩ := Boxed.appended (W := W.drewN nq) hv (by decide) hrow hB.size (by omega) hown hgrow
  have p1 : Boxed w1 B2 3 (.int .i64 (Fac.prod pre : Nat)) := (Boxed.alloc (W := W.drewN nq) hp tmp).kept hgrow (Boxed.not_row (W := W.drewN nq) hp (by decide) hrow)
  have n1 : Boxed w1 w.heap.size 3 (.int .i64 (n : Int)) := (Boxed.alloc (W := W.drewN nq) hn tmp).kept hgrow (Boxed.not_row (W := W.drewN nq) hn (by decide) hrow)
  have p2 := boxed_set p1 (a := ⟨B1, 0, none⟩) v' (by show B2 ≠ B1; omega)
  have n2 := boxed_set n1 (a := ⟨B1, 0, none⟩) v' (by show w.heap.size ≠ B1; omega)
  refine ⟨hv1, by rw [ep]; exact p2, ((keeps_draws W nq).trans hk2).trans (KeepsOthers.setCell _ _ _), boxed_set n2 (a := ⟨B2, 0, none⟩) _ (by show w.heap.size ≠ B2; omega), ⟨v', boxed_set hv2 (a := ⟨B2, 0, none⟩) _ (by show B1 ≠ B2; omega), ?_⟩, ?_, ?_⟩
  · rw [Fac.stages_snoc]
    have e : (⟨(r.1 : Int), ((1 * Fac.prod pre : Nat) : Int), ((n / (1 * Fac.prod pre * r.1) : Nat) : Int)⟩ : Fac.Stg) = ⟨(r.1 : Int), (p : Int), (q : Int)⟩ := by
      rw [Nat.one_mul, ep, eq, eu, Fac.prod_append, Fac.prod_one]
    rw [e]
    refine OwnsS.push ?_
    exact hr2.kept (grownBy_setCell' _ B2 _) (.inr (p2.not_row (by decide) hr2).symm)
  · rw [← eu]; exact p2.set _
  · exact ((below_draws hB nq).trans hb2).setCell (p := ⟨B2, 0, none⟩) (by show _ ≤ B2; omega) _

set_option maxRecDepth 100000 in
set_option maxHeartbeats 2000000 in
theorem stages_yes (n : Nat) (w : World) (h : Fac.sm (n : Int) = true) :
    Calls Try.prog 10 #[.int .i64 (n : Int)] w fun e w' =>
      ∃ v, e = .returned (.tuple #[v, .int .i64 0]) ∧ OwnsS w' w.heap.size v (Fac.stages n (Fac.rads n) 1) ∧ Below w.heap.size w w' := by
  obtain ⟨h1, h2, _⟩ := Fac.sm_of h
  have HS := Lib.hid (smooth_any (n : Int))
  rw [h] at HS
  clear h
  obtain ⟨i0, hi, hz0, hz1, hz2⟩ := info_parts info_stg
  refine (callsIn_wide (n := 3)).1 ?_
  refine callsIn_of_wp_marks Try.func10 rfl trivial ?_ rfl
  simp only [Try.ntmps10, List.size_toArray, List.length_cons, List.length_nil, Nat.reduceAdd, Nat.reduceSub, Array.replicate_succ, Array.replicate_zero, List.push_toArray, List.append_toArray, List.nil_append, List.cons_append]
  have b0 := Boxed.new w 3 (.int .i64 (n : Int))
  have hB0 := (Below.refl w.heap.size w).alloc (Nat.le_refl _) (.cells #[.int .i64 (n : Int)] 3)
  gi_wp2_with (first
    | (refine ⟨trivial, ?_⟩; gi_at_call 12; refine (callsIn_wide.2 (HS.out _)).mono ?_; rintro e w1 ⟨rfl, hb1⟩; have b1 : Boxed w1 w.heap.size 3 (.int .i64 (n : Int)) := (hb1.block w.heap.size (by simp)).trans b0; have c1 := b1.cell; have s1 := b1.lt)
    | (refine ⟨trivial, ?_⟩; gi_at_call 19; refine (callsIn_wide.2 (radices_any _ _)).mono ?_; rintro e w' ⟨rfl, rfl⟩))
  obtain ⟨W1, hW1⟩ : ∃ W1, (w1.alloc (.cells #[.slice none 0 0] 22)).alloc (.cells #[.int .i64 1] 3) = W1 := ⟨_, rfl⟩
  have hs1 : W1.heap.size = w1.heap.size + 2 := by rw [← hW1]; simp
  have hI0 : StInv n w w1.heap.size (w1.heap.size + 1) [] W1 := by
    rw [← hW1]
    have hB1 : Below w.heap.size w w1 := hB0.trans (hb1.mono (by simp))
    refine ⟨(b1.alloc _).alloc _, ⟨_, (Boxed.new w1 _ _).alloc _, OwnsS.nil⟩, ?_, below_al (below_al hB1 _) _⟩
    have := Boxed.new (w1.alloc (.cells #[.slice none 0 0] 22)) 3 (.int .i64 1)
    rw [World.size_alloc] at this
    exact this
  rw [hW1]
  have bN := Boxed.new W1 3 (.int .i64 (n : Int))
  rw [hs1] at bN
  have hI1 : StInv n w w1.heap.size (w1.heap.size + 1) [] (W1.alloc (.cells #[.int .i64 (n : Int)] 3)) := (StInv.own (B := w.heap.size) (Nat.le_refl _)).alloc _ hI0
  clear hW1 hI0 b0 hB0 c1 b1 hb1
  refine wpIn_rangeFunc_ownG rfl (by omega) (gf := 24) (lb := #[.pointer (some ⟨w1.heap.size + 2, 0, none⟩)]) rfl trivial (enters_of Try.func24 (by kernel_rfl) rfl)
    (rads_stops 2 (by omega) (w1.heap.size + 2) n (by omega) (by omega) _ (by simp [hs1]) bN.cell) (fun _ _ => trivial) (fun _ _ _ _ _ _ _ _ => trivial) (Below.refl _ _) (fun _ => rfl)
    (StInv n w w1.heap.size (w1.heap.size + 1)) (fun _ _ _ => False) (StInv.own (by simp; omega)) (fun _ _ _ _ _ hs _ _ => hs) hI1 ?a1 ?assign ?body ?done ?stop
  case assign =>
    intro l j W K hK
    gi_wp2
    exact hK
  case body =>
    rintro l pre r W hJ hl
    have hJ' := hJ
    obtain ⟨hn, ⟨v, hv, hrow⟩, hp, hB⟩ := hJ'
    have cN := hn.cell
    have cV := hv.cell
    have fV := hv.frozen
    have cP := hp.cell
    have fP := hp.frozen
    obtain ⟨p, hp'⟩ : ∃ p, p = Fac.prod pre := ⟨_, rfl⟩
    have p1 : 1 ≤ p := by rw [hp']; exact Fac.prod_pos _
    obtain ⟨u, hu⟩ : ∃ u, u = Fac.prod (pre ++ [r]) := ⟨_, rfl⟩
    have u1 : 1 ≤ u := by rw [hu]; exact Fac.prod_pos _
    have hm : u ≤ 244140625 := by rw [hu]; exact Fac.prod_short (by simp; omega)
    have hz : (p : Int) * (r.1 : Int) = (u : Int) := by rw [hp', hu, Fac.prod_append, Fac.prod_one, Int.natCast_mul]
    obtain ⟨q, hq⟩ : ∃ q, q = n / u := ⟨_, rfl⟩
    have hd : (n : Int) / (u : Int) = (q : Int) := by rw [hq]; exact cast_div n u
    have hq1 : q ≤ 4096 := by rw [hq]; exact Nat.le_trans (Nat.div_le_self n u) (by omega)
    have hu0 : (u : Int) ≠ 0 := by omega
    rw [← hp'] at cP
    have HU := Lib.hid (And.intro hp' (And.intro hu hq))
    clear hI1 bN hp' hu hq
    have hmx : Try.prog.follows .mixedOrders = true := by kernel_rfl
    gi_wp2
    refine regionIn_late (l1 := [_, _, _, _, _, _, _, _]) v (.slice (some ⟨W.heap.size, 0, none⟩) 1 1) (.cells #[.int .i64 (r.1 : Int), .int .i64 (p : Int), .int .i64 (q : Int)] 36) hmx (by kernel_rfl) (by kernel_rfl) (fun ⟨_, _, h⟩ => h) (by kernel_rfl) ?_ ?_ ?_
    · intro k; go_simp
    · intro k
      have cV2 := (Boxed.alloc (W := W.drewN k) hv (.cells #[.int .i64 (r.1 : Int), .int .i64 (p : Int), .int .i64 (q : Int)] 36)).cell
      go_simp
    simp only [List.cons_append, List.nil_append, Act.put, List.setIfInBounds_toArray, List.set_cons_succ, List.set_cons_zero]
    repeat (first | go_big_quiet_step (fail) | quiet_step (fail))
    refine wpQuiet_nil ?_
    refine ⟨by kernel_rfl, fun k => ?_, fun nq => ?_⟩
    · go_simp
    have hsl := Lib.hid (Fac.stages_len n pre 1)
    go_wp2_with (at_builtin; refine wpList_append_own _ rfl _ _ 22 rfl w.heap.size 36 i0 (.agg #[.int .i64 0, .int .i64 0, .int .i64 0]) 3 24 Try.underlying22 hi hz0 hz1 hz2 rfl (by decide) _ _ _ rfl (World.ownsRow.alloc (w := W.drewN nq) hrow _) ⟨W.heap.size, 0, none⟩ 1 1 [.int .i64 (r.1 : Int), .int .i64 (p : Int), .int .i64 (q : Int)] rfl rfl (cell_three_new (W.drewN nq) _ _ _ _) (by simp [Value.oneCell']) (by have := hsl.out; unfold maxLen; omega) (by have := hsl.out; omega) (by have := hB.size; simp; omega) ?_; intro v' w2 hown' hgrow _; obtain ⟨g', cap', rfl⟩ := ownsRow_succ hown'; obtain ⟨x1, x2, x3, x4⟩ := StInv.step hn hv hrow hp hB s1 (Nat.lt_succ_self _) HU.out.1 HU.out.2.1 HU.out.2.2 hown' hgrow; have hc1 := x1.cell; have hf1 := x1.frozen; have hc2 := x2.cell; have hf2 := x2.frozen)
    gi_wp2
    exact ⟨x3.from _, trivial, x4⟩
  case done =>
    rintro D ys W hD rfl ⟨hn, ⟨v, hv, hrow⟩, hp, hB⟩ hK
    have hcv := hv.cell
    gi_wp2
    refine ⟨by simp, .inl ⟨_, _, rfl, run_takeDeferred hK, ?_⟩⟩
    exact ⟨_, results_tmp2 (t := 2) (u := 3) rfl _ _ _, v, rfl, ownsRow_putObj hrow _ hK rfl, hB.trans (belowK_b (w := w) (Nat.le_refl _) W D _ _ (by simp at hD; omega) hK rfl rfl)⟩
  case stop =>
    rintro D c pre W _ _ h _
    exact h.elim

end Go.Proofs.Ytgiahljjdpbflaa
