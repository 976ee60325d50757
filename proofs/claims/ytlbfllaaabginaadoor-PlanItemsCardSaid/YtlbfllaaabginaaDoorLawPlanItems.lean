/-
  The walk of the law PlanItems: it returns true for every request; nothing that was there is written.
-/
import Derived.Test.YtlbfllaaabginaaDoorPlanLive
import Derived.Test.YtlbfllaaabginaaDoorRefPlanReq
import Derived.Test.YtlbfllaaabginaaDoorRows2
import Derived.Test.YtlbfllaaabginaaDoorPairs
import Derived.Deep.CutRange
namespace Go.Proofs.YtlbfllaaabginaaDoor
open Go.RowKit

set_option maxRecDepth 100000 in
set_option maxHeartbeats 8000000 in
theorem planitems_yes (H : PlanHas Gl) (q : Rq) (w : World) (hG : Gl w) (hq : RqIn w w.heap.size q) (hm : q.m ≤ 240) (hok : Rok q)
    (HFew : Hid (∀ W, Below w.heap.size w W → Calls Tryd.prog 19 #[rqV q, .int .i64 60] W (RetB (.bool true) W))) :
    Calls Tryd.prog 10 #[rqV q] w fun e w' => e = .returned (.bool true) ∧ Below w.heap.size w w' := by
  have hB := below_al (Below.refl w.heap.size w) (rqO q 39)
  have HB := Lib.hid hB
  have HRA := Lib.hid (RqAt.new w 39 q)
  have HV := Lib.hid (live17_any H _ (H.keep hG hB))
  have HC := Lib.hid (fun W (hW : Below w.heap.size w W) => H.check q W (H.keep hG hW) ((hq.below hW).more hW.size))
  rw [hok.zero] at HC
  have hbb := hok.b
  have HI : Hid (∀ (j : Nat) W, Below w.heap.size w W → (j : Int) < q.b → Calls Tryd.prog 20 #[rqV q, .int .i64 (j : Int)] W (LineRet W (part q j) 0)) := Lib.hid (fun j W hW hj => by
    have := H.item q (j : Int) W (H.keep hG hW) ((hq.below hW).more hW.size) (by omega)
    have e := itE_ok hok.zero (i := (j : Int)) (by omega)
    rwa [itL_ok e, e, Int.toNat_natCast] at this)
  have HX : Hid (∀ (i : Int) W, Below w.heap.size w W → (i = q.b ∨ i = -1) → Calls Tryd.prog 20 #[rqV q, .int .i64 i] W (LineRet W [] 1)) := Lib.hid (fun i W hW hi => by
    have := H.item q i W (H.keep hG hW) ((hq.below hW).more hW.size) (by omega)
    have e := itE_arg hok.zero (i := i) (by omega)
    rwa [itL_no (by rw [e]; decide), e] at this)
  have HY := Lib.hid (fun W (hW : Below w.heap.size w W) => ((hq.below hW).more hW.size).yr)
  have HYn := Lib.hid hq.yn
  have hN := hok.pos
  have HPl : Hid (∀ j : Nat, (j : Int) < q.b → (part q j).length = rqN q) := Lib.hid (fun j hj => part_len hok hq.yn hj)
  have HPn := Lib.hid (part_next q)
  have hlen := hok.len
  obtain ⟨c, hc⟩ : ∃ c : Nat, q.b = (c : Int) := ⟨q.b.toNat, by omega⟩
  have hcb : 1 ≤ c ∧ c ≤ 16 := by omega
  generalize rqN q = N at hN HPl HPn hlen
  generalize part q = pt at HI HPl HPn
  have hmc : q.m = c * N := by
    rw [hc] at hlen
    have : ((c * N : Nat) : Int) = (c : Int) * (N : Int) := by simp
    omega
  have hz : (N : Int) * (c : Int) = (q.m : Int) := by rw [hmc, Int.natCast_mul, Int.mul_comm]
  have tm : ((q.m : Int) != (q.m : Int)) = false := by simp
  have HTk : Hid (q.xs.take (c * N) = q.xs) := Lib.hid (by rw [← hmc, ← hq.yn, List.take_length])
  have HJ : Hid (∀ j, j < c → j * N + N ≤ q.m) := Lib.hid (fun j hj => by
    rw [hmc]
    have : (j + 1) * N ≤ c * N := Nat.mul_le_mul_right N hj
    rw [Nat.add_mul, Nat.one_mul] at this
    exact this)
  obtain ⟨i0, hi0, hz0, hz1, hz2⟩ := info_parts info_u64
  unfold rqV at HI HX HC HFew ⊢
  unfold rqO at HB HRA HV
  clear hG hq hB H hok hlen hmc
  obtain ⟨p, x, n, cap, xa, inv, b, y, m, cy, xs, zo, k, cz, zs, rt, ag⟩ := q
  dsimp only at *
  subst hc
  go_enter Tryd.func10, Tryd.ntmps10
  go_upto_region 6 with (first
    | (go_at_call 11; refine HV.out.mono ?_; rintro e w1 ⟨rfl, b1⟩; have B1 := Lib.hid (below_then HB.out b1); have RA1 := Lib.hid (HRA.out.then b1); obtain ⟨k0, k1, k2, k3, k4, k5, k6, k7⟩ := RA1.out; dsimp only at k0 k1 k2 k3 k4 k5 k6 k7; clear b1)
    | (go_at_call 19; refine (HFew.out _ B1.out).mono ?_; rintro e w2 ⟨rfl, b2⟩; have B2 := Lib.hid (below_then B1.out b2); have RA2 := Lib.hid (RA1.out.then b2); clear b2 k0 k1 k2 k3 k4 k5 k6 k7; obtain ⟨l0, l1, l2, l3, l4, l5, l6, l7⟩ := RA2.out; dsimp only at l0 l1 l2 l3 l4 l5 l6 l7)
    | (go_at_call 23; refine (HC.out _ B2.out).mono ?_; rintro e w3 ⟨rfl, b3⟩; have B3 := Lib.hid (below_then B2.out b3); have RA3 := Lib.hid (RA2.out.then b3); clear b3 l0 l1 l2 l3 l4 l5 l6 l7))
  obtain ⟨k0, k1, k2, k3, k4, k5, k6, k7⟩ := RA3.out
  dsimp only at k0 k1 k2 k3 k4 k5 k6 k7
  go_wp2
  go_loopw [3, 23] (fun v i wr => ∃ (j : Nat) (o : Value), j ≤ c ∧ i = .int .i64 (j : Int) ∧ o = v ∧ Hid (Owns .u64 22 wr w3.heap.size o (xs.take (j * N))) ∧ Hid (Below w3.heap.size w3 wr)) (fun _ i _ => c - (intOf i).toNat)
  case atStart => exact ⟨0, _, Nat.zero_le _, rfl, rfl, Lib.hid (by rw [Nat.zero_mul, List.take_zero]; exact Owns.nil), Lib.hid (Below.refl _ _)⟩
  case round =>
    clear k0 k1 k2 k3 k4 k5 k6 k7
    obtain ⟨j, o, hj, rfl, rfl, HO, HBr⟩ := hrel
    obtain ⟨k0, k1, k2, k3, k4, k5, k6, k7⟩ := RA3.out.then HBr.out
    dsimp only at k0 k1 k2 k3 k4 k5 k6 k7
    by_cases hlj : j < c
    · have hdj : decide (j < c) = true := by simpa using hlj
      have HI1 := Lib.hid (fun W hW => HI.out j W hW (by omega))
      have HPj := Lib.hid (HPl.out j (by omega))
      have HJj := Lib.hid (HJ.out j hlj)
      have HNx := Lib.hid (HPn.out j)
      generalize pt j = ps at HI1 HPj HNx
      go_upto_region 10 with (go_at_call 20; refine (HI1.out _ (below_then B3.out HBr.out)).mono ?_; rintro e w4 ⟨v, rfl, hO, b4⟩; obtain ⟨x4, c4, rfl, -, -, hr4, hg4⟩ := hO.form; have O4 := Lib.hid (HO.out.below b4); have S4 := Lib.hid hr4; have G4 := Lib.hid hg4; have B4 := Lib.hid (below_then HBr.out b4); have RA4 := Lib.hid ((RA3.out.then HBr.out).then b4); rw [HPj.out]; clear b4 hO hr4 hg4)
      clear k0 k1 k2 k3 k4 k5 k6 k7
      obtain ⟨k0, k1, k2, k3, k4, k5, k6, k7⟩ := RA4.out
      dsimp only at k0 k1 k2 k3 k4 k5 k6 k7
      obtain ⟨g4, rfl, -, -⟩ := G4.out (by rw [HPj.out]; omega)
      have HSr : Hid (Src .u64 w4 (some ⟨g4, 0, none⟩) N c4 ps) := Lib.hid ⟨HPj.out, .inr ⟨_, rfl, fun t ht => by
        obtain ⟨b', off', e', -, hc'⟩ := S4.out (by rw [HPj.out]; omega)
        cases e'
        rw [Go.WideShapes.add_plain]
        exact hc' t (by rw [HPj.out]; exact ht)⟩⟩
      have HLt : Hid ((xs.take (j * N)).length = j * N) := Lib.hid (by rw [List.length_take, HYn.out]; have := HJj.out; omega)
      have HZ4 := Lib.hid B4.out.size
      go_wp2_with (at_builtin; refine wpList_append_num rfl _ _ 37 rfl w3.heap.size 22 i0 .u64 8 Tryd.underlying37 hi0 hz0 hz1 hz2 _ _ rfl O4.out ⟨g4, 0, none⟩ N c4 ps rfl HSr.out (by omega) (by rw [HLt.out]; have := HJj.out; unfold maxLen; omega) (by rw [HLt.out]; have := HJj.out; omega) HZ4.out ?_; intro v5 w5 hO5 hg5 _; have O5 := Lib.hid hO5; have B5 := Lib.hid (B4.out.grown hg5 B4.out.size (fun g e => (O4.out.inside e).1)); clear hO5 hg5)
      go_roundw
      case rel => exact ⟨j + 1, v5, by omega, by go_num, rfl, Lib.hid (by rw [← HNx.out]; exact O5.out), B5⟩
      case measure => simp [intOf]; omega
    · obtain rfl : j = c := by omega
      have hdj : decide (j < j) = false := by simp
      rw [HTk.out] at HO
      obtain ⟨x5, c5, hv5, -, -, hr5, -⟩ := HO.out.form
      rw [HYn.out] at hv5
      subst hv5
      have R5 := Lib.hid hr5
      have B5 := Lib.hid (below_then B3.out HBr.out)
      clear hr5
      go_upto_region 15 with (go_at_call 20; refine (HX.out _ _ B5.out (.inl rfl)).mono ?_; rintro e w6 ⟨v, rfl, hO, b6⟩; have B6 := Lib.hid (below_then B5.out b6); have R6 := Lib.hid ((R5.out.below b6).more b6.size); have RA6 := Lib.hid ((RA3.out.then HBr.out).then b6); clear b6 hO)
      clear k0 k1 k2 k3 k4 k5 k6 k7
      obtain ⟨k0, k1, k2, k3, k4, k5, k6, k7⟩ := RA6.out
      dsimp only at k0 k1 k2 k3 k4 k5 k6 k7
      go_upto_region 16 with (go_at_call 20; refine (HX.out _ _ B6.out (.inr rfl)).mono ?_; rintro e w7 ⟨v, rfl, hO, b7⟩; have B7 := Lib.hid (below_then B6.out b7); have R7 := Lib.hid ((R6.out.below b7).more b7.size); have RA7 := Lib.hid (RA6.out.then b7); clear b7 hO)
      clear k0 k1 k2 k3 k4 k5 k6 k7
      obtain ⟨k0, k1, k2, k3, k4, k5, k6, k7⟩ := RA7.out
      dsimp only at k0 k1 k2 k3 k4 k5 k6 k7
      go_wp2_with (go_at_call 22; refine (same_self x5 y m c5 cy xs _ w7.heap.size R7.out (HY.out _ B7.out) HYn.out (by omega)).mono ?_; rintro e w' ⟨rfl, n6, rfl⟩)
      go_ret
      exact ⟨rfl, below_draws B7.out _⟩

set_option maxRecDepth 100000 in
set_option maxHeartbeats 4000000 in
theorem planitems_any (H : PlanHas Gl) (q : Rq) (w : World) (hG : Gl w) (hq : RqIn w w.heap.size q) :
    Calls Tryd.prog 10 #[rqV q] w fun e w' => e = .returned (.bool true) ∧ Below w.heap.size w w' := by
  obtain ⟨f, hF⟩ := few_any q.x q.n q.cap q.xa 60 w hq.ax hq.an hq.al
  have HFew := few17_of q f w hF
  have hB := below_al (Below.refl w.heap.size w) (rqO q 39)
  have HB := Lib.hid hB
  have HRA := Lib.hid (RqAt.new w 39 q)
  have HV := Lib.hid (live17_any H _ (H.keep hG hB))
  cases hb : (f && decide (q.m ≤ 240) && decide (q.k ≤ 10))
  · rw [hb] at HFew
    unfold rqV at HFew ⊢
    unfold rqO at HB HRA HV
    clear hG hq hB H hb hF
    obtain ⟨p, x, n, cap, xa, inv, b, y, m, cy, xs, zo, k, cz, zs, rt, ag⟩ := q
    dsimp only at *
    go_enter Tryd.func10, Tryd.ntmps10
    go_wp2_with (first
      | (go_at_call 11; refine HV.out.mono ?_; rintro e w1 ⟨rfl, b1⟩; have B1 := Lib.hid (below_then HB.out b1); have RA1 := Lib.hid (HRA.out.then b1); obtain ⟨k0, k1, k2, k3, k4, k5, k6, k7⟩ := RA1.out; dsimp only at k0 k1 k2 k3 k4 k5 k6 k7; clear b1)
      | (go_at_call 19; refine (HFew.out _ B1.out).mono ?_; rintro e w2 ⟨rfl, b2⟩; have B2 := Lib.hid (below_then B1.out b2); clear b2))
    go_ret
    exact ⟨rfl, B2.out⟩
  · rw [hb] at HFew
    by_cases hC : chkE q = 0
    · refine planitems_yes H q w hG hq ?_ (chkE_zero hC) HFew
      simp at hb
      omega
    · have HC := Lib.hid (fun W (hW : Below w.heap.size w W) => H.check q W (H.keep hG hW) ((hq.below hW).more hW.size))
      have t := ne_of_bne hC
      unfold rqV at HFew HC ⊢
      unfold rqO at HB HRA HV
      generalize chkE q = er at HC t
      clear hG hq hB H hb hF hC
      obtain ⟨p, x, n, cap, xa, inv, b, y, m, cy, xs, zo, k, cz, zs, rt, ag⟩ := q
      dsimp only at *
      go_enter Tryd.func10, Tryd.ntmps10
      go_wp2_with (first
        | (go_at_call 11; refine HV.out.mono ?_; rintro e w1 ⟨rfl, b1⟩; have B1 := Lib.hid (below_then HB.out b1); have RA1 := Lib.hid (HRA.out.then b1); obtain ⟨k0, k1, k2, k3, k4, k5, k6, k7⟩ := RA1.out; dsimp only at k0 k1 k2 k3 k4 k5 k6 k7; clear b1)
        | (go_at_call 19; refine (HFew.out _ B1.out).mono ?_; rintro e w2 ⟨rfl, b2⟩; have B2 := Lib.hid (below_then B1.out b2); have RA2 := Lib.hid (RA1.out.then b2); clear b2 k0 k1 k2 k3 k4 k5 k6 k7; obtain ⟨l0, l1, l2, l3, l4, l5, l6, l7⟩ := RA2.out; dsimp only at l0 l1 l2 l3 l4 l5 l6 l7)
        | (go_at_call 23; refine (HC.out _ B2.out).mono ?_; rintro e w3 ⟨rfl, b3⟩; have B3 := Lib.hid (below_then B2.out b3); clear b3))
      go_ret
      exact ⟨rfl, B3.out⟩

theorem planitems_walk (H : PlanHas Gl) (q : Rq) (w : World) (hq : RqIn w w.heap.size q) (hG : Gl w) :
    Calls Tryd.prog 10 #[rqV q] w fun e w' => e = .returned (.bool true) ∧ Below w.heap.size w w' := planitems_any H q w hG hq

end Go.Proofs.YtlbfllaaabginaaDoor
