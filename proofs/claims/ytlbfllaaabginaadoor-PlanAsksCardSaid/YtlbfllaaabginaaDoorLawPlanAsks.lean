/-
  The walk of the law PlanAsks: it returns true for every request, every item; nothing that was there is written.
-/
import Derived.Test.YtlbfllaaabginaaDoorPlanLive
import Derived.Test.YtlbfllaaabginaaDoorRefPlanReq
import Derived.Test.YtlbfllaaabginaaDoorRows2
import Derived.Test.YtlbfllaaabginaaDoorFlys
import Derived.Deep.CutRange
namespace Go.Proofs.YtlbfllaaabginaaDoor
open Go.RowKit

theorem part_small (q : Rq) (i : Nat) : (part q i).length ≤ q.xs.length := by unfold part; rw [List.length_take, List.length_drop]; omega
theorem itL_small (q : Rq) (i : Int) : (itL q i).length ≤ q.xs.length := by
  unfold itL
  split
  · exact part_small _ _
  · simp

set_option maxRecDepth 100000 in
set_option maxHeartbeats 8000000 in
theorem planasks_few (H : PlanHas Gl) (q : Rq) (i : Int) (w : World) (hG : Gl w) (hq : RqIn w w.heap.size q) (hi : -9223372036854775808 ≤ i ∧ i < 9223372036854775808) (hm : q.m ≤ 240)
    (HFew : Hid (∀ W, Below w.heap.size w W → Calls Tryd.prog 19 #[rqV q, .int .i64 60] W (RetB (.bool true) W))) :
    Calls Tryd.prog 4 #[rqV q, .int .i64 i] w fun e w' => e = .returned (.bool true) ∧ Below w.heap.size w w' := by
  have hB := below_al (Below.refl w.heap.size w) (rqO q 39)
  have HB := Lib.hid hB
  have HRA := Lib.hid (RqAt.new w 39 q)
  have HV := Lib.hid (live17_any H _ (H.keep hG hB))
  have HI := Lib.hid (fun W (hW : Below w.heap.size w W) => H.item q i W (H.keep hG hW) ((hq.below hW).more hW.size) hi)
  have HR := Lib.hid (fun W (hW : Below w.heap.size w W) => ritem17_any q i W ((hq.below hW).more hW.size) hi)
  have HC := Lib.hid (fun W (hW : Below w.heap.size w W) => H.check q W (H.keep hG hW) ((hq.below hW).more hW.size))
  have HK := Lib.hid (fun W (hW : Below w.heap.size w W) => rcheck17_any q W ((hq.below hW).more hW.size))
  have HSr := Lib.hid (fun W (hW : Below w.heap.size w W) => ((hq.below hW).more hW.size).src)
  have HY := Lib.hid (fun W (hW : Below w.heap.size w W) => ((hq.below hW).more hW.size).yr)
  have HYn := Lib.hid hq.yn
  have hps := itL_small q i
  rw [hq.yn] at hps
  have te : (itE q i == itE q i) = true := by simp
  have tc : (chkE q == chkE q) = true := by simp
  generalize itL q i = ls at HI HR hps
  generalize itE q i = er at HI HR te
  generalize chkE q = ec at HC HK tc
  obtain ⟨l, hl⟩ : ∃ l, l = ls.length := ⟨_, rfl⟩
  have HL := Lib.hid hl
  rw [← hl] at hps
  obtain ⟨i0, hi0, hz0, hz1, hz2⟩ := info_parts info_u64
  unfold rqV at HI HR HC HK HFew ⊢
  unfold rqO at HB HRA HV
  clear hG hq hB H hl hi
  obtain ⟨p, x, n, cap, xa, inv, b, y, m, cy, xs, zo, k, cz, zs, rt, ag⟩ := q
  dsimp only at *
  go_enter Tryd.func4, Tryd.ntmps4
  go_upto_region 5 with (first
    | (go_at_call 11; refine HV.out.mono ?_; rintro e w1 ⟨rfl, b1⟩; have B1 := Lib.hid (below_then HB.out b1); have RA1 := Lib.hid (HRA.out.then b1); obtain ⟨k0, k1, k2, k3, k4, k5, k6, k7⟩ := RA1.out; dsimp only at k0 k1 k2 k3 k4 k5 k6 k7; clear b1)
    | (go_at_call 19; refine (HFew.out _ B1.out).mono ?_; rintro e w2 ⟨rfl, b2⟩; have B2 := Lib.hid (below_then B1.out b2); have RA2 := Lib.hid (RA1.out.then b2); clear b2 k0 k1 k2 k3 k4 k5 k6 k7))
  obtain ⟨k0, k1, k2, k3, k4, k5, k6, k7⟩ := RA2.out
  dsimp only at k0 k1 k2 k3 k4 k5 k6 k7
  go_upto_region 6 with (at_builtin; refine wpList_copy_new rfl _ _ 37 rfl 22 i0 .u64 8 Tryd.underlying37 hi0 hz0 hz1 hz2 y m cy xs rfl rfl (HSr.out _ B2.out) (by unfold maxLen; omega) (by omega) ?_; intro v3 w3 hO b3; obtain ⟨x3, c3, hv3, -, -, hr3, -⟩ := hO.form; rw [HYn.out] at hv3; subst hv3; have R3 := Lib.hid hr3; have B3 := Lib.hid (below_then B2.out b3); have RA3 := Lib.hid (RA2.out.then b3); clear b3 hO hr3)
  clear k0 k1 k2 k3 k4 k5 k6 k7
  obtain ⟨k0, k1, k2, k3, k4, k5, k6, k7⟩ := RA3.out
  dsimp only at k0 k1 k2 k3 k4 k5 k6 k7
  go_upto_region 7 with (go_at_call 20; refine (HI.out _ B3.out).mono ?_; rintro e w4 ⟨v, rfl, hO, b4⟩; obtain ⟨x4, c4, rfl, -, -, hr4, hg4⟩ := hO.form; have R4 := Lib.hid hr4; have O4 := Lib.hid (OwnsSome.of hO); have HG4 := Lib.hid hg4; have C4 := Lib.hid b4; have B4 := Lib.hid (below_then B3.out b4); have RA4 := Lib.hid (RA3.out.then b4); rw [← HL.out] at O4 HG4 ⊢; clear b4 hO hr4 hg4)
  clear k0 k1 k2 k3 k4 k5 k6 k7
  obtain ⟨k0, k1, k2, k3, k4, k5, k6, k7⟩ := RA4.out
  dsimp only at k0 k1 k2 k3 k4 k5 k6 k7
  go_upto_region 8 with (go_at_call 21; refine (HR.out _ B4.out).mono ?_; rintro e w5 ⟨v, rfl, hO, b5⟩; obtain ⟨x5, c5, rfl, -, -, hr5, -⟩ := hO.form; have R5 := Lib.hid hr5; have Q4 := Lib.hid ((R4.out.below b5).more b5.size); have D5 := Lib.hid (O4.out.keep b5); have C5 := Lib.hid (below_then C4.out b5); have B5 := Lib.hid (below_then B4.out b5); have RA5 := Lib.hid (RA4.out.then b5); rw [← HL.out]; clear b5 hO hr5)
  clear k0 k1 k2 k3 k4 k5 k6 k7
  obtain ⟨k0, k1, k2, k3, k4, k5, k6, k7⟩ := RA5.out
  dsimp only at k0 k1 k2 k3 k4 k5 k6 k7
  have s0 := fun s : Since w5 => s.at k0
  have s1 := fun s : Since w5 => s.at k1
  have s2 := fun s : Since w5 => s.at k2
  have s3 := fun s : Since w5 => s.at k3
  have s4 := fun s : Since w5 => s.at k4
  have s5 := fun s : Since w5 => s.at k5
  have s6 := fun s : Since w5 => s.at k6
  have s7 := fun s : Since w5 => s.at k7
  have HSm := Lib.hid (fun s : Since w5 => same_self x4 x5 l c4 c5 ls s.out s.out.heap.size ((Q4.out.below s.below).more s.below.size) ((R5.out.below s.below).more s.below.size) HL.out.symm (by omega))
  refine wp_region_since (by kernel_rfl) (by kernel_rfl) ?_
  repeat (go_big_quiet_step (first
    | (go_at_call 22; rename_i s; exact since_quiet s (HSm.out s))
    | (go_at_call 23; rename_i s; exact since_call s (HC.out _ (below_then B5.out s.below)))
    | (go_at_call 24; rename_i s; exact since_call s (HK.out _ (below_then B5.out s.below)))))
  refine wpQuiet_nil ?_
  rintro W6 ⟨⟨_, hb6⟩, rfl⟩
  have hst := D5.out.keep hb6
  have hbl := below_then C5.out hb6
  clear s0 s1 s2 s3 s4 s5 s6 s7 k0 k1 k2 k3 k4 k5 k6 k7 HSm HI HR HC HK R4 R5 Q4 D5 C5 B5 RA5 RA4 O4 B4 hb6
  go_wp2
  go_loopw [49] (fun i wr => ∃ k : Nat, k ≤ l ∧ i = .int .i64 (k : Int) ∧ OwnsSome wr w3.heap.size (.slice x4 l c4) l ∧ Below w3.heap.size w3 wr) (fun i _ => l - (intOf i).toNat)
  case atStart => exact ⟨0, Nat.zero_le _, rfl, hst, hbl⟩
  case round =>
    obtain ⟨k, hk, rfl, hO, hW⟩ := hrel
    clear hst hbl
    by_cases hlt : k < l
    · have hdk : decide (k < l) = true := by simpa using hlt
      obtain ⟨g, rfl, hg, -⟩ := HG4.out (by omega)
      obtain ⟨y, hc⟩ := hO.cell hlt
      have hf := hO.frozen k
      go_wp2
      go_roundw
      case rel => exact ⟨k + 1, by omega, by go_num, hO.set _, hW.setCell (p := ⟨g, k, none⟩) hg _⟩
      case measure => simp [intOf]; omega
    · obtain rfl : k = l := by omega
      have hdk : decide (k < k) = false := by simp
      have hfin := below_then B3.out hW
      have RX := Lib.hid (HY.out _ hfin)
      have R0' := Lib.hid ((R3.out.below hW).more hW.size)
      obtain ⟨k0, k1, k2, k3, k4, k5, k6, k7⟩ := RA3.out.then hW
      dsimp only at k0 k1 k2 k3 k4 k5 k6 k7
      have HF := Lib.hid hfin
      clear hO hW hfin
      go_wp2_with (go_at_call 22; refine (same_self y x3 m cy c3 xs _ wr.heap.size RX.out R0'.out HYn.out (by omega)).mono ?_; rintro e w' ⟨rfl, n6, rfl⟩)
      go_ret
      exact ⟨rfl, below_draws HF.out _⟩

set_option maxRecDepth 100000 in
set_option maxHeartbeats 4000000 in
theorem planasks_any (H : PlanHas Gl) (q : Rq) (i : Int) (w : World) (hG : Gl w) (hq : RqIn w w.heap.size q) (hi : -9223372036854775808 ≤ i ∧ i < 9223372036854775808) :
    Calls Tryd.prog 4 #[rqV q, .int .i64 i] w fun e w' => e = .returned (.bool true) ∧ Below w.heap.size w w' := by
  obtain ⟨f, hF⟩ := few_any q.x q.n q.cap q.xa 60 w hq.ax hq.an hq.al
  have HFew := few17_of q f w hF
  cases hb : (f && decide (q.m ≤ 240) && decide (q.k ≤ 10))
  · rw [hb] at HFew
    have hB := below_al (Below.refl w.heap.size w) (rqO q 39)
    have HB := Lib.hid hB
    have HRA := Lib.hid (RqAt.new w 39 q)
    have HV := Lib.hid (live17_any H _ (H.keep hG hB))
    unfold rqV at HFew ⊢
    unfold rqO at HB HRA HV
    clear hG hq hB H hb hF hi
    obtain ⟨p, x, n, cap, xa, inv, b, y, m, cy, xs, zo, k, cz, zs, rt, ag⟩ := q
    dsimp only at *
    go_enter Tryd.func4, Tryd.ntmps4
    go_wp2_with (first
      | (go_at_call 11; refine HV.out.mono ?_; rintro e w1 ⟨rfl, b1⟩; have B1 := Lib.hid (below_then HB.out b1); have RA1 := Lib.hid (HRA.out.then b1); obtain ⟨k0, k1, k2, k3, k4, k5, k6, k7⟩ := RA1.out; dsimp only at k0 k1 k2 k3 k4 k5 k6 k7; clear b1)
      | (go_at_call 19; refine (HFew.out _ B1.out).mono ?_; rintro e w2 ⟨rfl, b2⟩; have B2 := Lib.hid (below_then B1.out b2); clear b2))
    go_ret
    exact ⟨rfl, B2.out⟩
  · rw [hb] at HFew
    refine planasks_few H q i w hG hq hi ?_ HFew
    simp at hb
    omega

theorem planasks_walk (H : PlanHas Gl) (q : Rq) (i : Int) (w : World) (hq : RqIn w w.heap.size q) (hi : (Lit.int .i64 i).wf = true) (hG : Gl w) :
    Calls Tryd.prog 4 #[rqV q, .int .i64 i] w fun e w' => e = .returned (.bool true) ∧ Below w.heap.size w w' := by
  have := i64_of hi
  exact planasks_any H q i w hG hq (by omega)

end Go.Proofs.YtlbfllaaabginaaDoor
