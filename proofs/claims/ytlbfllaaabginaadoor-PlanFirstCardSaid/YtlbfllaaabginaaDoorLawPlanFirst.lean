/-
  The walk of the law PlanFirst: it returns true for every request, and every two kinds of what may be wrong; nothing that was there is written.
-/
import Derived.Test.YtlbfllaaabginaaDoorPlanLive
import Derived.Test.YtlbfllaaabginaaDoorRefPlanReq
import Derived.Test.YtlbfllaaabginaaDoorSpoil
import Derived.Lib.MinMax
import Derived.Deep.CutRange
namespace Go.Proofs.YtlbfllaaabginaaDoor
open Go.RowKit

theorem two_kinds (i j : Nat) : ∃ a b u v : Nat, a ≤ b ∧ b < 8 ∧ (i : Int) % 8 = (u : Int) ∧ (j : Int) % 8 = (v : Int) ∧ min (u : Int) (v : Int) = (a : Int) ∧ max (u : Int) (v : Int) = (b : Int) := by
  have h1 : i % 8 < 8 := Nat.mod_lt _ (by omega)
  have h2 : j % 8 < 8 := Nat.mod_lt _ (by omega)
  exact ⟨min (i % 8) (j % 8), max (i % 8) (j % 8), i % 8, j % 8, by omega, by omega, by omega, by omega, by omega, by omega⟩
theorem Spl.n {k : Nat} {q q' : Rq} (h : Spl k q q') : q'.xa.length = if k = 2 then 0 else q.xa.length := by
  rw [h.xa]
  split
  · rfl
  · split
    · exact hdA_len _ _
    · split
      · exact hdA_len _ _
      · rfl
theorem Spl.len {k : Nat} {q q' : Rq} (h : Spl k q q') : q'.xs.length = if k = 5 then q.xs.length + 1 else q.xs.length := by
  rw [h.xs]
  split
  · rw [List.length_append]; rfl
  · split
    · exact List.length_set
    · rfl

set_option maxRecDepth 100000 in
set_option maxHeartbeats 8000000 in
theorem planfirst_yes (H : PlanHas Gl) (q : Rq) (i j : Nat) (w : World) (hG : Gl w) (hq : RqIn w w.heap.size q) (hok : Rok q) (h60 : rqN q ≤ 60) (hm : q.m ≤ 240) (hi : i < 256) (hj : j < 256)
    (HFew : Hid (∀ W, Below w.heap.size w W → Calls Tryd.prog 19 #[rqV q, .int .i64 60] W (RetB (.bool true) W))) :
    Calls Tryd.prog 9 #[rqV q, .int .u8 (i : Int), .int .u8 (j : Int)] w fun e w' => e = .returned (.bool true) ∧ Below w.heap.size w w' := by
  obtain ⟨a, b, u, v, hab, hb8, z1, z2, mn, mx⟩ := two_kinds i j
  have hB := below_al (Below.refl w.heap.size w) (rqO q 39)
  have HB := Lib.hid hB
  have HRA := Lib.hid (RqAt.new w 39 q)
  have HV := Lib.hid (live17_any H _ (H.keep hG hB))
  have HC := Lib.hid (fun q' W (hW : Below w.heap.size w W) (hq' : RqIn W W.heap.size q') => H.check q' W (H.keep hG hW) hq')
  have HIt := Lib.hid (fun q' W (hW : Below w.heap.size w W) (hq' : RqIn W W.heap.size q') => H.item q' 0 W (H.keep hG hW) hq' (by omega))
  have HQ := Lib.hid (fun W (hW : Below w.heap.size w W) => (hq.below hW).more hW.size)
  have hn4 : q.n ≤ 4 := by have := hok.ax.ok.four; rw [szs_len, hq.an] at this; exact this
  have hn1 : 1 ≤ q.n := by have := hok.ax.ok.one; rw [szs_len, hq.an] at this; exact this
  have hm1 : 1 ≤ q.m := by
    have h1 := hok.pos.1
    have h2 := hok.len
    have h3 : (1 : Int) * (rqN q : Int) ≤ q.b * (rqN q : Int) := Int.mul_le_mul_of_nonneg_right hok.b.1 (by omega)
    omega
  have HS1 := Lib.hid (fun W (hW : Below w.heap.size w W) => spoil17_any b q W hb8 (HQ.out W hW) hn4 hm1 (by omega) (fun _ => hn1))
  have HT1 : Hid (∀ q1, Spl b q q1 → chkE q1 = (b : Int) + 1) := Lib.hid (fun q1 hs => (hok.fin8 h60 hq.yn hb8).told hb8 hs hq.yn)
  have HF2 : Hid (∀ q1, Spl b q q1 → Fin8 a q1) := Lib.hid (fun q1 hs => hok.again h60 hq.yn hab hb8 hs)
  have HL : Hid (∀ q1, Spl b q q1 → q1.xa.length ≤ 4 ∧ (a = 3 ∨ a = 4 → 1 ≤ q1.xa.length) ∧ 1 ≤ q1.xs.length ∧ q1.xs.length ≤ 300) := Lib.hid (fun q1 hs => by
    have h1 := hs.n
    have h2 := hs.len
    rw [hq.an] at h1
    rw [hq.yn] at h2
    refine ⟨?_, fun h => ?_, ?_, ?_⟩
    · rw [h1]; split <;> omega
    · rw [h1, if_neg (by omega)]; exact hn1
    · rw [h2]; split <;> omega
    · rw [h2]; split <;> omega)
  have HZ := Lib.hid (fun W (hW : Below w.heap.size w W) => (HQ.out W hW).zr)
  have hCz := hok.zero
  have HC0 := Lib.hid (fun W hW => (HC.out q W hW (HQ.out W hW)))
  rw [hCz] at HC0
  unfold rqV at HFew HC0 ⊢
  unfold rqO at HB HRA HV
  clear hG hq hok h60 hB H hn4 hn1 hm1 hCz hm
  have ha8 : a < 8 := by omega
  have HAB := Lib.hid hab
  clear hab
  go_enter Tryd.func9, Tryd.ntmps9
  go_upto_region 7 with (first
    | (go_at_call 11; refine HV.out.mono ?_; rintro e w1 ⟨rfl, b1⟩; have B1 := Lib.hid (below_then HB.out b1); have RA1 := Lib.hid (HRA.out.then b1); obtain ⟨k0, k1, k2, k3, k4, k5, k6, k7⟩ := RA1.out; clear b1)
    | (go_at_call 19; refine (HFew.out _ B1.out).mono ?_; rintro e w2 ⟨rfl, b2⟩; have B2 := Lib.hid (below_then B1.out b2); have RA2 := Lib.hid (RA1.out.then b2); clear b2 k0 k1 k2 k3 k4 k5 k6 k7; obtain ⟨l0, l1, l2, l3, l4, l5, l6, l7⟩ := RA2.out)
    | (go_at_call 23; refine (HC0.out _ B2.out).mono ?_; rintro e w3 ⟨rfl, b3⟩; have B3 := Lib.hid (below_then B2.out b3); have RA3 := Lib.hid (RA2.out.then b3); clear b3 l0 l1 l2 l3 l4 l5 l6 l7))
  obtain ⟨k0, k1, k2, k3, k4, k5, k6, k7⟩ := RA3.out
  have HS := Lib.hid (HS1.out w3 B3.out)
  unfold rqV at HS
  clear HS1
  go_upto_region 8 with (go_at_call 30; refine HS.out.mono ?_; rintro e w4 ⟨q1, rfl, hs1, hq1, b4, hk1, hz1⟩; have S1 := Lib.hid hs1; have Q1 := Lib.hid hq1; have K1 := Lib.hid hk1; have Z1 := Lib.hid hz1; have C4 := Lib.hid b4; have B4 := Lib.hid (below_then B3.out b4); clear hs1 hq1 hk1 hz1 b4)
  have hb5 := below_al (Below.refl w4.heap.size w4) (.cells #[.int .u64 q1.p, .slice q1.x q1.n q1.cap, .bool q1.inv, .int .i64 q1.b, .slice q1.y q1.m q1.cy, .slice q1.z q1.k q1.cz, .int .i64 q1.rt, .int .i64 q1.ag] 39)
  have R5 := Lib.hid (RqB.new w4 q1)
  have Q5 := Lib.hid (Q1.out.then hb5)
  have B5 := Lib.hid (below_then B4.out hb5)
  obtain ⟨W5, hW5⟩ : ∃ W5, W5 = w4.alloc (.cells #[.int .u64 q1.p, .slice q1.x q1.n q1.cap, .bool q1.inv, .int .i64 q1.b, .slice q1.y q1.m q1.cy, .slice q1.z q1.k q1.cz, .int .i64 q1.rt, .int .i64 q1.ag] 39) := ⟨_, rfl⟩
  unfold rqO at R5
  rw [← hW5] at R5 Q5 B5 hb5 ⊢
  obtain ⟨g9, hg9⟩ : ∃ g, g = w4.heap.size := ⟨_, rfl⟩
  have HG9 := Lib.hid (show w.heap.size ≤ g9 by have := B4.out.size; omega)
  rw [← hg9] at R5 ⊢
  clear hW5 hb5 hg9 k0 k1 k2 k3 k4 k5 k6 k7
  have HC1 := Lib.hid (HC.out q1 W5 B5.out Q5.out)
  rw [HT1.out q1 S1.out] at HC1
  unfold rqV at HC1
  obtain ⟨k0, k1, k2, k3, k4, k5, k6, k7⟩ := R5.out.at
  have tb : (((b : Int) + 1) != ((b : Int) + 1)) = false := by simp
  go_upto_region 10 with (go_at_call 23; refine HC1.out.mono ?_; rintro e w6 ⟨rfl, b6⟩; have R6 := Lib.hid (R5.out.then b6); have Q6 := Lib.hid (Q5.out.then b6); have B6 := Lib.hid (below_then B5.out b6); clear b6)
  clear k0 k1 k2 k3 k4 k5 k6 k7 tb
  obtain ⟨k0, k1, k2, k3, k4, k5, k6, k7⟩ := R6.out.at
  have hL := HL.out q1 S1.out
  rw [Q6.out.an, Q6.out.yn] at hL
  have HS2 := Lib.hid (spoil17_any a q1 w6 ha8 Q6.out hL.1 hL.2.2.1 hL.2.2.2 hL.2.1)
  unfold rqV at HS2
  clear hL
  go_upto_region 11 with (go_at_call 30; refine HS2.out.mono ?_; rintro e w7 ⟨q2, rfl, hs2, hq2, b7, hk2, hz2⟩; have S2 := Lib.hid hs2; have Q2 := Lib.hid hq2; have K2 := Lib.hid hk2; have Z2 := Lib.hid hz2; have C7 := Lib.hid b7; have B7 := Lib.hid (below_then B6.out b7); have R7 := Lib.hid (R6.out.then b7); clear hs2 hq2 hk2 hz2 b7 k0 k1 k2 k3 k4 k5 k6 k7; obtain ⟨l0, l1, l2, l3, l4, l5, l6, l7⟩ := R7.out.at; obtain ⟨f0, f1, f2, f3, f4, f5, f6, f7⟩ := And.intro (R7.out.fr 0) (And.intro (R7.out.fr 1) (And.intro (R7.out.fr 2) (And.intro (R7.out.fr 3) (And.intro (R7.out.fr 4) (And.intro (R7.out.fr 5) (And.intro (R7.out.fr 6) (R7.out.fr 7))))))))
  clear l0 l1 l2 l3 l4 l5 l6 l7 f0 f1 f2 f3 f4 f5 f6 f7
  obtain ⟨W8, hW8⟩ : ∃ W8, W8 = set8 w7 g9 q2 := ⟨_, rfl⟩
  have R8 := Lib.hid (R7.out.all q2)
  have B8 := Lib.hid (below_set8 B7.out HG9.out q2)
  have hg7 := R6.out.lt
  have hst : ∀ j, w6.heap.size ≤ j → j < w7.heap.size → (set8 w7 g9 q2).heap[j]? = w7.heap[j]? := fun j h1 _ => set8_block w7 g9 q2 (by omega)
  rw [← hW8] at R8 B8 hst
  unfold set8 at hW8
  rw [← hW8]
  have hz8 : Reads .u64 W8 W8.heap.size q2.z q2.zs := by
    rcases Z2.out with ⟨e1, e2⟩ | ⟨_, e2⟩
    · rw [e1, e2]
      rcases Z1.out with ⟨e3, e4⟩ | ⟨_, e4⟩
      · rw [e3, e4]; exact HZ.out W8 B8.out
      · rw [e4]; exact fun hn => absurd hn (by simp)
    · rw [e2]; exact fun hn => absurd hn (by simp)
  have Q8 := Lib.hid (K2.out W8 hst hz8)
  have hE := (HF2.out q1 S1.out).told ha8 S2.out Q1.out.yn
  have hI : itE q2 0 = (a : Int) + 1 := by rw [itE_chk (by omega), hE]
  have HC2 := Lib.hid (fun W (hW : Below W8.heap.size W8 W) => HC.out q2 W (below_then B8.out hW) (Q8.out.then hW))
  rw [hE] at HC2
  have HI2 := Lib.hid (HIt.out q2 W8 B8.out Q8.out)
  rw [itL_no (by omega), hI] at HI2
  unfold rqV at HC2 HI2
  clear hg7 hst hW8 hz8 hE hI
  have te : (((a : Int) + 1) == ((a : Int) + 1)) = true := by simp
  obtain ⟨k0, k1, k2, k3, k4, k5, k6, k7⟩ := R8.out.at
  go_wp2_with (first
    | (go_at_call 20; refine HI2.out.mono ?_; rintro e w9 ⟨v, rfl, hO, b9⟩; obtain ⟨x9, c9, rfl, -, -, -, -⟩ := hO.form; rw [List.length_nil]; have B9 := Lib.hid b9; have R9 := Lib.hid (R8.out.then b9); clear hO b9 k0 k1 k2 k3 k4 k5 k6 k7; obtain ⟨l0, l1, l2, l3, l4, l5, l6, l7⟩ := R9.out.at)
    | (go_at_call 23; refine (HC2.out _ B9.out).mono ?_; rintro e w10 ⟨rfl, b10⟩; have B10 := Lib.hid (below_then B9.out b10); clear b10))
  go_ret
  exact ⟨rfl, below_then B8.out B10.out⟩

set_option maxRecDepth 100000 in
set_option maxHeartbeats 4000000 in
theorem planfirst_any (H : PlanHas Gl) (q : Rq) (i j : Nat) (w : World) (hG : Gl w) (hq : RqIn w w.heap.size q) (hi : i < 256) (hj : j < 256) :
    Calls Tryd.prog 9 #[rqV q, .int .u8 (i : Int), .int .u8 (j : Int)] w fun e w' => e = .returned (.bool true) ∧ Below w.heap.size w w' := by
  have hB := below_al (Below.refl w.heap.size w) (rqO q 39)
  have HB := Lib.hid hB
  have HRA := Lib.hid (RqAt.new w 39 q)
  have HV := Lib.hid (live17_any H _ (H.keep hG hB))
  have hno : ∀ f, Hid (∀ W, Below w.heap.size w W → Calls Tryd.prog 19 #[rqV q, .int .i64 60] W (RetB (.bool f) W)) → f = false →
      Calls Tryd.prog 9 #[rqV q, .int .u8 (i : Int), .int .u8 (j : Int)] w fun e w' => e = .returned (.bool true) ∧ Below w.heap.size w w' := by
    rintro f HFew rfl
    unfold rqV at HFew ⊢
    unfold rqO at HB HRA HV
    clear hG hq hB H
    obtain ⟨p, x, n, cap, xa, inv, b, y, m, cy, xs, zo, k, cz, zs, rt, ag⟩ := q
    dsimp only at *
    go_enter Tryd.func9, Tryd.ntmps9
    go_wp2_with (first
      | (go_at_call 11; refine HV.out.mono ?_; rintro e w1 ⟨rfl, b1⟩; have B1 := Lib.hid (below_then HB.out b1); have RA1 := Lib.hid (HRA.out.then b1); obtain ⟨k0, k1, k2, k3, k4, k5, k6, k7⟩ := RA1.out; dsimp only at k0 k1 k2 k3 k4 k5 k6 k7; clear b1)
      | (go_at_call 19; refine (HFew.out _ B1.out).mono ?_; rintro e w2 ⟨rfl, b2⟩; have B2 := Lib.hid (below_then B1.out b2); clear b2))
    go_ret
    exact ⟨rfl, B2.out⟩
  by_cases hC : chkE q = 0
  · have hok := chkE_zero hC
    have HFew := few17_of q _ w (few_is q.x q.n q.cap q.xa 60 w hok.ax hq.ax hq.an hq.al)
    cases hb : (decide (((Sh.prod (szs q.xa) : Nat) : Int) ≤ 60) && decide (q.m ≤ 240) && decide (q.k ≤ 10))
    · exact hno _ HFew hb
    · rw [hb] at HFew
      simp at hb
      refine planfirst_yes H q i j w hG hq hok ?_ ?_ hi hj HFew
      · show Sh.prod (szs q.xa) ≤ 60
        omega
      · omega
  · obtain ⟨f, hF⟩ := few_any q.x q.n q.cap q.xa 60 w hq.ax hq.an hq.al
    have HFew := few17_of q f w hF
    cases hb : (f && decide (q.m ≤ 240) && decide (q.k ≤ 10))
    · exact hno _ HFew hb
    · rw [hb] at HFew
      have HC := Lib.hid (fun W (hW : Below w.heap.size w W) => H.check q W (H.keep hG hW) ((hq.below hW).more hW.size))
      have t := ne_of_bne hC
      clear hno
      unfold rqV at HFew HC ⊢
      unfold rqO at HB HRA HV
      generalize chkE q = er at HC t
      clear hG hq hB H hb hF hC
      obtain ⟨p, x, n, cap, xa, inv, b, y, m, cy, xs, zo, k, cz, zs, rt, ag⟩ := q
      dsimp only at *
      go_enter Tryd.func9, Tryd.ntmps9
      go_wp2_with (first
        | (go_at_call 11; refine HV.out.mono ?_; rintro e w1 ⟨rfl, b1⟩; have B1 := Lib.hid (below_then HB.out b1); have RA1 := Lib.hid (HRA.out.then b1); obtain ⟨k0, k1, k2, k3, k4, k5, k6, k7⟩ := RA1.out; dsimp only at k0 k1 k2 k3 k4 k5 k6 k7; clear b1)
        | (go_at_call 19; refine (HFew.out _ B1.out).mono ?_; rintro e w2 ⟨rfl, b2⟩; have B2 := Lib.hid (below_then B1.out b2); have RA2 := Lib.hid (RA1.out.then b2); clear b2 k0 k1 k2 k3 k4 k5 k6 k7; obtain ⟨l0, l1, l2, l3, l4, l5, l6, l7⟩ := RA2.out; dsimp only at l0 l1 l2 l3 l4 l5 l6 l7)
        | (go_at_call 23; refine (HC.out _ B2.out).mono ?_; rintro e w3 ⟨rfl, b3⟩; have B3 := Lib.hid (below_then B2.out b3); clear b3))
      go_ret
      exact ⟨rfl, B3.out⟩

theorem planfirst_walk (H : PlanHas Gl) (q : Rq) (i j : Int) (w : World) (hq : RqIn w w.heap.size q) (hi : (Lit.int .u8 i).wf = true) (hj : (Lit.int .u8 j).wf = true) (hG : Gl w) :
    Calls Tryd.prog 9 #[rqV q, .int .u8 i, .int .u8 j] w fun e w' => e = .returned (.bool true) ∧ Below w.heap.size w w' := by
  have hi2 := u8_of hi
  have hj2 := u8_of hj
  obtain ⟨i', rfl⟩ := Int.eq_ofNat_of_zero_le hi2.1
  obtain ⟨j', rfl⟩ := Int.eq_ofNat_of_zero_le hj2.1
  exact planfirst_any H q i' j' w hG hq (by omega) (by omega)

end Go.Proofs.YtlbfllaaabginaaDoor
