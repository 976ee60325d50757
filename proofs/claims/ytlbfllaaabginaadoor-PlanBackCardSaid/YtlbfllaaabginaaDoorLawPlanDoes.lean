/-
  The walk of the law PlanDoes: it returns true for every prime, all axes, either way; nothing that was there is written.
-/
import Derived.Test.YtlbfllaaabginaaDoorPlanLive
import Derived.Test.YtlbfllaaabginaaDoorRefPlanTwo
import Derived.Test.YtlbfllaaabginaaDoorGrids
namespace Go.Proofs.YtlbfllaaabginaaDoor
open Go.RowKit

theorem plL_small (p : Int) (xa : List Ax) (inv : Bool) : (Stp.plL p xa inv).length ≤ 56 := by
  unfold Stp.plL
  split
  · rename_i h
    have hA := gridE_zero h
    have h4 : xa.length ≤ 4 := by have := hA.ok.four; rwa [szs_len] at this
    have := Stp.plS_len (inv := inv) hA (Nat.le_refl xa.length)
    omega
  · simp

set_option maxRecDepth 100000 in
set_option maxHeartbeats 4000000 in
theorem plandoes_any (H : PlanHas Gl) (p : Int) (x : Option Addr) (n cap : Nat) (xa : List Ax) (inv : Bool) (w : World) (hG : Gl w) (hx : ReadsA w w.heap.size x xa) (hn : xa.length = n) (hl : n ≤ 8796093022208) :
    Calls Tryd.prog 3 #[.int .u64 p, .slice x n cap, .bool inv] w fun e w' => e = .returned (.bool true) ∧ Below w.heap.size w w' := by
  have HV := Lib.hid (live17_any H _ hG)
  obtain ⟨b, HFew⟩ := few_any x n cap xa 100 w hx hn hl
  have HS := Lib.hid (fun W (hB : Below w.heap.size w W) => H.steps p x n cap xa inv W (H.keep hG hB) ((hx.below hB).more hB.size) hn hl)
  have HR := Lib.hid (fun W (hB : Below w.heap.size w W) => rsteps17_any p x n cap xa inv W ((hx.below hB).more hB.size) hn hl)
  have HM := Lib.hid (fun W (hB : Below w.heap.size w W) => H.make p x n cap xa inv W (H.keep hG hB) ((hx.below hB).more hB.size) hn hl)
  have HQ := Lib.hid (fun W (hB : Below w.heap.size w W) => rmake17_any p x n cap xa inv W ((hx.below hB).more hB.size) hn hl)
  cases b
  · clear hx hG hn H HS HR HM HQ
    go_enter Tryd.func3, Tryd.ntmps3
    go_wp2_with (first
      | (go_at_call 11; refine HV.out.mono ?_; rintro e w1 ⟨rfl, b1⟩; have B1 := Lib.hid b1; clear b1)
      | (go_at_call 12; refine (HFew.out _ B1.out).mono ?_; rintro e w2 ⟨rfl, b2⟩; have B2 := Lib.hid (below_then B1.out b2); clear b2))
    go_ret
    exact ⟨rfl, B2.out⟩
  have hLs := plL_small p xa inv
  have te : ((gridE p xa) == (gridE p xa)) = true := by simp
  generalize Stp.plL p xa inv = L at HS HR HM HQ hLs
  generalize gridE p xa = er at HS HR HM HQ te
  generalize ((plN p xa : Nat) : Int) = N at HM HQ
  generalize ((plT p xa inv : Nat) : Int) = T at HM HQ
  generalize ((plW p xa inv : Nat) : Int) = Ws at HM HQ
  obtain ⟨m, hm⟩ : ∃ m, m = L.length := ⟨_, rfl⟩
  have HL := Lib.hid hm
  have hm5 : m ≤ 56 := by omega
  clear hx hG hn H hLs hm
  go_enter Tryd.func3, Tryd.ntmps3
  go_upto_region 9 with (first
    | (go_at_call 11; refine HV.out.mono ?_; rintro e w1 ⟨rfl, b1⟩; have B1 := Lib.hid b1; clear b1)
    | (go_at_call 12; refine (HFew.out _ B1.out).mono ?_; rintro e w2 ⟨rfl, b2⟩; have B2 := Lib.hid (below_then B1.out b2); clear b2)
    | (go_at_call 13; refine (HS.out _ B2.out).mono ?_; rintro e w3 ⟨v, rfl, hO, b3⟩; obtain ⟨y3, c3, rfl, -, -, hr⟩ := hO.form; have R3 := Lib.hid hr; have B3 := Lib.hid (below_then B2.out b3); rw [← HL.out]; clear b3 hO hr)
    | (go_at_call 14; refine (HR.out _ B3.out).mono ?_; rintro e w4 ⟨v, rfl, hO, b4⟩; obtain ⟨y4, c4, rfl, -, -, hr⟩ := hO.form; have R4 := Lib.hid hr; have Q3 := Lib.hid ((R3.out.below b4).more b4.size); have B4 := Lib.hid (below_then B3.out b4); rw [← HL.out]; clear b4 hO hr)
    | (go_at_call 15; refine (HM.out _ B4.out).mono ?_; rintro e w5 ⟨v, rfl, hO, b5⟩; obtain ⟨y5, c5, rfl, -, -, hr⟩ := hO.form; have R5 := Lib.hid hr; have B5 := Lib.hid (below_then B4.out b5); have Q5 := Lib.hid (And.intro ((Q3.out.below b5).more b5.size) ((R4.out.below b5).more b5.size)); rw [← HL.out]; unfold plV; clear b5 hO hr)
    | (go_at_call 16; have hb := below_al (Below.refl w5.heap.size w5) (.cells #[.int .i64 N, .int .i64 T, .int .i64 Ws, .slice y5 m c5] 31); refine (HQ.out _ (below_then B5.out hb)).mono ?_; rintro e w6 ⟨v, rfl, hO, b6⟩; obtain ⟨y6, c6, rfl, -, -, hr⟩ := hO.form; have hbb := below_then hb b6; have R6 := Lib.hid hr; have P6 := Lib.hid ((Pl4.new w5 N T Ws (.slice y5 m c5)).then b6); have B6 := Lib.hid (below_then B5.out hbb); have Q6 := Lib.hid (And.intro ((Q5.out.1.below hbb).more hbb.size) (And.intro ((Q5.out.2.below hbb).more hbb.size) ((R5.out.below hbb).more hbb.size))); rw [← HL.out]; unfold plV; clear b6 hO hr hb hbb))
  have hb := below_al (Below.refl w6.heap.size w6) (.cells #[.int .i64 N, .int .i64 T, .int .i64 Ws, .slice y6 m c6] 31)
  have P7 := P6.out.then hb
  have P8 := Pl4.new w6 N T Ws (.slice y6 m c6)
  have B7 := Lib.hid (below_then B6.out hb)
  have r3 := (Q6.out.1.below hb).more hb.size
  have r4 := (Q6.out.2.1.below hb).more hb.size
  have r5 := (Q6.out.2.2.below hb).more hb.size
  have r6 := (R6.out.below hb).more hb.size
  obtain ⟨W7, hW7⟩ : ∃ W7, W7 = w6.alloc (.cells #[.int .i64 N, .int .i64 T, .int .i64 Ws, .slice y6 m c6] 31) := ⟨_, rfl⟩
  rw [← hW7] at P7 P8 B7 r3 r4 r5 r6 ⊢
  have HSS := Lib.hid (sameSteps_self y3 y4 m c3 c4 L W7 W7.heap.size r3 r4 HL.out.symm (by omega))
  have HSP := Lib.hid (fun nd => samePlan_self N T Ws y5 y6 m c5 c6 L (W7.drewN nd) r5 r6 HL.out.symm (by omega))
  unfold plV at HSP
  obtain ⟨k0, k1, k2, k3⟩ := And.intro P7.c0 (And.intro P7.c1 (And.intro P7.c2 P7.c3))
  obtain ⟨l0, l1, l2, l3⟩ := And.intro P8.c0 (And.intro P8.c1 (And.intro P8.c2 P8.c3))
  clear hW7 P7 P8 r3 r4 r5 r6 hb HS HR HM HQ R6 Q6 R5 Q5 R4 Q3 P6
  go_wp2_with (first
    | (go_at_call 17; refine HSS.out.mono ?_; rintro e w' ⟨rfl, nd, rfl⟩)
    | (go_at_call 18; refine (HSP.out _).mono ?_; rintro e w8 ⟨rfl, b8⟩; have B8 := Lib.hid (below_then B7.out (below_of_draws b8)); clear b8))
  go_ret
  exact ⟨rfl, B8.out⟩

theorem plandoes_walk (H : PlanHas Gl) (p : Int) (x : Option Addr) (len cap : Nat) (xa : List Ax) (inv : Bool) (w : World) (_hp : (Lit.int .u64 p).wf = true) (hA : AxisIn w x len cap xa) (hlb : len ≤ 8796093022208) (hG : Gl w) :
    Calls Tryd.prog 3 #[.int .u64 p, .slice x len cap, .bool inv] w fun e w' => e = .returned (.bool true) ∧ Below w.heap.size w w' := by
  obtain ⟨hn, hc1, hc2, hx, -⟩ := hA
  exact plandoes_any H p x len cap xa inv w hG hx hn hlb

end Go.Proofs.YtlbfllaaabginaaDoor
