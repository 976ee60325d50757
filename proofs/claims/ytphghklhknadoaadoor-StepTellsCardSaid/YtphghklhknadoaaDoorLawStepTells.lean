/-
  The walk of the law StepTells: it returns true for every prime, all axes, every step, either way; nothing that was there is written.
-/
import Derived.Test.YtphghklhknadoaaDoorStepA
import Derived.Test.YtphghklhknadoaaDoorGrids
import Derived.Test.YtphghklhknadoaaDoorRows2
import Derived.Test.YtphghklhknadoaaDoorStepRefs

namespace Go.Proofs.YtphghklhknadoaaDoor
open Go.RowKit

theorem tabL_le (p : Int) (xa : List Ax) (inv : Bool) (s : Sp) : (Stp.tabL p xa inv s).length ≤ 4096 := by
  by_cases hE : Stp.stepE p xa s = 0
  · have hs := Stp.stepE_zero hE
    rw [hs.tab]
    have := hs.tab_le.2
    simpa using this
  · unfold Stp.tabL
    rw [if_neg hE]
    simp
theorem grpL_le (p : Int) (xa : List Ax) (s : Sp) : (grpL p xa s).length ≤ 4096 := by
  unfold grpL
  split
  · rename_i h
    exact Stp.grp_len (Stp.stepE_zero h)
  · simp
theorem grpL_ok (p : Int) (xa : List Ax) (s : Sp) : ∀ g ∈ grpL p xa s, g.inn.length = g.out.length ∧ g.fac.length = g.out.length ∧ g.inn.length ≤ 5 := by
  intro g hg
  unfold grpL at hg
  split at hg
  · rename_i h
    obtain ⟨a, b, -, c, -⟩ := Stp.grp_ok (Stp.stepE_zero h) hg
    exact ⟨a, b, c⟩
  · cases hg

set_option maxRecDepth 100000 in
set_option maxHeartbeats 4000000 in
theorem steptells_any {G : World → Prop} (H : StepHas G) (HG : GrpHas G) (p : Int) (x : Option Addr) (n cap : Nat) (xa : List Ax) (inv : Bool) (s : Sp) (w : World) (hG : G w) (hx : ReadsA w w.heap.size x xa) (hn : xa.length = n) (hlb : n ≤ 8796093022208) (hs : SpIn s) :
    Calls Tryd.prog 4 #[.int .u64 p, .slice x n cap, .bool inv, spV s] w fun e w' => e = .returned (.bool true) ∧ Below w.heap.size w w' := by
  have HB := Lib.hid (below_al (Below.refl _ w) (.cells #[.int .i64 s.ax, .bool s.tw, .int .i64 s.st.r, .int .i64 s.st.l, .int .i64 s.st.m] 27))
  have HS := Lib.hid (SpAt.new w 27 s)
  have HV := Lib.hid (live16_any H _ (H.keep hG HB.out))
  obtain ⟨b, HFew⟩ := few_any x n cap xa 64 w hx hn hlb
  have H1 := Lib.hid (fun W (hB : Below w.heap.size w W) => H.table p x n cap xa inv s W (H.keep hG hB) ((hx.below hB).more hB.size) hn hlb hs)
  have H2 := Lib.hid (fun W (hB : Below w.heap.size w W) => rtable16_any p x n cap xa inv s W ((hx.below hB).more hB.size) hn hlb)
  have H3 := Lib.hid (fun W (hB : Below w.heap.size w W) => HG.groups p x n cap xa s W (H.keep hG hB) ((hx.below hB).more hB.size) hn hlb hs)
  have H4 := Lib.hid (fun W (hB : Below w.heap.size w W) => rgroups16_any p x n cap xa s W ((hx.below hB).more hB.size) hn hlb)
  cases b
  · clear H1 H2 H3 H4 hx hG hn H
    obtain ⟨sax, stw, sr, sl, sm⟩ := s
    unfold spV
    dsimp only at HB HS HV ⊢
    go_enter Tryd.func4, Tryd.ntmps4
    go_wp2_with (first
      | (go_at_call 12; refine HV.out.mono ?_; rintro e w1 ⟨rfl, b1⟩; have B1 := Lib.hid (below_then HB.out b1); clear b1)
      | (go_at_call 13; refine (HFew.out _ B1.out).mono ?_; rintro e w2 ⟨rfl, b2⟩; have B2 := Lib.hid (below_then B1.out b2); clear b2))
    go_ret
    exact ⟨rfl, B2.out⟩
  have kt := tabL_le p xa inv s
  have kg := grpL_le p xa s
  have HGk := Lib.hid (grpL_ok p xa s)
  have nq : (Stp.stepE p xa s == Stp.stepE p xa s) = true := by simp
  generalize Stp.tabL p xa inv s = tb at H1 H2 kt
  generalize grpL p xa s = gs at H3 H4 kg HGk
  generalize Stp.stepE p xa s = er at H1 H2 H3 H4 nq
  clear hx hG hn H HG hs hlb
  obtain ⟨sax, stw, sr, sl, sm⟩ := s
  unfold spV at H1 H2 H3 H4 ⊢
  dsimp only at HB HS HV H1 H2 H3 H4 ⊢
  go_enter Tryd.func4, Tryd.ntmps4
  go_upto_region 9 with (first
    | (go_at_call 12; refine HV.out.mono ?_; rintro e w1 ⟨rfl, b1⟩; have B1 := Lib.hid (below_then HB.out b1); have S1 := Lib.hid (HS.out.then b1); clear b1 HS)
    | (go_at_call 13; refine (HFew.out _ B1.out).mono ?_; rintro e w2 ⟨rfl, b2⟩; have B2 := Lib.hid (below_then B1.out b2); have S2 := Lib.hid (S1.out.then b2); obtain ⟨k0, k1, k2, k3, k4⟩ := S2.out; dsimp only at k0 k1 k2 k3 k4; clear b2 S1)
    | (go_at_call 21; refine (H1.out _ B2.out).mono ?_; rintro e w3 ⟨v, rfl, hO, b3⟩; obtain ⟨y1, c1, rfl, -, -, hr, -⟩ := hO.form; have R3 := Lib.hid hr; have B3 := Lib.hid (below_then B2.out b3); have S3 := Lib.hid (S2.out.then b3); clear b3 hO hr k0 k1 k2 k3 k4; obtain ⟨k0, k1, k2, k3, k4⟩ := S3.out; dsimp only at k0 k1 k2 k3 k4)
    | (go_at_call 22; refine (H2.out _ B3.out).mono ?_; rintro e w4 ⟨v, rfl, hO, b4⟩; obtain ⟨y2, c2, rfl, -, -, hr, -⟩ := hO.form; have R4 := Lib.hid hr; have B4 := Lib.hid (below_then B3.out b4); have S4 := Lib.hid (S3.out.then b4); have Q4 := Lib.hid ((R3.out.below b4).more b4.size); clear b4 hO hr k0 k1 k2 k3 k4; obtain ⟨k0, k1, k2, k3, k4⟩ := S4.out; dsimp only at k0 k1 k2 k3 k4)
    | (go_at_call 23; refine (H3.out _ B4.out).mono ?_; rintro e w5 ⟨xg, cg, rfl, hg, b5⟩; have G5 := Lib.hid hg; have B5 := Lib.hid (below_then B4.out b5); have S5 := Lib.hid (S4.out.then b5); have Q5 := Lib.hid ((Q4.out.below b5).more b5.size); have P5 := Lib.hid ((R4.out.below b5).more b5.size); clear b5 hg k0 k1 k2 k3 k4; obtain ⟨k0, k1, k2, k3, k4⟩ := S5.out; dsimp only at k0 k1 k2 k3 k4)
    | (go_at_call 24; refine (H4.out _ B5.out).mono ?_; rintro e w6 ⟨xh, ch, rfl, hg, b6⟩; have G6 := Lib.hid hg; have B6 := Lib.hid (below_then B5.out b6); have Q6 := Lib.hid ((Q5.out.below b6).more b6.size); have P6 := Lib.hid ((P5.out.below b6).more b6.size); have K6 := Lib.hid ((G5.out.below b6).more b6.size); clear b6 hg k0 k1 k2 k3 k4))
  have HS1 := Lib.hid (same_self y1 y2 tb.length c1 c2 tb w6 w6.heap.size Q6.out P6.out rfl (by omega))
  have HS2 := Lib.hid (fun q => sameG_self xg xh gs.length cg ch gs (w6.drewN q) w6.heap.size (K6.out.below (below_draws (Below.refl _ w6) q)) (G6.out.below (below_draws (Below.refl _ w6) q)) rfl kg HGk.out)
  clear B1 B2 B3 B4 B5 S2 S3 S4 S5 R3 R4 Q4 Q5 P5 G5 Q6 P6 K6 G6 H1 H2 H3 H4 HFew HV
  go_wp2_with (first
    | (go_at_call 18; refine HS1.out.mono ?_; rintro e w' ⟨rfl, n1, rfl⟩)
    | (go_at_call 25; refine (HS2.out _).mono ?_; rintro e w' ⟨rfl, n2, rfl⟩))
  go_ret
  exact ⟨rfl, below_draws B6.out _⟩

theorem steptells_walk {G : World → Prop} (H : StepHas G) (HG : GrpHas G) (p : Int) (x : Option Addr) (len cap : Nat) (xa : List Ax) (inv : Bool) (s : Sp) (w : World) (_hp : (Lit.int .u64 p).wf = true) (hA : AxisIn w x len cap xa) (hlb : len ≤ 8796093022208) (hs : SpIn s) (hG : G w) :
    Calls Tryd.prog 4 #[.int .u64 p, .slice x len cap, .bool inv, spV s] w fun e w' => e = .returned (.bool true) ∧ Below w.heap.size w w' := by
  obtain ⟨hn, hc1, hc2, hx, -⟩ := hA
  exact steptells_any H HG p x len cap xa inv s w hG hx hn hlb hs

end Go.Proofs.YtphghklhknadoaaDoor
