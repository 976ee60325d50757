/-
  The walk of the law StepPredicts: it returns true for every prime, all axes, every step, all words, either way; nothing that was there is written.
-/
import Derived.Test.YtphghklhknadoaaDoorStepA
import Derived.Test.YtphghklhknadoaaDoorGrids
import Derived.Test.YtphghklhknadoaaDoorPairs
import Derived.ChangeKeysEq
namespace Go.Proofs.YtphghklhknadoaaDoor
open Go.RowKit

set_option maxRecDepth 100000 in
set_option maxHeartbeats 4000000 in
theorem steppredicts_any {G : World → Prop} (H : StepHas G) (p : Int) (x : Option Addr) (n cap : Nat) (xa : List Ax) (inv : Bool) (s : Sp) (y : Option Addr) (m cap' : Nat) (xs : List Int) (w : World) (hG : G w) (hx : ReadsA w w.heap.size x xa) (hn : xa.length = n) (hlb : n ≤ 8796093022208) (hs : SpIn s)
    (hy : Reads .u64 w w.heap.size y xs) (hm : xs.length = m) (hw : Words xs) (hml : m ≤ maxLen) :
    Calls Tryd.prog 6 #[.int .u64 p, .slice x n cap, .bool inv, spV s, .slice y m cap'] w fun e w' => e = .returned (.bool true) ∧ Below w.heap.size w w' := by
  have HB := Lib.hid (below_al (Below.refl _ w) (.cells #[.int .i64 s.ax, .bool s.tw, .int .i64 s.st.r, .int .i64 s.st.l, .int .i64 s.st.m] 27))
  have HS := Lib.hid (SpAt.new w 27 s)
  have HV := Lib.hid (live16_any H _ (H.keep hG HB.out))
  obtain ⟨b, HFew⟩ := few_any x n cap xa 40 w hx hn hlb
  have HD := Lib.hid (fun W (hB : Below w.heap.size w W) => H.doo p x n cap xa inv s y m cap' xs W (H.keep hG hB) ((hx.below hB).more hB.size) hn hlb hs ((hy.below hB).more hB.size) hm hw hml)
  have HP := Lib.hid (fun W (hB : Below w.heap.size w W) => H.predict p x n cap xa inv s y m cap' xs W (H.keep hG hB) ((hx.below hB).more hB.size) hn hlb hs ((hy.below hB).more hB.size) hm hw hml)
  have g1 := run_eqGuard_agg (P := Tryd.prog) (t := 34) (hm := by kernel_rfl)
  cases b
  · clear HD HP hx hy hG hw hm hn hml H
    obtain ⟨sax, stw, sr, sl, sm⟩ := s
    unfold spV
    dsimp only at HB HS HV ⊢
    go_enter Tryd.func6, Tryd.ntmps6
    go_wp2_with (first
      | (go_at_call 12; refine HV.out.mono ?_; rintro e w1 ⟨rfl, b1⟩; have B1 := Lib.hid (below_then HB.out b1); clear b1)
      | (go_at_call 13; refine (HFew.out _ B1.out).mono ?_; rintro e w2 ⟨rfl, b2⟩; have B2 := Lib.hid (below_then B1.out b2); clear b2))
    go_ret
    exact ⟨rfl, B2.out⟩
  by_cases hl : 50 < m
  · have d1 : decide (50 < (m : Int)) = true := by simp; omega
    clear HD HP hx hy hG hw hm hn hml H
    obtain ⟨sax, stw, sr, sl, sm⟩ := s
    unfold spV
    dsimp only at HB HS HV ⊢
    go_enter Tryd.func6, Tryd.ntmps6
    go_wp2_with (first
      | (go_at_call 12; refine HV.out.mono ?_; rintro e w1 ⟨rfl, b1⟩; have B1 := Lib.hid (below_then HB.out b1); clear b1)
      | (go_at_call 13; refine (HFew.out _ B1.out).mono ?_; rintro e w2 ⟨rfl, b2⟩; have B2 := Lib.hid (below_then B1.out b2); clear b2))
    go_ret
    exact ⟨rfl, B2.out⟩
  have d1 : decide (50 < (m : Int)) = false := by simp; omega
  by_cases hE : Stp.wE p xa s xs = 0
  · have hok := Stp.wE_zero hE
    have hk := hok.ok.ax.kn
    unfold pr0 pr1 at HP
    rw [hE, hok.wL] at HD
    rw [hE, if_pos rfl, if_pos rfl] at HP
    have hl1 := Stp.stp_len p xa inv s xs
    rw [hm] at hl1
    have hle := hok.le
    rw [hm] at hle
    have hsm : Cd.smE p m = 0 := by unfold Cd.smE; rw [if_neg (by simp [hk]), if_neg (by omega)]
    have HSu := Lib.hid (fun (z : Option Addr) (c : Nat) W (hz : Reads .u64 W W.heap.size z (Stp.stp p xa inv s xs)) => csums_any p z m c (Stp.stp p xa inv s xs) W hz hl1 (Stp.stp_words hk xa inv s xs))
    rw [hsm] at HSu
    have hin := (Fp.isIn_iff hk m).2 (fun j _ => (Stp.stp_nums hk xa inv s xs j).2)
    have HIn : Hid (∀ z c W, Reads .u64 W W.heap.size z (Stp.stp p xa inv s xs) → Calls Tryd.prog 29 #[.int .u64 p, .slice z m c] W fun e w' => e = .returned (.bool true) ∧ W = w') := Lib.hid (fun z c W hz => by
      obtain ⟨g, off, rfl, _, hc⟩ := hz (by omega)
      rw [← hin]
      exact in_row p g off m c _ W (by omega) (fun j hj => hc j (by omega)))
    have HLL := Lib.hid hl1
    generalize Stp.stp p xa inv s xs = ys at HD HP HSu HIn HLL
    generalize Cd.sm0 p ys = a0 at HP HSu
    generalize Cd.sm1 p ys = a1 at HP HSu
    have hq := fun W => eql_ar a0 a1 a0 a1 W
    rw [decide_eq_true rfl, decide_eq_true rfl] at hq
    unfold arV at hq
    unfold RetAr arV at HP HSu
    have nn : ((m : Int) == (m : Int)) = true := by simp
    clear hx hy hG hw hm hn hml H hE hok hl1 hin hsm hs
    obtain ⟨sax, stw, sr, sl, sm⟩ := s
    unfold spV at HD HP ⊢
    dsimp only at HB HS HV HD HP ⊢
    go_enter Tryd.func6, Tryd.ntmps6
    go_wp2_with (first
      | (go_at_call 12; refine HV.out.mono ?_; rintro e w1 ⟨rfl, b1⟩; have B1 := Lib.hid (below_then HB.out b1); have S1 := Lib.hid (HS.out.then b1); clear b1 HS)
      | (go_at_call 13; refine (HFew.out _ B1.out).mono ?_; rintro e w2 ⟨rfl, b2⟩; have B2 := Lib.hid (below_then B1.out b2); have S2 := Lib.hid (S1.out.then b2); obtain ⟨k0, k1, k2, k3, k4⟩ := S2.out; dsimp only at k0 k1 k2 k3 k4; clear b2 S1)
      | (go_at_call 14; refine (HD.out _ B2.out).mono ?_; rintro e w3 ⟨v, rfl, hO, b3⟩; obtain ⟨y1, c1, rfl, -, -, hr1, -⟩ := hO.form; have R1 := Lib.hid hr1; have B3 := Lib.hid (below_then B2.out b3); have S3 := Lib.hid (S2.out.then b3); obtain ⟨q0, q1, q2, q3, q4⟩ := S3.out; dsimp only at q0 q1 q2 q3 q4; rw [HLL.out]; clear b3 hO hr1 k0 k1 k2 k3 k4)
      | (go_at_call 16; refine (HP.out _ B3.out).mono ?_; rintro e w4 ⟨rfl, b4⟩; have B4 := Lib.hid (below_al (below_then B3.out b4) (.cells #[.int .u64 a0, .int .u64 a1] 34)); have A4 := Lib.hid (Ar.new w4 a0 a1); have R2 := Lib.hid (((R1.out.below b4).more b4.size).below (below_al (Below.refl _ w4) (.cells #[.int .u64 a0, .int .u64 a1] 34))); clear b4 q0 q1 q2 q3 q4)
      | (go_at_call 28; refine (HSu.out _ _ _ (R2.out.more (by simp))).mono ?_; rintro e w5 ⟨rfl, b5⟩; have A5 := Lib.hid ((A4.out.then b5).then (below_al (Below.refl _ w5) (.cells #[.int .u64 a0, .int .u64 a1] 34))); have A6 := Lib.hid (Ar.new w5 a0 a1); have B5 := Lib.hid (below_al (below_then B4.out b5) (.cells #[.int .u64 a0, .int .u64 a1] 34)); have R3 := Lib.hid ((((R2.out.more (Nat.le_succ _)).below (by have := b5; rw [World.size_alloc] at this; exact this)).more (Nat.le_refl _)).below ((Below.refl _ w5).alloc (by have := b5.size; rw [World.size_alloc] at this; omega) (.cells #[.int .u64 a0, .int .u64 a1] 34))); have j0 := A5.out.c0; have j1 := A5.out.c1; have i0 := A6.out.c0; have i1 := A6.out.c1; clear b5)
      | (go_at_call 29; refine (HIn.out _ _ _ (R3.out.more (by have := B5.out.size; have := A5.out.lt; simp at this ⊢; omega))).mono ?_; rintro e w' ⟨rfl, rfl⟩))
    go_ret
    exact ⟨rfl, B5.out⟩
  · unfold pr0 pr1 at HP
    rw [Stp.wL_no hE] at HD
    rw [if_neg hE, if_neg hE] at HP
    have t := ne_of_bne hE
    have nn : (Stp.wE p xa s xs != Stp.wE p xa s xs) = false := by simp
    have nq : (Stp.wE p xa s xs == Stp.wE p xa s xs) = true := by simp
    generalize Stp.wE p xa s xs = er at HD HP t nn nq
    have hq := fun W => eql_ar 0 0 0 0 W
    rw [decide_eq_true rfl] at hq
    unfold arV at hq
    unfold RetAr arV at HP
    clear hx hy hG hw hm hn hml H hE hs
    obtain ⟨sax, stw, sr, sl, sm⟩ := s
    unfold spV at HD HP ⊢
    dsimp only at HB HS HV HD HP ⊢
    go_enter Tryd.func6, Tryd.ntmps6
    go_wp2_with (first
      | (go_at_call 12; refine HV.out.mono ?_; rintro e w1 ⟨rfl, b1⟩; have B1 := Lib.hid (below_then HB.out b1); have S1 := Lib.hid (HS.out.then b1); clear b1 HS)
      | (go_at_call 13; refine (HFew.out _ B1.out).mono ?_; rintro e w2 ⟨rfl, b2⟩; have B2 := Lib.hid (below_then B1.out b2); have S2 := Lib.hid (S1.out.then b2); obtain ⟨k0, k1, k2, k3, k4⟩ := S2.out; dsimp only at k0 k1 k2 k3 k4; clear b2 S1)
      | (go_at_call 14; refine (HD.out _ B2.out).mono ?_; rintro e w3 ⟨v, rfl, hO, b3⟩; obtain ⟨y1, c1, rfl, -, -, -, -⟩ := hO.form; have B3 := Lib.hid (below_then B2.out b3); have S3 := Lib.hid (S2.out.then b3); obtain ⟨q0, q1, q2, q3, q4⟩ := S3.out; dsimp only at q0 q1 q2 q3 q4; simp only [List.length_nil]; clear b3 hO k0 k1 k2 k3 k4)
      | (go_at_call 16; refine (HP.out _ B3.out).mono ?_; rintro e w4 ⟨rfl, b4⟩; have B4 := Lib.hid (below_al (below_then B3.out b4) (.cells #[.int .u64 0, .int .u64 0] 34)); have A4 := Lib.hid (Ar.new w4 0 0); have j0 := A4.out.c0; have j1 := A4.out.c1; clear b4 q0 q1 q2 q3 q4))
    go_ret
    exact ⟨rfl, B4.out⟩

theorem steppredicts_walk {G : World → Prop} (H : StepHas G) (p : Int) (x : Option Addr) (len cap : Nat) (xa : List Ax) (inv : Bool) (s : Sp) (y : Option Addr) (m cap' : Nat) (zs : List Int) (w : World) (_hp : (Lit.int .u64 p).wf = true) (hA : AxisIn w x len cap xa) (hlb : len ≤ 8796093022208) (hs : SpIn s) (hr : RowIn .u64 w y m cap' zs) (hG : G w) :
    Calls Tryd.prog 6 #[.int .u64 p, .slice x len cap, .bool inv, spV s, .slice y m cap'] w fun e w' => e = .returned (.bool true) ∧ Below w.heap.size w w' := by
  obtain ⟨hn, hc1, hc2, hx, -⟩ := hA
  obtain ⟨xs, -, hm, hcp, hml, hy, hw⟩ := hr.reads
  exact steppredicts_any H p x len cap xa inv s y m cap' xs w hG hx hn hlb hs hy hm hw (Nat.le_trans hcp hml)

end Go.Proofs.YtphghklhknadoaaDoor
