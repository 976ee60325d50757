/-
  The laws of layer 4, walked: FactorDoes.
-/
import Derived.Test.YtgiahljjdpbflaaLawFac
import Derived.Test.YtgiahljjdpbflaaOpenS
namespace Go.Proofs.Ytgiahljjdpbflaa
open Go.RowKit

/-- Two calls, one behind the other, with nothing written that was there. -/
theorem below_chain {w w1 w2 : World} (h : Below w.heap.size w w1) (k : Below w1.heap.size w1 w2) : Below w.heap.size w w2 := h.trans (k.mono h.size)

set_option maxHeartbeats 2000000 in
set_option maxRecDepth 100000 in
theorem walk_FactorDoes (n : Int) (x : Option Addr) (len cap : Nat) (ss : List Fac.Stg) (w : World) (_hn : (Lit.int .i64 n).wf = true) (hx : StageIn w x len cap ss) :
    Calls Try.prog 3 #[.int .i64 n, .slice x len cap] w fun e w' => e = .returned (.bool true) ∧ Below w.heap.size w w' := by
  obtain ⟨hl, hlc, hcm, hr⟩ := hx
  have hlm : len ≤ 9223372036854775807 := by unfold maxLen at hcm; omega
  have HX := Lib.hid hr
  clear hlc hcm hr
  have S1 := Lib.hid (smooth_any n)
  have S2 := Lib.hid (rsmooth_any n)
  have C1 := Lib.hid (fun w' (h : Below w.heap.size w w') => check_any n x len cap ss w' ((HX.out.below h).more h.size) hl hlm)
  have C2 := Lib.hid (fun w' (h : Below w.heap.size w w') => rcheck_any n x len cap ss w' ((HX.out.below h).more h.size) hl hlm)
  obtain ⟨ck, hck⟩ : ∃ ck, ck = chk n ss := ⟨_, rfl⟩
  rw [← hck] at C1 C2
  cases h : Fac.sm n with
  | false =>
    have R1 := Lib.hid (fun w => radices_no n w h)
    have R2 := Lib.hid (fun w => rradices_no n w h)
    have R3 := Lib.hid (fun w => stages_no n w h)
    have R4 := Lib.hid (fun w => rstages_no n w h)
    have C3 := Lib.hid (fun w' => check_any n none 0 0 [] w' ReadsS.nil rfl (by omega))
    rw [chk_no h] at C3
    rw [h] at S1 S2
    have D1 := Lib.hid (fun w' => sameInts_any none none 0 0 0 0 [] [] w' 0 Reads.nil Reads.nil rfl rfl (by omega) (by omega))
    have D2 := Lib.hid (fun w' => sameStages_any none none 0 0 0 0 [] [] w' 0 ReadsS.nil ReadsS.nil rfl rfl (by omega) (by omega))
    rw [decide_eq_true rfl] at D1 D2
    clear h hck hl
    go_enter Try.func3, Try.ntmps3
    go_wp2_with (first
      | (go_at_call 7; refine (live4_any _).mono ?_; rintro e w1 ⟨rfl, h1⟩)
      | (go_at_call 8; refine (R1.out _).mono ?_; rintro e w2 ⟨rfl, h2⟩; have b2 := Lib.hid (below_chain h1 h2))
      | (go_at_call 9; refine (R2.out _).mono ?_; rintro e w3 ⟨rfl, h3⟩; have b3 := Lib.hid (below_chain b2.out h3))
      | (go_at_call 10; refine (R3.out _).mono ?_; rintro e w4 ⟨rfl, h4⟩; have b4 := Lib.hid (below_chain b3.out h4))
      | (go_at_call 11; refine (R4.out _).mono ?_; rintro e w5 ⟨rfl, h5⟩; have b5 := Lib.hid (below_chain b4.out h5))
      | (go_at_call 12; refine (S1.out _).mono ?_; rintro e w6 ⟨rfl, h6⟩; have b6 := Lib.hid (below_chain b5.out h6))
      | (go_at_call 13; refine (S2.out _).mono ?_; rintro e w7 ⟨rfl, h7⟩; have b7 := Lib.hid (below_chain b6.out h7))
      | (go_at_call 14; refine (D1.out _).mono ?_; rintro e w8 ⟨rfl, n8, rfl⟩; have b8 := Lib.hid (below_draws b7.out n8))
      | (go_at_call 15; refine (D2.out _).mono ?_; rintro e w9 ⟨rfl, n9, rfl⟩; have b9 := Lib.hid (below_draws b7.out (n8 + n9)))
      | (go_at_call_of 16 (Value.slice x len cap); refine (C1.out _ b9.out).mono ?_; rintro e w10 ⟨rfl, h10⟩; have b10 := Lib.hid (below_chain b9.out h10))
      | (go_at_call 17; refine (C2.out _ b10.out).mono ?_; rintro e w11 ⟨rfl, h11⟩; have b11 := Lib.hid (below_chain b10.out h11))
      | (go_at_call_of 16 (Value.slice none 0 0); refine (C3.out _).mono ?_; rintro e w12 ⟨rfl, h12⟩; have b12 := Lib.hid (below_chain b11.out h12)))
    go_ret
    exact ⟨rfl, b12.out⟩
  | true =>
    obtain ⟨g1, g2, he⟩ := Fac.sm_of h
    obtain ⟨m, rfl⟩ : ∃ m : Nat, n = (m : Int) := ⟨n.toNat, by omega⟩
    have R1 := Lib.hid (fun w => radices_yes m w h)
    have R2 := Lib.hid (fun w => rradices_yes m w h)
    have R3 := Lib.hid (fun w => stages_yes m w h)
    have R4 := Lib.hid (fun w => rstages_yes m w h)
    have HK := Lib.hid (chk_same h)
    have CH := Lib.hid (check_any (m : Int))
    have HL := Lib.hid (Fac.rads_len m (by omega) (by omega))
    have HF := Lib.hid (stg_len m)
    rw [h] at S1 S2
    have HI : Hid ((Fac.ints (Fac.rads m)).length ≤ 12) := Lib.hid (by rw [Fac.ints_len]; exact HL.out)
    have HJ : Hid ((stg m).length ≤ 12) := Lib.hid (by rw [stg_len]; exact HL.out)
    rw [show Fac.stages m (Fac.rads m) 1 = stg m from rfl] at R3
    generalize Fac.ints (Fac.rads m) = I at R1 R2 HI
    generalize stg m = S at R3 R4 HK HJ
    clear h hck hl he HL HF
    go_enter Try.func3, Try.ntmps3
    go_wp2_with (first
      | (go_at_call 7; refine (live4_any _).mono ?_; rintro e w1 ⟨rfl, h1⟩)
      | (go_at_call 8; refine (R1.out _).mono ?_; rintro e w2 ⟨v2, rfl, o2, h2⟩; have b2 := Lib.hid (below_chain h1 h2); obtain ⟨y2, c2, rfl, k2, k2', r2, _⟩ := o2.form; have R5 := Lib.hid r2; clear r2 o2)
      | (go_at_call 9; refine (R2.out _).mono ?_; rintro e w3 ⟨v3, rfl, o3, h3⟩; have b3 := Lib.hid (below_chain b2.out h3); obtain ⟨y3, c3, rfl, k3, k3', r3, _⟩ := o3.form; have R6 := Lib.hid r3; clear r3 o3)
      | (go_at_call 10; refine (R3.out _).mono ?_; rintro e w4 ⟨v4, rfl, o4, h4⟩; have b4 := Lib.hid (below_chain b3.out h4); obtain ⟨y4, c4, rfl, k4, k4', r4⟩ := o4.form; have R7 := Lib.hid r4; clear r4 o4)
      | (go_at_call 11; refine (R4.out _).mono ?_; rintro e w5 ⟨v5, rfl, o5, h5⟩; have b5 := Lib.hid (below_chain b4.out h5); obtain ⟨y5, c5, rfl, k5, k5', r5⟩ := o5.form; have R8 := Lib.hid r5; clear r5 o5)
      | (go_at_call 12; refine (S1.out _).mono ?_; rintro e w6 ⟨rfl, h6⟩; have b6 := Lib.hid (below_chain b5.out h6))
      | (go_at_call 13; refine (S2.out _).mono ?_; rintro e w7 ⟨rfl, h7⟩; have b7 := Lib.hid (below_chain b6.out h7))
      | (go_at_call 14; refine (sameInts_any y2 y3 _ _ c2 c3 I I w7 w7.heap.size ((R5.out.below (below_chain (below_chain (below_chain (below_chain h3 h4) h5) h6) h7)).more (below_chain (below_chain (below_chain (below_chain h3 h4) h5) h6) h7).size) ((R6.out.below (below_chain (below_chain (below_chain h4 h5) h6) h7)).more (below_chain (below_chain (below_chain h4 h5) h6) h7).size) rfl rfl (by have := HI.out; omega) (by have := HI.out; omega)).mono ?_; rw [decide_eq_true rfl]; rintro e w8 ⟨rfl, n8, rfl⟩; have b8 := Lib.hid (below_draws b7.out n8))
      | (go_at_call 15; refine (sameStages_any y4 y5 _ _ c4 c5 S S (w7.drewN n8) w7.heap.size (ReadsS.draws ((R7.out.below (below_chain (below_chain h5 h6) h7)).more (below_chain (below_chain h5 h6) h7).size) n8) (ReadsS.draws ((R8.out.below (below_chain h6 h7)).more (below_chain h6 h7).size) n8) rfl rfl (by have := HJ.out; omega) (by have := HJ.out; omega)).mono ?_; rw [decide_eq_true rfl]; rintro e w9 ⟨rfl, n9, rfl⟩; have b9 := Lib.hid (below_draws b7.out (n8 + n9)); have t9 := Lib.hid (draws_below w7.heap.size w7 (n8 + n9)))
      | (go_at_call_of 16 (Value.slice x len cap); refine (C1.out _ b9.out).mono ?_; rintro e w10 ⟨rfl, h10⟩; have b10 := Lib.hid (below_chain b9.out h10))
      | (go_at_call 17; refine (C2.out _ b10.out).mono ?_; rintro e w11 ⟨rfl, h11⟩; have b11 := Lib.hid (below_chain b10.out h11); have t4 : Below w4.heap.size w4 w11 := below_chain (below_chain (below_chain (below_chain (below_chain h5 h6) h7) t9.out) h10) h11)
      | (go_at_call 16; refine (CH.out y4 _ c4 S w11 ((R7.out.below t4).more t4.size) rfl (by have := HJ.out; omega)).mono ?_; rw [HK.out]; rintro e w12 ⟨rfl, h12⟩; have b12 := Lib.hid (below_chain b11.out h12)))
    go_ret
    exact ⟨rfl, b12.out⟩

end Go.Proofs.Ytgiahljjdpbflaa
