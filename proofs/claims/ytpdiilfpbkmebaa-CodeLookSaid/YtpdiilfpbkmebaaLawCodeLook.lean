/-
  The walk of CodeLook: all is well just if there is nothing to be fixed.
-/
import Derived.Test.YtpdiilfpbkmebaaCodeLive
namespace Go.Proofs.Ytpdiilfpbkmebaa
open Go.RowKit

set_option maxRecDepth 100000 in
set_option maxHeartbeats 4000000 in
theorem look_in (p : Int) (x : Option Addr) (n cap : Nat) (xs : List Int) (w : World) (hx : Reads .u64 w w.heap.size x xs) (hn : xs.length = n) (hc : n ≤ cap) (hcm : cap ≤ maxLen) (hw : Words xs) (h46 : n ≤ 46) :
    Calls Try.prog 7 #[.int .u64 p, .slice x n cap] w fun e w' => e = .returned (.bool true) ∧ Below w.heap.size w w' := by
  have HV := Lib.hid (live14_any w)
  have d1 : decide ((46 : Int) < (n : Int)) = false := by simp; omega
  have HL := Lib.hid (fun W (hW : Below w.heap.size w W) => klook_any p x n cap xs W (hx.later hW) hn hc hcm hw)
  have HF := Lib.hid (fun W (hW : Below w.heap.size w W) => kfix_any p x n cap xs W (hx.later hW) hn hc hcm hw)
  have HX := Lib.hid (fun W (hW : Below w.heap.size w W) => hx.later hW)
  have HN := Lib.hid hn
  by_cases h0 : Cd.lnE p n = 0
  · rw [h0] at HL
    have hlf := Cd.lk_fix (p := p) (c := xs)
    have hls := Cd.lk_self (p := p) (c := xs)
    cases hb : Cd.lkB p xs
    · rw [hb] at HL hlf
      have hno : ¬ (Cd.fiE p xs = 0 ∧ Cd.fiF p xs = []) := fun e => by have := hlf.2 e; cases this
      have HFL := Lib.hid (Nat.le_refl (Cd.fiF p xs).length)
      rcases Cd.fiE_cases (p := p) (c := xs) (by rw [hn]; exact h0) with he | he
      · have hne : (((Cd.fiF p xs).length : Int) == 0) = false := by
          rw [beq_eq_false_iff_ne]
          intro e
          exact hno ⟨he, List.length_eq_zero_iff.1 (by omega)⟩
        rw [he] at HF
        generalize Cd.fiL p xs = l at HF
        generalize Cd.fiF p xs = fs at HF hne
        clear hx hn hw hlf hls hno hb h0 he
        go_enter Try.func7, Try.ntmps7
        go_wp2_with (first
          | (go_at_call 10; refine HV.out.mono ?_; rintro e w1 ⟨rfl, hb1⟩; have B1 := Lib.hid hb1; clear hb1 HV)
          | (go_at_call 15; refine (HL.out _ B1.out).mono ?_; rintro e w2 ⟨rfl, hb2⟩; have B2 := Lib.hid (below_on' B1.out hb2); clear hb2)
          | (go_at_call 17; refine (HF.out _ B2.out).mono ?_; rintro e w3 hr; obtain ⟨x3, c3, y3, d3, rfl, -, -, -, -, hB⟩ := hr.open rfl rfl; have B3 := Lib.hid (below_on' B2.out hB); clear hr hB))
        go_ret
        exact ⟨rfl, B3.out⟩
      · rw [he] at HF
        generalize Cd.fiL p xs = l at HF
        generalize Cd.fiF p xs = fs at HF
        clear hx hn hw hlf hls hno hb h0 he
        go_enter Try.func7, Try.ntmps7
        go_wp2_with (first
          | (go_at_call 10; refine HV.out.mono ?_; rintro e w1 ⟨rfl, hb1⟩; have B1 := Lib.hid hb1; clear hb1 HV)
          | (go_at_call 15; refine (HL.out _ B1.out).mono ?_; rintro e w2 ⟨rfl, hb2⟩; have B2 := Lib.hid (below_on' B1.out hb2); clear hb2)
          | (go_at_call 17; refine (HF.out _ B2.out).mono ?_; rintro e w3 hr; obtain ⟨x3, c3, y3, d3, rfl, -, -, -, -, hB⟩ := hr.open rfl rfl; have B3 := Lib.hid (below_on' B2.out hB); clear hr hB))
        go_ret
        exact ⟨rfl, B3.out⟩
    · rw [hb] at HL
      obtain ⟨he, hf⟩ := hlf.1 hb
      rw [he, hf, hls hb] at HF
      have HS := Lib.hid (fun W y c (hW : Below w.heap.size w W) (hy : Reads .u64 W W.heap.size y xs) => sameW_any y x n n c cap xs xs W W.heap.size hy (hx.later hW) hn hn (by omega) (by omega))
      rw [decide_eq_true rfl] at HS
      clear hx hn hw hlf hls hb h0 he hf
      go_enter Try.func7, Try.ntmps7
      go_wp2_with (first
        | (go_at_call 10; refine HV.out.mono ?_; rintro e w1 ⟨rfl, hb1⟩; have B1 := Lib.hid hb1; clear hb1 HV)
        | (go_at_call 15; refine (HL.out _ B1.out).mono ?_; rintro e w2 ⟨rfl, hb2⟩; have B2 := Lib.hid (below_on' B1.out hb2); clear hb2)
        | (go_at_call 17; refine (HF.out _ B2.out).mono ?_; rintro e w3 hr; obtain ⟨x3, c3, y3, d3, rfl, hO, -, -, -, hB⟩ := hr.open HN.out (m := 0) rfl; have B3 := Lib.hid (below_on' B2.out hB); have R3 := Lib.hid hO.rd; clear hr hB hO)
        | (go_at_call 19; refine (HS.out _ _ _ B3.out R3.out).mono ?_; rintro e w4 ⟨rfl, nq, rfl⟩))
      go_ret
      exact ⟨rfl, below_draws B3.out _⟩
  · have hne : (Cd.lnE p n != 0) = true := by rw [bne_iff_ne]; exact h0
    have hb : Cd.lkB p xs = false := Cd.lk_no (by rw [hn]; exact h0)
    have he := (Cd.fiE_no (p := p) (c := xs) (by rw [hn]; exact h0)).1
    rw [hn] at he
    rw [hb] at HL
    rw [he] at HF
    generalize Cd.lnE p n = er at HL HF hne
    generalize Cd.fiL p xs = l at HF
    generalize Cd.fiF p xs = fs at HF
    clear hx hn hw hb he
    go_enter Try.func7, Try.ntmps7
    go_wp2_with (first
      | (go_at_call 10; refine HV.out.mono ?_; rintro e w1 ⟨rfl, hb1⟩; have B1 := Lib.hid hb1; clear hb1 HV)
      | (go_at_call 15; refine (HL.out _ B1.out).mono ?_; rintro e w2 ⟨rfl, hb2⟩; have B2 := Lib.hid (below_on' B1.out hb2); clear hb2)
      | (go_at_call 17; refine (HF.out _ B2.out).mono ?_; rintro e w3 hr; obtain ⟨x3, c3, y3, d3, rfl, -, -, -, -, hB⟩ := hr.open rfl rfl; have B3 := Lib.hid (below_on' B2.out hB); clear hr hB))
    go_ret
    exact ⟨by simp, B3.out⟩

set_option maxRecDepth 100000 in
theorem walk_CodeLook (p : Int) (x : Option Addr) (n cap : Nat) (zs : List Int) (w : World) (_hp : (Lit.int .u64 p).wf = true) (r : RowIn .u64 w x n cap zs) :
    Calls Try.prog 7 #[.int .u64 p, .slice x n cap] w fun e w' => e = .returned (.bool true) ∧ Below w.heap.size w w' := by
  obtain ⟨xs, -, hn, hc, hcm, hx, hw⟩ := r.reads
  by_cases h : n ≤ 46
  · exact look_in p x n cap xs w hx hn hc hcm hw h
  · have HV := Lib.hid (live14_any w)
    have d1 : decide ((46 : Int) < (n : Int)) = true := by simp; omega
    clear r hx hn hw hc hcm
    go_enter Try.func7, Try.ntmps7
    go_wp2_with (go_at_call 10; refine HV.out.mono ?_; rintro e w1 ⟨rfl, hb1⟩)
    go_ret
    exact ⟨rfl, hb1⟩

end Go.Proofs.Ytpdiilfpbkmebaa
