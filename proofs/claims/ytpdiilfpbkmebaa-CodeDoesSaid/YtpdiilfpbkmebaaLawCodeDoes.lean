/-
  The walk of CodeDoes: the sums of any words, any words put, and any put right, or why not: as the document has it; they stay as they were.
-/
import Derived.Test.YtpdiilfpbkmebaaRefCodeFixTwo
import Derived.Test.YtpdiilfpbkmebaaAnyW
import Derived.Test.YtpdiilfpbkmebaaLawCodeSums
namespace Go.Proofs.Ytpdiilfpbkmebaa
open Go.RowKit

theorem fiL_len (p : Int) (xs : List Int) : (Cd.fiL p xs).length ≤ xs.length ∧ (Cd.fiF p xs).length ≤ xs.length := by
  by_cases he : Cd.fiE p xs = 0
  · obtain ⟨h0, h1, ys, hm⟩ := Cd.fi_zero he
    obtain ⟨-, k2, -, k4, k5⟩ := Cd.fi_some h0 h1 hm
    obtain ⟨-, h7, -⟩ := Cd.lnE_zero.1 h0
    rw [k4, k5, Cd.cw_len]
    exact ⟨by omega, Cd.dif_len _ _ _⟩
  · obtain ⟨e1, e2⟩ := Cd.fi_none he
    rw [e1, e2]; simp

set_option maxRecDepth 100000 in
set_option maxHeartbeats 32000000 in
theorem does14_main (p : Int) (x : Option Addr) (n cap : Nat) (xs : List Int) (w : World) (hx : Reads .u64 w w.heap.size x xs) (hs : Src .u64 w x n cap xs) (hc : n ≤ cap) (hcm : cap ≤ maxLen) (hw : Words xs) (hl : n ≤ 4110) (b1 b2 : Bool)
    (d1 : decide ((40 : Int) < (n : Int)) = b1) (d2 : decide ((n : Int) ≤ 4102) = b2) (hb : b1 = false ∨ (b1 = true ∧ b2 = false)) :
    Calls Try.prog 3 #[.int .u64 p, .slice x n cap] w fun e w' => e = .returned (.bool true) ∧ Below w.heap.size w w' := by
  have HV := Lib.hid (live14_any w)
  have hn := hs.1
  have d3 : decide ((4110 : Int) < (n : Int)) = false := by simp; omega
  obtain ⟨i0, hi, hz0, hz1, hz2⟩ := info_parts info_u64
  have P1 := Lib.hid (fun W (hW : Below w.heap.size w W) => csums_any p x n cap xs W (hx.later hW) hn hw)
  have P2 := Lib.hid (fun W (hW : Below w.heap.size w W) => rsums14_any p x n cap xs W (hx.later hW) hn hw)
  have P3 := Lib.hid (fun W (hW : Below w.heap.size w W) => kput_any p x n cap xs W (hx.later hW) hn hw)
  have P4 := Lib.hid (fun W (hW : Below w.heap.size w W) => rkput_any p x n cap xs W (hx.later hW) hn (by omega) hw)
  have P5 := Lib.hid (fun W (hW : Below w.heap.size w W) => klook_any p x n cap xs W (hx.later hW) hn hc hcm hw)
  have P6 := Lib.hid (fun W (hW : Below w.heap.size w W) => rklook_any p x n cap xs W (hx.later hW) hn hc hcm hw)
  have P7 := Lib.hid (fun W (hW : Below w.heap.size w W) => kfix_any p x n cap xs W (hx.later hW) hn hc hcm hw)
  have P8 := Lib.hid (fun W (hW : Below w.heap.size w W) => rkfix_any p x n cap xs W (hx.later hW) hn hc hcm hw)
  have hkl := kpL_len p xs
  obtain ⟨hfl, hff⟩ := fiL_len p xs
  obtain ⟨na, hna⟩ : ∃ na, (Cd.kpL p xs).length = na := ⟨_, rfl⟩
  obtain ⟨nc, hnc⟩ : ∃ nc, (Cd.fiL p xs).length = nc := ⟨_, rfl⟩
  obtain ⟨nf, hnf⟩ : ∃ nf, (Cd.fiF p xs).length = nf := ⟨_, rfl⟩
  have hnab : na ≤ 4102 := by omega
  have hncb : nc ≤ 4110 := by omega
  have hnfb : nf ≤ 4110 := by omega
  have S1 := Lib.hid (fun W y z c c' (h1 : Reads .u64 W W.heap.size y (Cd.kpL p xs)) (h2 : Reads .u64 W W.heap.size z (Cd.kpL p xs)) => sameW_any y z na na c c' (Cd.kpL p xs) (Cd.kpL p xs) W W.heap.size h1 h2 hna hna (by omega) (by omega))
  have S2 := Lib.hid (fun W y z c c' (h1 : Reads .u64 W W.heap.size y (Cd.fiL p xs)) (h2 : Reads .u64 W W.heap.size z (Cd.fiL p xs)) => sameW_any y z nc nc c c' (Cd.fiL p xs) (Cd.fiL p xs) W W.heap.size h1 h2 hnc hnc (by omega) (by omega))
  have S3 := Lib.hid (fun W y z c c' (h1 : ReadsF W W.heap.size y (Cd.fiF p xs)) (h2 : ReadsF W W.heap.size z (Cd.fiF p xs)) => sameF_any y z nf nf c c' (Cd.fiF p xs) (Cd.fiF p xs) W W.heap.size h1 h2 hnf hnf (by omega) (by omega))
  have S4 := Lib.hid (fun W y z c c' (h1 : Reads .u64 W W.heap.size y xs) (h2 : Reads .u64 W W.heap.size z xs) => sameW_any y z n n c c' xs xs W W.heap.size h1 h2 hn hn (by omega) (by omega))
  rw [decide_eq_true rfl] at S1 S2 S3 S4
  have hq := fun W => eql_ar (Cd.sm0 p xs) (Cd.sm1 p xs) (Cd.sm0 p xs) (Cd.sm1 p xs) W
  have hqt : (decide (Cd.sm0 p xs = Cd.sm0 p xs) && decide (Cd.sm1 p xs = Cd.sm1 p xs)) = true := by simp
  rw [hqt] at hq
  have e1 := eql_itself (Cd.smE p n)
  have e2 := eql_itself (Cd.kpE p xs)
  have e3 := eql_itself (Cd.lnE p n)
  have e4 := eql_itself (Cd.fiE p xs)
  have e5 : (Cd.lkB p xs == Cd.lkB p xs) = true := by simp
  have g1 := run_eqGuard_agg (P := Try.prog) (t := 25) (hm := by kernel_rfl)
  have HA := Lib.hid hna
  have HC := Lib.hid hnc
  have HFl := Lib.hid hnf
  have HX := Lib.hid (fun W (hW : Below w.heap.size w W) => hx.later hW)
  have HSL := Lib.hid (fun W (hB : Below w.heap.size w W) => hs.keep hB)
  have HN := Lib.hid hn
  unfold RetAr at P1 P2
  unfold arV at P1 P2 hq
  clear hx hs hn hw hc hcm hkl hfl hff hna hnc hnf hqt
  generalize Cd.sm0 p xs = sa at *
  generalize Cd.sm1 p xs = sb at *
  generalize Cd.smE p n = eS at *
  generalize Cd.kpE p xs = eK at *
  generalize Cd.kpL p xs = K at *
  generalize Cd.lnE p n = eL at *
  generalize Cd.lkB p xs = lb at *
  generalize Cd.fiE p xs = eF at *
  generalize Cd.fiL p xs = FL at *
  generalize Cd.fiF p xs = FF at *
  rcases hb with rfl | ⟨rfl, rfl⟩
  all_goals
    go_enter Try.func3, Try.ntmps3
    go_wp2_with (first
      | (go_at_call 10; refine HV.out.mono ?_; rintro e w1 ⟨rfl, hb1⟩; have B1 := Lib.hid hb1; clear hb1)
      | (at_builtin; refine wpList_copy_new rfl _ _ 23 rfl 22 i0 .u64 8 Try.underlying23 hi hz0 hz1 hz2 _ n cap xs rfl rfl (HSL.out _ B1.out) (by unfold maxLen; omega) (by omega) ?_; intro v2 w2 hO hB; obtain ⟨x2, c2, hv2, -, -, hr2, -⟩ := hO.form; rw [HN.out] at hv2; subst hv2; have B2 := Lib.hid (below_on' B1.out hB); have R2 := Lib.hid hr2; clear hO hB hr2)
      | (go_at_call 11; refine (P1.out _ B2.out).mono ?_; rintro e w3 ⟨rfl, hB⟩; have T3 := Lib.hid (below_al hB (.cells #[.int .u64 sa, .int .u64 sb] 25)); have A3 := Lib.hid (Ar.new w3 sa sb); clear hB)
      | (go_at_call 12; refine (P2.out _ (below_on' B2.out T3.out)).mono ?_; rintro e w4 ⟨rfl, hB⟩; have hB4 := below_al hB (.cells #[.int .u64 sa, .int .u64 sb] 25); have T4 := Lib.hid (below_on' T3.out hB4); have A34 := Lib.hid (A3.out.then hB4); have A4 := Lib.hid (Ar.new w4 sa sb); clear hB hB4 A3 T3)
      | (go_at_call 13; refine (P3.out _ (below_on' B2.out T4.out)).mono ?_; rintro e w5 hr; obtain ⟨x5, c5, rfl, hO, -, -, hB⟩ := hr.open HA.out; have O5 := Lib.hid hO; have T5 := Lib.hid (below_on' T4.out hB); have U5 := Lib.hid hB; clear hr hO hB)
      | (go_at_call 14; refine (P4.out _ (below_on' B2.out T5.out)).mono ?_; rintro e w6 hr; obtain ⟨x6, c6, rfl, hO, -, -, hB⟩ := hr.open HA.out; have R6 := Lib.hid hO.rd; have T6 := Lib.hid (below_on' T5.out hB); have V6 := Lib.hid hB; have U6 := Lib.hid (below_on' U5.out hB); clear hr hO hB)
      | (go_at_call 15; refine (P5.out _ (below_on' B2.out T6.out)).mono ?_; rintro e w7 ⟨rfl, hB⟩; have T7 := Lib.hid (below_on' T6.out hB); have V7 := Lib.hid (below_on' V6.out hB); have U7 := Lib.hid (below_on' U6.out hB); have R7 := Lib.hid (R6.out.later hB); clear hB)
      | (go_at_call 16; refine (P6.out _ (below_on' B2.out T7.out)).mono ?_; rintro e w8 ⟨rfl, hB⟩; have T8 := Lib.hid (below_on' T7.out hB); have V8 := Lib.hid (below_on' V7.out hB); have U8 := Lib.hid (below_on' U7.out hB); have R8 := Lib.hid (R7.out.later hB); clear hB)
      | (go_at_call 17; refine (P7.out _ (below_on' B2.out T8.out)).mono ?_; rintro e w9 hr; obtain ⟨x9, c9, y9, d9, rfl, hO, -, -, hR, hB⟩ := hr.open HC.out HFl.out; have O9 := Lib.hid hO; have F9 := Lib.hid hR; have T9 := Lib.hid (below_on' T8.out hB); have V9 := Lib.hid (below_on' V8.out hB); have U9 := Lib.hid (below_on' U8.out hB); have R9 := Lib.hid (R8.out.later hB); clear hr hO hR hB)
      | (go_at_call 18; refine (P8.out _ (below_on' B2.out T9.out)).mono ?_; rintro e wT hr; obtain ⟨xT, cT, yT, dT, rfl, hO, -, -, hR, hB⟩ := hr.open HC.out HFl.out; have RT := Lib.hid hO.rd; have FT := Lib.hid hR; have X9 := Lib.hid hB; have FT9 := Lib.hid (F9.out.since hB); have TT := Lib.hid (below_on' T9.out hB); have VT := Lib.hid (below_on' V9.out hB); have UT := Lib.hid (below_on' U9.out hB); have R10 := Lib.hid (R9.out.later hB); have k3 := A34.out.then UT.out; have k4 := A4.out.then UT.out; have j0 := k3.c0; have j1 := k3.c1; have j2 := k4.c0; have j3 := k4.c1; clear hr hO hR hB k3 k4)
      | (go_at_call_of 19 (Value.slice x5 na c5); refine (S1.out wT x5 x6 c5 c6 (O5.out.rd.later VT.out) R10.out).mono ?_; rintro e wU ⟨rfl, nd1, rfl⟩)
      | (go_at_call_of 19 (Value.slice x9 nc c9); refine (S2.out (wT.drewN nd1) x9 xT c9 cT ((O9.out.rd.later X9.out).draws nd1) (RT.out.draws nd1)).mono ?_; rintro e wU ⟨rfl, nd2, rfl⟩)
      | (go_at_call 20; refine (S3.out (wT.drewN (nd1 + nd2)) y9 yT d9 dT (FT9.out.draws (nd1 + nd2)) (FT.out.draws (nd1 + nd2))).mono ?_; rintro e wU ⟨rfl, nd3, rfl⟩))
    have KA : Hid (∀ q, AnyW (wT.drewN q) w2.heap.size (.slice x5 na c5) na ∧ AnyW (wT.drewN q) w8.heap.size (.slice x9 nc c9) nc ∧ Below w2.heap.size w2 (wT.drewN q)) := Lib.hid (fun q =>
      ⟨(AnyW.of (O5.out.mono T4.out.size) HA.out).below (below_draws VT.out q), (AnyW.of O9.out HC.out).below (below_draws X9.out q), below_draws TT.out q⟩)
    have KG : Hid (∀ g, x5 = some ⟨g, 0, none⟩ → w2.heap.size ≤ g ∧ g < w8.heap.size) := Lib.hid (fun g e => by
      subst e
      have h1 := O5.out.inside (g := g) rfl
      have := T4.out.size
      have := V8.out.size
      omega)
    have HS28 : Hid (w2.heap.size ≤ w8.heap.size) := Lib.hid T8.out.size
    clear P1 P2 P3 P4 P5 P6 P7 P8 S1 S2 S3 hq T4 T5 T6 T7 T8 T9 TT U5 U6 U7 U8 U9 UT V6 V7 V8 V9 VT A34 A4 O5 O9 F9 FT FT9 R6 R7 R8 R9 R10 RT X9 j0 j1 j2 j3 e1 e2 e3 e4 e5 g1 HV
    go_loopw [139] (fun i wr => ∃ k : Nat, k ≤ na ∧ i = .int .i64 (k : Int) ∧ Hid (AnyW wr w2.heap.size (.slice x5 na c5) na ∧ AnyW wr w8.heap.size (.slice x9 nc c9) nc ∧ Below w2.heap.size w2 wr)) (fun i _ => na - (intOf i).toNat)
    case atStart => exact ⟨0, Nat.zero_le _, rfl, Lib.hid (KA.out _)⟩
    case round =>
      obtain ⟨k, hk, rfl, HI⟩ := hrel
      clear KA
      by_cases hlt : k < na
      · have hdk : decide (k < na) = true := by simpa using hlt
        obtain ⟨g, rfl, hg, -⟩ := HI.out.1.at (by omega)
        obtain ⟨y, hc'⟩ := HI.out.1.cell hlt
        have hf := HI.out.1.melt k
        have HG := Lib.hid (And.intro hg (KG.out g rfl))
        clear hg
        go_wp2
        go_roundw
        case rel => exact ⟨k + 1, by omega, by go_num, Lib.hid ⟨HI.out.1.put _ _, HI.out.2.1.apart (p := ⟨g, k, none⟩) HG.out.2.2 _, HI.out.2.2.setCell (p := ⟨g, k, none⟩) HG.out.1 _⟩⟩
        case measure => simp [intOf]; omega
      · obtain rfl : k = na := by omega
        have hdk : decide (k < k) = false := by simp
        go_wp2
        go_loopw [151] (fun i wi => ∃ j : Nat, j ≤ nc ∧ i = .int .i64 (j : Int) ∧ Hid (AnyW wi w8.heap.size (.slice x9 nc c9) nc ∧ Below w2.heap.size w2 wi)) (fun i _ => nc - (intOf i).toNat)
        case atStart => exact ⟨0, Nat.zero_le _, rfl, Lib.hid HI.out.2⟩
        case round =>
          obtain ⟨j, hj, rfl, HJ⟩ := hrel
          clear HI
          by_cases hlj : j < nc
          · have hdj : decide (j < nc) = true := by simpa using hlj
            obtain ⟨g, rfl, hg, -⟩ := HJ.out.1.at (by omega)
            obtain ⟨y, hc'⟩ := HJ.out.1.cell hlj
            have hf := HJ.out.1.melt j
            have HG : Hid (w2.heap.size ≤ g) := Lib.hid (Nat.le_trans HS28.out hg)
            clear hg
            go_wp2
            go_roundw
            case rel => exact ⟨j + 1, by omega, by go_num, Lib.hid ⟨HJ.out.1.put _ _, HJ.out.2.setCell (p := ⟨g, j, none⟩) HG.out _⟩⟩
            case measure => simp [intOf]; omega
          · obtain rfl : j = nc := by omega
            have hdj : decide (j < j) = false := by simp
            go_wp2_with (go_at_call 19; refine (S4.out wr x x2 cap c2 (HX.out _ (below_on' B2.out HJ.out.2)) (R2.out.later HJ.out.2)).mono ?_; rintro e wZ ⟨rfl, nz, rfl⟩)
            go_ret
            exact ⟨rfl, below_draws (below_on' B2.out HJ.out.2) _⟩

set_option maxRecDepth 100000 in
set_option maxHeartbeats 1000000 in
theorem walk_CodeDoes (p : Int) (x : Option Addr) (n cap : Nat) (zs : List Int) (w : World) (_hp : (Lit.int .u64 p).wf = true) (r : RowIn .u64 w x n cap zs) :
    Calls Try.prog 3 #[.int .u64 p, .slice x n cap] w fun e w' => e = .returned (.bool true) ∧ Below w.heap.size w w' := by
  have s := r.src
  obtain ⟨L, hL, hn, hc, hcm, hx, hw⟩ := r.reads
  rw [← hL] at s
  by_cases h : n ≤ 40 ∨ (4102 < n ∧ n ≤ 4110)
  · refine does14_main p x n cap L w hx s hc hcm hw (by omega) _ _ rfl rfl ?_
    rcases h with h | ⟨h1, h2⟩
    · exact .inl (by simp; omega)
    · exact .inr ⟨by simp; omega, by simp; omega⟩
  · have HV := Lib.hid (live14_any w)
    have d1 : decide ((40 : Int) < (n : Int)) = true := by simp; omega
    clear r s hL hn hc hcm hx hw
    by_cases h2 : n ≤ 4102
    · have d2 : decide ((n : Int) ≤ 4102) = true := by simp; omega
      go_enter Try.func3, Try.ntmps3
      go_wp2_with (go_at_call 10; refine HV.out.mono ?_; rintro e w1 ⟨rfl, hb1⟩)
      go_ret
      exact ⟨rfl, hb1⟩
    · have d2 : decide ((n : Int) ≤ 4102) = false := by simp; omega
      have d3 : decide ((4110 : Int) < (n : Int)) = true := by simp; omega
      go_enter Try.func3, Try.ntmps3
      go_wp2_with (go_at_call 10; refine HV.out.mono ?_; rintro e w1 ⟨rfl, hb1⟩)
      go_ret
      exact ⟨rfl, hb1⟩

end Go.Proofs.Ytpdiilfpbkmebaa
