/-
  The walk of VoteDoes: any words put three times, and any words told by threes, or why not: as the document has it; they stay as they were.
-/
import Derived.Test.YtnonoemhefjliaaVoteOpen
import Derived.Test.YtnonoemhefjliaaOwnTwo
import Derived.Test.YtnonoemhefjliaaAnyW
namespace Go.Proofs.Ytnonoemhefjliaa
open Go.RowKit

theorem thP_len (xs : List Int) : (thP xs).length ≤ 1 := by
  unfold thP
  split
  · simp
  · exact p3_len _ _ _
theorem clW_len (xs : List Int) : (clW xs).length ≤ 1024 := by
  by_cases h : clE xs = 0
  · rw [clW_yes h, wds_len]; have := (clE_zero h).1; omega
  · rw [clW_no h]; simp
theorem clF_len (xs : List Int) : (clF xs).length ≤ 1024 := by
  by_cases h : clE xs = 0
  · rw [clF_yes h]; have := fxs_len xs (xs.length / 3); have := (clE_zero h).1; omega
  · rw [clF_no h]; simp
theorem ptL_len (xs : List Int) : (ptL xs).length ≤ 3072 := by
  unfold ptL
  split
  · simp
  · rw [thrice_len]; omega

set_option maxRecDepth 100000 in
set_option maxHeartbeats 16000000 in
theorem vdoes_main (x1 : Option Addr) (n cap : Nat) (L : List Int) (w : World) (hx : Reads .u64 w w.heap.size x1 L) (hs : Src .u64 w x1 n cap L) (hc : n ≤ cap) (hm : cap ≤ maxLen) (hl : n ≤ 3080) (b1 b2 b3 b4 : Bool)
    (d1 : decide ((60 : Int) < (n : Int)) = b1) (d2 : decide ((n : Int) ≤ 1020) = b2) (d3 : decide ((1030 : Int) < (n : Int)) = b3) (d4 : decide ((n : Int) < 3070) = b4)
    (hb : (b1 = false ∧ b3 = false) ∨ (b1 = true ∧ b2 = false ∧ b3 = false) ∨ (b1 = true ∧ b2 = false ∧ b3 = true ∧ b4 = false)) :
    Calls Try.prog 3 #[.slice x1 n cap] w fun e w' => e = .returned (.bool true) ∧ Below w.heap.size w w' := by
  have HV := Lib.hid (live13_any w)
  have hn := hs.1
  have d5 : decide ((3080 : Int) < (n : Int)) = false := by simp; omega
  obtain ⟨i0, hi, hz0, hz1, hz2⟩ := info_parts info_u64
  have P1 := Lib.hid (fun W (hB : Below w.heap.size w W) => put_any x1 n cap L W (hx.later hB) hn)
  have P2 := Lib.hid (fun W (hB : Below w.heap.size w W) => rput_any x1 n cap L W (hx.later hB) hn)
  have P3 := Lib.hid (fun W (hB : Below w.heap.size w W) => three_any x1 n cap L W W.heap.size (hx.later hB) hn)
  have P4 := Lib.hid (fun W (hB : Below w.heap.size w W) => rthree_any x1 n cap L W W.heap.size (hx.later hB) hn)
  have P5 := Lib.hid (fun W (hB : Below w.heap.size w W) => cells_any x1 n cap L W (hx.later hB) hn hc hm)
  have P6 := Lib.hid (fun W (hB : Below w.heap.size w W) => rcells_any x1 n cap L W (hx.later hB) hn hc hm)
  have HSL := Lib.hid (fun W (hB : Below w.heap.size w W) => hs.keep hB)
  have HX := Lib.hid (fun W (hB : Below w.heap.size w W) => hx.later hB)
  have hl1 := ptL_len L
  have hl2 := thP_len L
  have hl3 := clW_len L
  have hl4 := clF_len L
  generalize ptL L = A at P1 P2 hl1
  generalize ptE L = eA at P1 P2
  generalize thP L = T at P3 P4 hl2
  generalize thE L = eT at P3 P4
  generalize thW L = uT at P3 P4
  generalize clW L = C at P5 P6 hl3
  generalize clF L = F at P5 P6 hl4
  generalize clE L = eC at P5 P6
  obtain ⟨na, hna⟩ : ∃ na, A.length = na := ⟨_, rfl⟩
  obtain ⟨nt, hnt⟩ : ∃ nt, T.length = nt := ⟨_, rfl⟩
  obtain ⟨nc, hnc⟩ : ∃ nc, C.length = nc := ⟨_, rfl⟩
  obtain ⟨nf, hnf⟩ : ∃ nf, F.length = nf := ⟨_, rfl⟩
  rw [hna] at hl1
  rw [hnt] at hl2
  rw [hnc] at hl3
  rw [hnf] at hl4
  have S1 := Lib.hid (fun W x y c c' (hx : Reads .u64 W W.heap.size x A) (hy : Reads .u64 W W.heap.size y A) => sameW_any x y na na c c' A A W W.heap.size hx hy hna hna (by omega) (by omega))
  have S2 := Lib.hid (fun W x y c c' (hx : Reads .i64 W W.heap.size x T) (hy : Reads .i64 W W.heap.size y T) => sameInts_any x y nt nt c c' T T W W.heap.size hx hy hnt hnt (by omega) (by omega))
  have S3 := Lib.hid (fun W x y c c' (hx : Reads .u64 W W.heap.size x C) (hy : Reads .u64 W W.heap.size y C) => sameW_any x y nc nc c c' C C W W.heap.size hx hy hnc hnc (by omega) (by omega))
  have S4 := Lib.hid (fun W x y c c' (hx : ReadsF W W.heap.size x F) (hy : ReadsF W W.heap.size y F) => sameF_any x y nf nf c c' F F W W.heap.size hx hy hnf hnf (by omega) (by omega))
  have S5 := Lib.hid (fun W x y c c' (hx : Reads .u64 W W.heap.size x L) (hy : Reads .u64 W W.heap.size y L) => sameW_any x y n n c c' L L W W.heap.size hx hy hn hn (by omega) (by omega))
  rw [decide_eq_true rfl] at S1 S2 S3 S4 S5
  have HN := Lib.hid hn
  have HA := Lib.hid hna
  have HT := Lib.hid hnt
  have HC := Lib.hid hnc
  have HF := Lib.hid hnf
  clear hx hs hm hn hna hnt hnc hnf
  obtain ⟨rfl, rfl⟩ | ⟨rfl, rfl, rfl⟩ | ⟨rfl, rfl, rfl, rfl⟩ := hb
  all_goals
    go_enter Try.func3, Try.ntmps3
    go_wp2_with (first
      | (go_at_call 9; refine HV.out.mono ?_; rintro e w1 ⟨rfl, hb1⟩; have B1 := Lib.hid hb1; clear hb1 HV)
      | (at_builtin; refine wpList_append_nums (by rfl) (.const (.slice none 0 0)) (.tmp 48) 22 (by rfl) w1.heap.size 27 i0 .u64 8 Try.underlying22 hi hz0 hz1 hz2 (.slice none 0 0) [] (by rfl) Owns.nil x1 n cap L (by rfl) (HSL.out _ B1.out) (by unfold maxLen; simp; omega) (by simp; omega) (Nat.le_refl _) ?_; intro v2 w2 hO2 hg2; rw [List.nil_append] at hO2; have B2 := Lib.hid (B1.out.grown hg2 B1.out.size (fun g e => by cases e)); obtain ⟨x0, c0, rfl, -, -, hR2, -⟩ := hO2.form; rw [HN.out]; have R0 := Lib.hid hR2; clear hO2 hg2 hR2 HSL B1)
      | (go_at_call 10; refine (P1.out w2 B2.out).mono ?_; rintro e w3 hr; obtain ⟨x3, c3, rfl, hO, -, -, hB⟩ := hr.open HA.out; have T3 := Lib.hid hB; have O3 := Lib.hid hO; clear hr hB hO P1)
      | (go_at_call 11; refine (P2.out w3 (below_on' B2.out T3.out)).mono ?_; rintro e w4 hr; obtain ⟨x4, c4, rfl, hO, -, -, hB⟩ := hr.open HA.out; have T4 := Lib.hid (below_on' T3.out hB); have U4 := Lib.hid hB; have R4 := Lib.hid hO.rd; clear hr hB hO P2)
      | (go_at_call 12; refine (P3.out w4 (below_on' B2.out T4.out)).mono ?_; rintro e w5 ⟨x5, c5, rfl, hO, hB⟩; rw [HT.out] at hO ⊢; have T5 := Lib.hid (below_on' T4.out hB); have U5 := Lib.hid (below_on' U4.out hB); have V5 := Lib.hid hB; have R5 := Lib.hid hO.rd; clear hB hO P3 U4 T4)
      | (go_at_call 13; refine (P4.out w5 (below_on' B2.out T5.out)).mono ?_; rintro e w6 ⟨x6, c6, rfl, hO, hB⟩; rw [HT.out] at hO ⊢; have T6 := Lib.hid (below_on' T5.out hB); have U6 := Lib.hid (below_on' U5.out hB); have V6 := Lib.hid (below_on' V5.out hB); have W6 := Lib.hid hB; have R6 := Lib.hid hO.rd; clear hB hO P4 T5 U5 V5)
      | (go_at_call 14; refine (P5.out w6 (below_on' B2.out T6.out)).mono ?_; rintro e w7 hr; obtain ⟨x7, c7, y7, d7, rfl, hO, -, -, hR, hB⟩ := hr.open HC.out HF.out; have T7 := Lib.hid (below_on' T6.out hB); have M7 := Lib.hid hB; have O7 := Lib.hid hO; have F7 := Lib.hid hR; clear hr hB hO hR P5)
      | (go_at_call 15; refine (P6.out w7 (below_on' B2.out T7.out)).mono ?_; rintro e w8 hr; obtain ⟨x8, c8, y8, d8, rfl, hO, -, -, hR, hB⟩ := hr.open HC.out HF.out; have M8 := Lib.hid hB; have R8 := Lib.hid hO.rd; have F8 := Lib.hid hR; clear hr hB hO hR P6)
      | (go_at_call 16; have _t := S1; refine (S1.out w8 x3 x4 c3 c4 (O3.out.rd.later (below_on' (below_on' U6.out M7.out) M8.out)) (R4.out.later (below_on' (below_on' V6.out M7.out) M8.out))).mono ?_; rintro e w9 ⟨rfl, nd1, rfl⟩; clear S1)
      | (go_at_call 17; refine (S2.out (w8.drewN nd1) x5 x6 c5 c6 ((R5.out.later (below_on' (below_on' W6.out M7.out) M8.out)).draws nd1) ((R6.out.later (below_on' M7.out M8.out)).draws nd1)).mono ?_; rintro e w10 ⟨rfl, nd2, rfl⟩; clear S2)
      | (go_at_call 16; have _t := S3; refine (S3.out (w8.drewN (nd1 + nd2)) x7 x8 c7 c8 ((O7.out.rd.later M8.out).draws _) (R8.out.draws _)).mono ?_; rintro e w11 ⟨rfl, nd3, rfl⟩; clear S3)
      | (go_at_call 18; refine (S4.out (w8.drewN (nd1 + nd2 + nd3)) y7 y8 d7 d8 ((F7.out.since M8.out).draws _) (F8.out.draws _)).mono ?_; rintro e w12 ⟨rfl, nd4, rfl⟩; clear S4))
    have KA : Hid (∀ q, AnyW (w8.drewN q) w2.heap.size (.slice x3 na c3) na ∧ AnyW (w8.drewN q) w6.heap.size (.slice x7 nc c7) nc ∧ Below w2.heap.size w2 (w8.drewN q)) := Lib.hid (fun q => by
      have b3 := below_on' (below_on' U6.out M7.out) M8.out
      exact ⟨(AnyW.of O3.out HA.out).below (below_draws b3 q), (AnyW.of O7.out HC.out).below (below_draws M8.out q), below_draws (below_on' T7.out M8.out) q⟩)
    have KG : Hid (∀ g, x3 = some ⟨g, 0, none⟩ → g < w6.heap.size) := Lib.hid (fun g e => by have := (O3.out.inside (g := g) (by rw [e]; rfl)).2; have := U6.out.size; omega)
    have HS26 : Hid (w2.heap.size ≤ w6.heap.size) := Lib.hid T6.out.size
    clear T3 O3 R4 U6 V6 W6 R5 R6 T6 T7 M7 O7 F7 M8 R8 F8 d1 d3
    go_loopw [124] (fun i wr => ∃ k : Nat, k ≤ na ∧ i = .int .i64 (k : Int) ∧ Hid (AnyW wr w2.heap.size (.slice x3 na c3) na ∧ AnyW wr w6.heap.size (.slice x7 nc c7) nc ∧ Below w2.heap.size w2 wr)) (fun i _ => na - (intOf i).toNat)
    case atStart => exact ⟨0, Nat.zero_le _, rfl, Lib.hid (KA.out _)⟩
    case round =>
      obtain ⟨k, hk, rfl, HI⟩ := hrel
      clear KA
      by_cases hlt : k < na
      · obtain ⟨g, rfl, hg, -⟩ := HI.out.1.at (by omega)
        obtain ⟨y, hc'⟩ := HI.out.1.cell hlt
        have hf := HI.out.1.melt k
        have HG := Lib.hid (And.intro hg (KG.out g rfl))
        clear hg
        go_wp2
        go_roundw
        case rel => exact ⟨k + 1, by omega, by go_num, Lib.hid ⟨HI.out.1.put _ _, HI.out.2.1.apart (p := ⟨g, k, none⟩) HG.out.2 _, HI.out.2.2.setCell (p := ⟨g, k, none⟩) HG.out.1 _⟩⟩
        case measure => simp [intOf]; omega
      · go_wp2
        go_loopw [136] (fun i wi => ∃ j : Nat, j ≤ nc ∧ i = .int .i64 (j : Int) ∧ Hid (AnyW wi w6.heap.size (.slice x7 nc c7) nc ∧ Below w2.heap.size w2 wi)) (fun i _ => nc - (intOf i).toNat)
        case atStart => exact ⟨0, Nat.zero_le _, rfl, Lib.hid HI.out.2⟩
        case round =>
          obtain ⟨j, hj, rfl, HJ⟩ := hrel
          clear HI
          by_cases hlj : j < nc
          · obtain ⟨g, rfl, hg, -⟩ := HJ.out.1.at (by omega)
            obtain ⟨y, hc'⟩ := HJ.out.1.cell hlj
            have hf := HJ.out.1.melt j
            have HG : Hid (w2.heap.size ≤ g) := Lib.hid (Nat.le_trans HS26.out hg)
            clear hg
            go_wp2
            go_roundw
            case rel => exact ⟨j + 1, by omega, by go_num, Lib.hid ⟨HJ.out.1.put _ _, HJ.out.2.setCell (p := ⟨g, j, none⟩) HG.out _⟩⟩
            case measure => simp [intOf]; omega
          · have HB := Lib.hid (below_on' B2.out HJ.out.2)
            have HW := Lib.hid HJ.out.2
            clear HJ
            go_wp2_with (go_at_call 16; refine (S5.out wr x1 x0 cap c0 (HX.out wr HB.out) (R0.out.later HW.out)).mono ?_; rintro e w13 ⟨rfl, nd5, rfl⟩)
            go_ret
            exact ⟨rfl, below_draws HB.out _⟩

set_option maxRecDepth 100000 in
set_option maxHeartbeats 4000000 in
theorem walk_VoteDoes (x1 : Option Addr) (n cap : Nat) (zs : List Int) (w : World) (r : RowIn .u64 w x1 n cap zs) :
    Calls Try.prog 3 #[.slice x1 n cap] w fun e w' => e = .returned (.bool true) ∧ Below w.heap.size w w' := by
  have s1 := r.src
  obtain ⟨L, hL, -, hc, hm, hx, -⟩ := r.reads
  rw [← hL] at s1
  clear r hL
  have HV := Lib.hid (live13_any w)
  by_cases h1 : n ≤ 60
  · exact vdoes_main x1 n cap L w hx s1 hc hm (by omega) false (decide ((n : Int) ≤ 1020)) false (decide ((n : Int) < 3070)) (by simp; omega) rfl (by simp; omega) rfl (.inl ⟨rfl, rfl⟩)
  · have d1 : decide ((60 : Int) < (n : Int)) = true := by simp; omega
    by_cases h2 : n ≤ 1020
    · have d2 : decide ((n : Int) ≤ 1020) = true := by simp; omega
      have d5 : decide ((3080 : Int) < (n : Int)) = false := by simp; omega
      clear hx s1 hm h1 h2
      go_enter Try.func3, Try.ntmps3
      go_wp2_with (go_at_call 9; refine HV.out.mono ?_; rintro e w1 ⟨rfl, hb1⟩)
      go_ret
      exact ⟨rfl, hb1⟩
    · have d2 : decide ((n : Int) ≤ 1020) = false := by simp; omega
      by_cases h3 : n ≤ 1030
      · exact vdoes_main x1 n cap L w hx s1 hc hm (by omega) true false false (decide ((n : Int) < 3070)) d1 d2 (by simp; omega) rfl (.inr (.inl ⟨rfl, rfl, rfl⟩))
      · have d3 : decide ((1030 : Int) < (n : Int)) = true := by simp; omega
        by_cases h4 : n < 3070
        · have d4 : decide ((n : Int) < 3070) = true := by simp; omega
          clear hx s1 hm h1 h2 h3 h4
          go_enter Try.func3, Try.ntmps3
          go_wp2_with (go_at_call 9; refine HV.out.mono ?_; rintro e w1 ⟨rfl, hb1⟩)
          go_ret
          exact ⟨rfl, hb1⟩
        · have d4 : decide ((n : Int) < 3070) = false := by simp; omega
          by_cases h5 : n ≤ 3080
          · exact vdoes_main x1 n cap L w hx s1 hc hm h5 true false true false d1 d2 d3 d4 (.inr (.inr ⟨rfl, rfl, rfl, rfl⟩))
          · have d5 : decide ((3080 : Int) < (n : Int)) = true := by simp; omega
            clear hx s1 hm h1 h2 h3 h4 h5
            go_enter Try.func3, Try.ntmps3
            go_wp2_with (go_at_call 9; refine HV.out.mono ?_; rintro e w1 ⟨rfl, hb1⟩)
            go_ret
            exact ⟨rfl, hb1⟩

end Go.Proofs.Ytnonoemhefjliaa
