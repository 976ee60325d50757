/-
  What the document's own product that goes around comes to (brackenref06.Wrap): the same list.
-/
import Derived.Test.YtmkbgocmddjfbaaDoorRefDft
namespace Go.Proofs.YtmkbgocmddjfbaaDoor
open Go.RowKit Go.Shelf

set_option maxHeartbeats 4000000 in
theorem rwrap_any (p : Int) (x y : Option Addr) (n m cap cap' : Nat) (xs ys : List Int) (neg : Bool) (w : World) (hx : Reads .u64 w w.heap.size x xs) (hy : Reads .u64 w w.heap.size y ys) (hn : xs.length = n) (hm : ys.length = m)
    (hw : Words xs) (hw' : Words ys) (hl : n ≤ maxLen) (hl' : m ≤ maxLen) :
    Calls Tryd.prog 13 #[.int .u64 p, .slice x n cap, .slice y m cap', .bool neg] w (LineRet w (wrp p xs ys neg) (wrapE p xs ys neg)) := by
  subst hn
  subst hm
  have HC1 := Lib.hid (rlcheck_any p x xs.length cap xs neg w hx rfl hl)
  have HC2 := Lib.hid (fun W (hB : Below w.heap.size w W) => rlcheck_any p y ys.length cap' ys neg W ((hy.below hB).more hB.size) rfl hl')
  unfold wrp
  rcases wrapE_cases p xs ys neg with ⟨hE, h1⟩ | ⟨hE, h1, h2⟩ | ⟨hE, h1, h2, h3⟩ | ⟨hE, h1, h2, h3⟩
  · rw [hE, if_neg h1]
    have t := ne_of_bne h1
    clear hE h1 hx hy hw hw' hl hl'
    go_enter Tryd.func13, Tryd.ntmps13
    go_wp2_with (go_at_call 16; refine HC1.out.mono ?_; rintro e w1 ⟨rfl, hB1⟩)
    go_ret2
    exact ⟨_, rfl, Owns.nil, hB1⟩
  · rw [hE, if_neg h2]
    have t := ne_of_bne h2
    rw [h1] at HC1
    clear hE h1 h2 hx hy hw hw' hl hl'
    go_enter Tryd.func13, Tryd.ntmps13
    go_wp2_with (first
      | (go_at_call_of 16 (Value.slice x xs.length cap); refine HC1.out.mono ?_; rintro e w1 ⟨rfl, hB1⟩)
      | (go_at_call 16; refine (HC2.out _ hB1).mono ?_; rintro e w2 ⟨rfl, hB2⟩))
    go_ret2
    exact ⟨_, rfl, Owns.nil, hB1.trans (hB2.mono hB1.size)⟩
  · rw [hE, if_neg (by omega)]
    rw [h1] at HC1
    rw [h2] at HC2
    have t : ((xs.length : Int) != (ys.length : Int)) = true := by rw [bne_iff_ne]; omega
    clear hE h1 h2 h3 hx hy hw hw' hl hl'
    go_enter Tryd.func13, Tryd.ntmps13
    go_wp2_with (first
      | (go_at_call_of 16 (Value.slice x xs.length cap); refine HC1.out.mono ?_; rintro e w1 ⟨rfl, hB1⟩)
      | (go_at_call 16; refine (HC2.out _ hB1).mono ?_; rintro e w2 ⟨rfl, hB2⟩))
    go_ret2
    exact ⟨_, rfl, Owns.nil, hB1.trans (hB2.mono hB1.size)⟩
  · rw [hE, if_pos rfl]
    rw [h1] at HC1
    rw [h2] at HC2
    have hL := lineE_zero h1
    obtain ⟨l1, l2⟩ := hL.len
    have H := Lib.hid hL.kn
    have t : ((xs.length : Int) != (ys.length : Int)) = false := by rw [h3]; simp
    have HX := Lib.hid hx
    have HY := Lib.hid hy
    have HW := Lib.hid hw
    have HW' := Lib.hid hw'
    obtain ⟨i0, hi, hz0, hz1, hz2⟩ := info_parts info_u64
    have HZ2 := Lib.hid hz2
    have hmx : Tryd.prog.follows .mixedOrders = true := by kernel_rfl
    have hn0 : (xs.length : Int) ≠ 0 := by omega
    rw [← h3] at HC2 t ⊢
    have HY3 := Lib.hid h3
    clear hE h1 h2 h3 hx hy hw hw' hl hl' hL hz2
    go_enter Tryd.func13, Tryd.ntmps13
    go_wp2_with (first
      | (go_at_call_of 16 (Value.slice x xs.length cap); refine HC1.out.mono ?_; rintro e w1 ⟨rfl, hB1⟩)
      | (go_at_call 16; refine (HC2.out _ hB1).mono ?_; rintro e w2 ⟨rfl, hB2⟩)
      | (at_make; refine wpList_make_full _ rfl _ _ 23 rfl w2.heap.size 22 i0 (.int .u64 0) 1 Tryd.underlying23 hi hz0 hz1 .i64 .i64 _ _ xs.length rfl rfl rfl rfl (by rw [HZ2.out]; omega) (by unfold maxLen; omega) (Nat.le_refl _) ?_; intro w3 hown hgrow))
    have hB0 := hB1.trans (hB2.mono hB1.size)
    have hst : RowAt .u64 22 w3 w.heap.size w2.heap.size xs.length (Fp.acc p neg xs.length (nth xs) (nth ys) 0 0) := ((RowAt.start hown).mono hB0.size).congr (fun t _ => (Fp.acc_start _ _ _ _ _ _).symm)
    have hbl := hB0.trans (((Below.refl w2.heap.size w2).grown hgrow (Nat.le_refl _) (fun k e => by cases e)).mono hB0.size)
    obtain ⟨g, hg⟩ : ∃ g, g = w2.heap.size := ⟨_, rfl⟩
    rw [← hg] at hst ⊢
    clear hown hgrow hi hz0 hz1 HC1 HC2 hB1 hB2 hB0 hg
    go_loopw [42] (fun i wr => ∃ i' : Nat, i' ≤ xs.length ∧ i = .int .i64 (i' : Int) ∧ RowAt .u64 22 wr w.heap.size g xs.length (Fp.acc p neg xs.length (nth xs) (nth ys) i' 0) ∧ Below w.heap.size w wr) (fun i _ => xs.length - (intOf i).toNat)
    case atStart => exact ⟨0, Nat.zero_le _, rfl, hst, hbl⟩
    case round =>
      obtain ⟨i, hi, rfl, hP, hB⟩ := hrel
      clear hst hbl
      by_cases hlt : i < xs.length
      · have hdi : decide (i < xs.length) = true := by simpa using hlt
        obtain ⟨b, off, rfl, hb, hcx⟩ := HX.out (by omega)
        have hx1 := (hB.cell (p := ⟨b, off + i, none⟩) hb).trans (hcx i hlt)
        obtain ⟨u0, u1⟩ := HW.out i
        obtain ⟨u, hu⟩ : ∃ u, u = xs.getD i 0 := ⟨_, rfl⟩
        rw [← hu] at hx1 u0 u1
        have HU : Hid (u = nth xs i) := Lib.hid hu
        have HP := Lib.hid hP
        have HB := Lib.hid hB
        clear hP hB hcx hu
        go_wp2
        go_loopw [49] (fun j wi => ∃ j' : Nat, j' ≤ xs.length ∧ j = .int .i64 (j' : Int) ∧ RowAt .u64 22 wi w.heap.size g xs.length (Fp.acc p neg xs.length (nth xs) (nth ys) i j') ∧ Below w.heap.size w wi) (fun j _ => xs.length - (intOf j).toNat)
        case atStart => exact ⟨0, Nat.zero_le _, rfl, HP.out, HB.out⟩
        case round =>
          clear HP HB hx1
          obtain ⟨j, hj, rfl, hP, hB⟩ := hrel
          by_cases hlm : j < xs.length
          · have hdm : decide (j < xs.length) = true := by simpa using hlm
            obtain ⟨b', off', rfl, hb', hcy⟩ := HY.out (by have := HY3.out; omega)
            have hy1 := (hB.cell (p := ⟨b', off' + j, none⟩) hb').trans (hcy j (by have := HY3.out; omega))
            obtain ⟨v0, v1⟩ := HW'.out j
            obtain ⟨v, hv⟩ : ∃ v, v = ys.getD j 0 := ⟨_, rfl⟩
            rw [← hv] at hy1 v0 v1
            have HV : Hid (v = nth ys j) := Lib.hid hv
            obtain ⟨s, hs⟩ : ∃ s, s = i + j := ⟨_, rfl⟩
            have hsc : (i : Int) + (j : Int) = (s : Int) := by omega
            obtain ⟨t0, ht⟩ : ∃ t0, t0 = s % xs.length := ⟨_, rfl⟩
            have hct : (s : Int) % (xs.length : Int) = (t0 : Int) := by rw [ht]; exact cast_mod s xs.length
            have htl : t0 < xs.length := by rw [ht]; exact Nat.mod_lt _ (by omega)
            have hc := hP.cell t0 htl
            have hf := hP.frozen t0
            have hg := hP.lt
            obtain ⟨a0, a1⟩ := Fp.acc_bd H.out neg xs.length (nth xs) (nth ys) i j t0
            have HE : Hid (∀ z, z = Fp.acc p neg xs.length (nth xs) (nth ys) i (j + 1) t0 → ∀ q, RowAt .u64 22 ((wr.drewN q).setCell ⟨g, t0, none⟩ (.int .u64 z)) w.heap.size g xs.length (Fp.acc p neg xs.length (nth xs) (nth ys) i (j + 1)) ∧ Below w.heap.size w ((wr.drewN q).setCell ⟨g, t0, none⟩ (.int .u64 z))) := Lib.hid (by
              rintro z rfl q
              refine ⟨(hP.draws q).set t0 (fun t _ hne => Fp.acc_else _ _ _ _ _ _ _ _ (by rw [← hs, ← ht]; exact Ne.symm hne)), (below_draws hB q).setCell (p := ⟨g, t0, none⟩) hg.1 _⟩)
            have HT : Hid (t0 = (i + j) % xs.length) := Lib.hid (by rw [ht, hs])
            have HSS := Lib.hid hs
            obtain ⟨av, hav⟩ : ∃ av, av = Fp.acc p neg xs.length (nth xs) (nth ys) i j t0 := ⟨_, rfl⟩
            rw [← hav] at hc a0 a1
            have HA := Lib.hid hav
            obtain ⟨g0, g1⟩ := hg
            clear hP hB hcy hv hs ht hav
            obtain ⟨z0, z1, -⟩ := Fp.mul_bd p u v
            obtain ⟨y0, y1, -⟩ := Fp.neg_bd p (Fp.mul p u v)
            have hss : s ≤ 8192 := by have := HSS.out; omega
            by_cases hcase : neg = true ∧ xs.length ≤ s
            · have HZ : Hid (Fp.add p av (Fp.neg p (Fp.mul p u v)) = Fp.acc p neg xs.length (nth xs) (nth ys) i (j + 1) t0) := Lib.hid (by
                rw [HA.out, HT.out, HU.out, HV.out]
                exact Fp.acc_minus H.out neg xs.length (nth xs) (nth ys) i j ⟨hcase.1, by have := HSS.out; omega⟩)
              obtain ⟨rfl, hcs⟩ := hcase
              have hdc : decide (xs.length ≤ s) = true := by simpa using hcs
              go_wp2_with (first
                | (go_at_call 27; refine (rmul_any _ _ _ _ (by omega) (by omega) (by omega) (by omega)).mono ?_; rintro e w' ⟨rfl, rfl⟩)
                | (go_at_call 36; refine (rneg_any _ _ _ (by omega) (by omega)).mono ?_; rintro e w' ⟨rfl, rfl⟩))
              refine region_quiet_tail 20 hmx (by kernel_rfl) ?_
              simp only [List.take_succ_cons, List.take_zero, List.drop_succ_cons, List.drop_zero]
              repeat (first | go_big_quiet_step ((go_at_call 26; exact Calls.quiet_of (radd_any _ _ _ _ (by omega) (by omega) (by omega) (by omega)))) | quiet_step ((go_at_call 26; exact Calls.quiet_of (radd_any _ _ _ _ (by omega) (by omega) (by omega) (by omega)))))
              refine wpQuiet_nil ?_
              rintro w' ⟨nq, rfl⟩
              go_wp2
              go_roundw
              case rel => exact ⟨j + 1, by omega, by go_num, HE.out _ HZ.out _⟩
              case measure => simp [intOf]; omega
            · have HZ : Hid (Fp.add p av (Fp.mul p u v) = Fp.acc p neg xs.length (nth xs) (nth ys) i (j + 1) t0) := Lib.hid (by
                rw [HA.out, HT.out, HU.out, HV.out]
                exact Fp.acc_plus H.out neg xs.length (nth xs) (nth ys) i j (by have := HSS.out; rw [← this]; exact hcase))
              by_cases hcs : xs.length ≤ s
              · have hdc : decide (xs.length ≤ s) = true := by simpa using hcs
                obtain rfl : neg = false := by
                  cases neg with
                  | false => rfl
                  | true => exact absurd ⟨rfl, hcs⟩ hcase
                clear hcase
                go_wp2_with (go_at_call 27; refine (rmul_any _ _ _ _ (by omega) (by omega) (by omega) (by omega)).mono ?_; rintro e w' ⟨rfl, rfl⟩)
                refine region_quiet_tail 20 hmx (by kernel_rfl) ?_
                simp only [List.take_succ_cons, List.take_zero, List.drop_succ_cons, List.drop_zero]
                repeat (first | go_big_quiet_step ((go_at_call 26; exact Calls.quiet_of (radd_any _ _ _ _ (by omega) (by omega) (by omega) (by omega)))) | quiet_step ((go_at_call 26; exact Calls.quiet_of (radd_any _ _ _ _ (by omega) (by omega) (by omega) (by omega)))))
                refine wpQuiet_nil ?_
                rintro w' ⟨nq, rfl⟩
                go_wp2
                go_roundw
                case rel => exact ⟨j + 1, by omega, by go_num, HE.out _ HZ.out _⟩
                case measure => simp [intOf]; omega
              · have hdc : decide (xs.length ≤ s) = false := by simpa using hcs
                clear hcase
                cases neg
                · go_wp2_with (go_at_call 27; refine (rmul_any _ _ _ _ (by omega) (by omega) (by omega) (by omega)).mono ?_; rintro e w' ⟨rfl, rfl⟩)
                  refine region_quiet_tail 20 hmx (by kernel_rfl) ?_
                  simp only [List.take_succ_cons, List.take_zero, List.drop_succ_cons, List.drop_zero]
                  repeat (first | go_big_quiet_step ((go_at_call 26; exact Calls.quiet_of (radd_any _ _ _ _ (by omega) (by omega) (by omega) (by omega)))) | quiet_step ((go_at_call 26; exact Calls.quiet_of (radd_any _ _ _ _ (by omega) (by omega) (by omega) (by omega)))))
                  refine wpQuiet_nil ?_
                  rintro w' ⟨nq, rfl⟩
                  go_wp2
                  go_roundw
                  case rel => exact ⟨j + 1, by omega, by go_num, HE.out _ HZ.out _⟩
                  case measure => simp [intOf]; omega
                · go_wp2_with (go_at_call 27; refine (rmul_any _ _ _ _ (by omega) (by omega) (by omega) (by omega)).mono ?_; rintro e w' ⟨rfl, rfl⟩)
                  refine region_quiet_tail 20 hmx (by kernel_rfl) ?_
                  simp only [List.take_succ_cons, List.take_zero, List.drop_succ_cons, List.drop_zero]
                  repeat (first | go_big_quiet_step ((go_at_call 26; exact Calls.quiet_of (radd_any _ _ _ _ (by omega) (by omega) (by omega) (by omega)))) | quiet_step ((go_at_call 26; exact Calls.quiet_of (radd_any _ _ _ _ (by omega) (by omega) (by omega) (by omega)))))
                  refine wpQuiet_nil ?_
                  rintro w' ⟨nq, rfl⟩
                  go_wp2
                  go_roundw
                  case rel => exact ⟨j + 1, by omega, by go_num, HE.out _ HZ.out _⟩
                  case measure => simp [intOf]; omega
          · obtain rfl : j = xs.length := by omega
            have hR := hP.congr (fun t _ => Fp.acc_turn p neg xs.length (nth xs) (nth ys) i t)
            clear hP
            go_wp2
            go_roundw
            case rel => exact ⟨i + 1, by omega, by go_num, hR, hB⟩
            case measure => simp [intOf]; omega
      · obtain rfl : i = xs.length := by omega
        have hR : LineRet w ((List.range xs.length).map (wrpN p xs ys neg)) 0 (.returned (.tuple #[.slice (some ⟨g, 0, none⟩) xs.length xs.length, .int .i64 0])) wr := ⟨_, rfl, hP.congr (fun t _ => Fp.acc_end _ _ _ _ _ _), hB⟩
        clear hP hB
        go_wp2
        go_ret2
        exact hR

end Go.Proofs.YtmkbgocmddjfbaaDoor
