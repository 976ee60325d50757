/-
  What fly.Do and fly.Weigh come to; all of fly in one word.
-/
import Derived.Test.YtmcnamlgbkbiaaaDoorFlyMeth
namespace Go.Proofs.YtmcnamlgbkbiaaaDoor
open Go.RowKit Go.Shelf Fly

set_option maxHeartbeats 1000000 in
theorem do15_any (p : Int) (inv : Bool) (x : Option Addr) (n cap : Nat) (xs : List Int) (w : World) (hG : Gl w) (hx : Reads .u64 w w.heap.size x xs) (hn : xs.length = n) (hw : Words xs) (hl : n ≤ maxLen) :
    Calls Tryd.prog 13 #[.int .u64 p, .bool inv, .slice x n cap] w (RetY w (doL p inv xs) (doE p xs)) := by
  subst hn
  have hl' : (xs.length : Int) ≤ 9223372036854775807 := by unfold maxLen at hl; omega
  have HPt := Lib.hid (points15_any p (xs.length : Int) inv w hG (by omega))
  clear hG
  by_cases hE : ptE p xs.length = 0
  · have h := ptE_zero hE
    obtain ⟨n1, n2⟩ := And.intro h.lo h.hi
    unfold ptsL at HPt
    rw [hE, if_pos rfl, Int.toNat_natCast] at HPt
    have HX := Lib.hid hx
    obtain ⟨b, off, rfl, hb, hc⟩ := hx (by omega)
    have HI : Hid (∀ W, Below w.heap.size w W → Calls Tryd.prog 18 #[.int .u64 p, .slice (some ⟨b, off, none⟩) xs.length cap] W fun e w' => e = .returned (.bool (inB p xs)) ∧ W = w') := Lib.hid (fun W hW => in_row p b off xs.length cap _ W hl' (fun j hj => (hW.cell (p := ⟨b, off + j, none⟩) hb).trans (hc j hj)))
    cases hin : inB p xs
    · have hdE : doE p xs = 7 := by unfold doE; rw [if_pos hE, if_neg (by simp [hin])]
      unfold doL
      rw [hdE, if_neg (by omega)]
      rw [hin] at HI
      generalize (List.range xs.length).map (pt p inv xs.length) = ps at HPt
      clear h hE hc hw hl hdE hin HX
      go_enter Tryd.func13, Tryd.ntmps13
      go_wp2_with (first
        | (go_at_call 11; refine HPt.out.mono ?_; rintro e w1 ⟨v, rfl, hO1, hB1⟩)
        | (go_at_call 18; refine (HI.out _ hB1).mono ?_; rintro e w' ⟨rfl, rfl⟩))
      go_ret2
      exact RetY.none 7 hB1
    · have hf : Fine p xs := ⟨h, inB_yes hin⟩
      rw [hf.zero]
      rw [hin] at HI
      have HM : Hid (∀ (y : Option Addr) (c : Nat) (W : World), Below w.heap.size w W → Reads .u64 W W.heap.size y (ptL p inv xs.length) → Calls Tryd.prog (mth xs.length) #[.agg #[.int .u64 p, .slice y xs.length c], .slice (some ⟨b, off, none⟩) xs.length cap] W (RetNums W (doL p inv xs))) :=
        Lib.hid (fun y c W hW hr => mth_any p inv y c _ cap xs W hf hw ((HX.out.below hW).more hW.size) hr)
      have HMo := Lib.hid (fun W => methodOf_any xs.length W n1 n2)
      have HPL : Hid ((List.range xs.length).map (pt p inv xs.length) = ptL p inv xs.length) := Lib.hid rfl
      have hE1 := mth_enters xs.length
      obtain ⟨m, hm⟩ : ∃ m, m = mth xs.length := ⟨_, rfl⟩
      rw [← hm] at HM HMo hE1
      have HLen := Lib.hid (ptL_len p inv xs.length)
      rw [HPL.out] at HPt
      generalize ptL p inv xs.length = ps at HPt HM HLen
      generalize doL p inv xs = ds at HM ⊢
      clear h hE hc hw hl hin HX hf hm HPL
      go_enter Tryd.func13, Tryd.ntmps13
      go_wp2_with (first
        | (go_at_call 11; refine HPt.out.mono ?_; rintro e w1 ⟨v, rfl, hO1, hB1⟩; obtain ⟨x1, c1, rfl, -, -, hr1, -⟩ := hO1.form; rw [HLen.out]; clear hO1)
        | (go_at_call 18; refine (HI.out _ hB1).mono ?_; rintro e w' ⟨rfl, rfl⟩)
        | (go_at_call 31; refine (HMo.out _).mono ?_; rintro e w2 ⟨rfl, hB2⟩)
        | (go_at_fn m; refine (HM.out _ _ _ (below_then hB1 hB2) ((hr1.below hB2).more hB2.size)).mono ?_; rintro e w3 ⟨v3, rfl, hO3, hB3⟩))
      go_ret2
      have hB := below_then hB1 hB2
      exact ⟨_, rfl, hO3.mono hB.size, below_then hB hB3⟩
  · have hd : doE p xs = ptE p xs.length := by unfold doE; rw [if_neg hE]
    unfold doL ptsL at *
    rw [hd, if_neg hE]
    rw [if_neg hE] at HPt
    have t : (ptE p xs.length != 0) = true := bne_iff_ne.2 hE
    clear hE hx hw hl hd
    go_enter Tryd.func13, Tryd.ntmps13
    go_wp2_with (go_at_call 11; refine HPt.out.mono ?_; rintro e w1 ⟨v, rfl, hO1, hB1⟩)
    go_ret2
    exact RetY.none _ hB1

set_option maxHeartbeats 1000000 in
theorem weigh15_any (p : Int) (inv : Bool) (x y : Option Addr) (n m cap cap' : Nat) (xs ws : List Int) (w : World) (hG : Gl w) (hx : Reads .u64 w w.heap.size x xs) (hn : xs.length = n) (hw : Words xs) (hy : Reads .u64 w w.heap.size y ws) (hm : ws.length = m) (hv : Words ws) (hl : n ≤ maxLen) (hl2 : m ≤ maxLen) :
    Calls Tryd.prog 15 #[.int .u64 p, .bool inv, .slice x n cap, .slice y m cap'] w (RetB (.tuple #[.int .u64 (wgV p inv xs ws), .int .i64 (wgE p xs ws)]) w) := by
  have HD := Lib.hid (do15_any p inv x n cap xs w hG hx hn hw hl)
  clear hG
  subst hn
  subst hm
  unfold wgV
  by_cases hE : doE p xs = 0
  · have h := doE_zero hE
    obtain ⟨n1, n2⟩ := And.intro h.rdx.lo h.rdx.hi
    rw [hE, h.doL] at HD
    unfold wgE
    rw [if_pos hE]
    have hl' : (ws.length : Int) ≤ 9223372036854775807 := by unfold maxLen at hl2; omega
    by_cases hq : ws.length = xs.length
    · obtain ⟨b, off, rfl, hb, hc⟩ := hy (by omega)
      have HI : Hid (∀ W, Below w.heap.size w W → Calls Tryd.prog 18 #[.int .u64 p, .slice (some ⟨b, off, none⟩) ws.length cap'] W fun e w' => e = .returned (.bool (inB p ws)) ∧ W = w') := Lib.hid (fun W hW => in_row p b off ws.length cap' _ W hl' (fun j hj => (hW.cell (p := ⟨b, off + j, none⟩) hb).trans (hc j hj)))
      have dq : ((ws.length : Int) != (xs.length : Int)) = false := by simp [hq]
      rw [if_pos hq]
      have HQ := Lib.hid hq
      cases hin : inB p ws
      · rw [hin] at HI
        rw [if_neg (by simp), if_neg (by simp)]
        clear hin hE h hx hw hv hl hl2 hq hc hy
        go_enter Tryd.func15, Tryd.ntmps15
        go_wp2_with (first
          | (go_at_call 13; refine HD.out.mono ?_; rintro e w1 ⟨v, rfl, hO1, hB1⟩)
          | (go_at_call 18; refine (HI.out _ hB1).mono ?_; rintro e w' ⟨rfl, rfl⟩))
        go_ret2
        exact ⟨rfl, hB1⟩
      · rw [hin] at HI
        rw [if_pos rfl, if_pos rfl]
        have HA := Lib.hid (fun m => wacc_more (inv := inv) (n := xs.length) (x := el xs) (w := el ws) h.rdx.kn m)
        have HZ := Lib.hid (wacc_all (p := p) (inv := inv) (n := xs.length) (x := el xs) (w := el ws))
        have H0 := Lib.hid (wacc_zero (p := p) (inv := inv) (n := xs.length) (x := el xs) (w := el ws))
        have HS := Lib.hid (fun m => wacc_bd (inv := inv) (n := xs.length) (x := el xs) (w := el ws) h.rdx.kn m)
        have HDb := Lib.hid (fun u => doN_bd (inv := inv) (n := xs.length) (x := el xs) h.rdx.kn u)
        have HK := Lib.hid (Fp.kn_bd h.rdx.kn)
        have HC := Lib.hid hc
        have HW := Lib.hid hv
        generalize wacc p inv xs.length (el xs) (el ws) = A at HA HZ H0 HS
        generalize doN p inv xs.length (el xs) = d at HA HD HDb
        generalize wgN p inv xs.length (el xs) (el ws) = res at HZ ⊢
        clear hin hE h hx hw hv hl hl2 hq hc hy
        go_enter Tryd.func15, Tryd.ntmps15
        go_wp2_with (first
          | (go_at_call 13; refine HD.out.mono ?_; rintro e w1 ⟨v, rfl, hO1, hB1⟩; obtain ⟨x1, c1, rfl, -, -, hr1, -⟩ := hO1.form; obtain ⟨b1, o1, rfl, hb1, hc1⟩ := hr1 (by rw [List.length_map, List.length_range]; omega); rw [List.length_map, List.length_range] at hc1 ⊢)
          | (go_at_call 18; refine (HI.out _ hB1).mono ?_; rintro e w' ⟨rfl, rfl⟩))
        have HC1 : Hid (∀ j, j < xs.length → w1.cell? ⟨b1, o1 + j, none⟩ = some (.int .u64 (d j))) := Lib.hid (fun j hj => by rw [hc1 j hj]; simp [hj])
        clear hO1 hc1 HD HI
        go_loopw [12, 36] (fun s i wi => ∃ m q : Nat, m ≤ xs.length ∧ i = .int .i64 (m : Int) ∧ s = .int .u64 (A m) ∧ wi = w1.drewN q) (fun _ i _ => xs.length - (intOf i).toNat)
        case atStart => exact ⟨0, 0, Nat.zero_le _, rfl, by rw [H0.out], rfl⟩
        case round =>
          obtain ⟨m, q, hm, rfl, rfl, rfl⟩ := hrel
          by_cases hlm : m < xs.length
          · have hdm : decide (m < xs.length) = true := by simpa using hlm
            have hlw : m < ws.length := by have := HQ.out; omega
            have hx1 := HC1.out m hlm
            have hy1 := (hB1.cell (p := ⟨b, off + m, none⟩) hb).trans (HC.out m hlw)
            obtain ⟨y0, y1⟩ := HW.out m
            obtain ⟨d0, d1⟩ := HDb.out m
            obtain ⟨a0, a1⟩ := HS.out m
            obtain ⟨p0, p1⟩ := HK.out
            have HT := Lib.hid (HA.out m)
            obtain ⟨u, hu⟩ : ∃ u, u = d m := ⟨_, rfl⟩
            obtain ⟨gv, hgv⟩ : ∃ gv, gv = ws.getD m 0 := ⟨_, rfl⟩
            obtain ⟨sv, hsv⟩ : ∃ sv, sv = A m := ⟨_, rfl⟩
            unfold el at HT
            rw [← hu, ← hgv, ← hsv] at HT
            rw [← hu] at hx1 d0 d1
            rw [← hgv] at hy1 y0 y1
            rw [← hsv] at a0 a1
            rw [← hsv]
            obtain ⟨t0, t1, -⟩ := Fp.mul_bd p u gv
            clear hu hgv hsv
            go_wp2_with (first
              | (go_at_call 19; refine (mul_any _ _ _ _ (by omega) (by omega) (by omega) (by omega)).mono ?_; rintro e w' ⟨rfl, n2, rfl⟩)
              | (go_at_call 20; refine (add_any _ _ _ _ (by omega) (by omega) (by omega) (by omega)).mono ?_; rintro e w' ⟨rfl, n3, rfl⟩))
            go_roundw
            case rel => exact ⟨m + 1, _, by omega, by go_num, by rw [HT.out], rfl⟩
            case measure => simp [intOf]; omega
          · obtain rfl : m = xs.length := by omega
            rw [HZ.out]
            clear HA HZ H0 HS HDb HC HW
            go_wp2
            go_ret2
            exact ⟨rfl, below_draws hB1 _⟩
    · rw [if_neg hq, if_neg (by omega)]
      have dq : ((ws.length : Int) != (xs.length : Int)) = true := by rw [bne_iff_ne]; omega
      clear hE h hx hw hv hl hl2 hy
      go_enter Tryd.func15, Tryd.ntmps15
      go_wp2_with (go_at_call 13; refine HD.out.mono ?_; rintro e w1 ⟨v, rfl, hO1, hB1⟩)
      go_ret2
      exact ⟨rfl, hB1⟩
  · have hd : wgE p xs ws = doE p xs := by unfold wgE; rw [if_neg hE]
    rw [hd, if_neg hE]
    have t : (doE p xs != 0) = true := bne_iff_ne.2 hE
    clear hE hx hw hv hl hl2 hd hy
    go_enter Tryd.func15, Tryd.ntmps15
    go_wp2_with (go_at_call 13; refine HD.out.mono ?_; rintro e w1 ⟨v, rfl, hO1, hB1⟩)
    go_ret2
    exact ⟨rfl, hB1⟩

/-- All of fly, wherever root's table is what it is. -/
theorem flyHas : FlyHas Gl where
  keep := fun h hb => h.then hb
  points := fun p r inv w hG hr => points15_any p r inv w hG hr
  doo := fun p inv x n cap xs w hG hx hn hw hl => do15_any p inv x n cap xs w hG hx hn hw hl
  weigh := fun p inv x y n m cap cap' xs ws w hG hx hn hw hy hm hv hl hl2 => weigh15_any p inv x y n m cap cap' xs ws w hG hx hn hw hy hm hv hl hl2

end Go.Proofs.YtmcnamlgbkbiaaaDoor
