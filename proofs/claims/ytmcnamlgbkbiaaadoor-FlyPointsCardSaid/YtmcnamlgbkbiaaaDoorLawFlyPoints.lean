/-
  The walk of the law FlyPoints: it returns true for every prime, every int, any words, either way; nothing that was there is written.
-/
import Derived.Test.YtmcnamlgbkbiaaaDoorLawFlyBack
namespace Go.Proofs.YtmcnamlgbkbiaaaDoor
open Go.RowKit Fly

set_option maxRecDepth 100000 in
set_option maxHeartbeats 4000000 in
theorem flypoints_any {G : World → Prop} (H : FlyHas G) (p r : Int) (inv : Bool) (x : Option Addr) (n cap : Nat) (xs : List Int) (w : World) (hr : -9223372036854775808 ≤ r ∧ r < 9223372036854775808) (hG : G w) (hx : Reads .u64 w w.heap.size x xs) (hn : xs.length = n) (hw : Words xs) (hl : n ≤ 12) :
    Calls Tryd.prog 8 #[.int .u64 p, .int .i64 r, .bool inv, .slice x n cap] w fun e w' => e = .returned (.bool true) ∧ Below w.heap.size w w' := by
  subst hn
  have hdl : decide (12 < (xs.length : Int)) = false := by simp; omega
  have hml : xs.length ≤ maxLen := by unfold maxLen; omega
  have HF := Lib.hid (fun W (hB : Below w.heap.size w W) => H.doo p inv x xs.length cap xs W (H.keep hG hB) ((hx.below hB).more hB.size) rfl hw hml)
  have HPt := Lib.hid (fun W (hB : Below w.heap.size w W) => H.points p r inv W (H.keep hG hB) hr)
  have HV := Lib.hid (live15_any H w hG)
  have HX := Lib.hid hx
  have HW := Lib.hid hw
  have hc : (doE p xs ≠ 0 ∧ doL p inv xs = []) ∨ Fine p xs := by
    by_cases h : doE p xs = 0
    · exact .inr (doE_zero h)
    · exact .inl ⟨h, by unfold doL; rw [if_neg h]⟩
  clear H hG hx hw
  unfold ptsL at HPt
  by_cases hP : ptE p r = 0
  · have g : Rdx p r.toNat := by
      rcases ptE_cases p r with ⟨_, c⟩ | ⟨_, _, c⟩ | ⟨_, _, _, _, _, c⟩ | ⟨c, _⟩
      · omega
      · omega
      · omega
      · exact c
    obtain ⟨g1, g2⟩ := And.intro g.lo g.hi
    obtain ⟨k, rfl⟩ := Int.eq_ofNat_of_zero_le (show 0 ≤ r by omega)
    rw [Int.toNat_natCast] at g g1 g2
    rw [hP, if_pos rfl, Int.toNat_natCast] at HPt
    have HA := Lib.hid (fun m => more g.kn (pt p inv k) m (b := pt p inv k m) Fp.eqm.rfl)
    have HM := Lib.hid (fun m => And.intro (Fp.md_lo (Fp.sum (pt p inv k) m) (Fp.kn_pos g.kn)) (Fp.md_hi (Fp.sum (pt p inv k) m) (Fp.kn_pos g.kn)))
    have HB := Lib.hid (fun m => pt_bd p inv k m)
    have HPw := Lib.hid (fun m => pt_pow (p := p) (n := k) inv m)
    have HNo := Lib.hid (fun m h0 h1 => g.not_one inv (i := m) h0 h1)
    have HFu := Lib.hid (g.full inv)
    have HAl := Lib.hid (g.all inv)
    have HK := Lib.hid (Fp.kn_bd g.kn)
    have d1 : decide ((k : Int) < 2) = false := by simp; omega
    have d2 : decide ((5 : Int) < (k : Int)) = false := by simp; omega
    have d3 := neq_same (k : Int)
    generalize pt p inv k = f at HPt HA HM HB HPw HNo HFu HAl
    clear g hP
    go_enter Tryd.func8, Tryd.ntmps8
    go_wp2_with (first
      | (go_at_call 10; refine HV.out.mono ?_; rintro e w1 ⟨rfl, b1⟩; have B1 := Lib.hid b1; clear b1)
      | (go_at_call 11; refine (HPt.out _ B1.out).mono ?_; rintro e w2 ⟨v, rfl, hO, b2⟩; obtain ⟨y0, c0, rfl, -, -, hr0, -⟩ := hO.form; rw [List.length_map, List.length_range]; obtain ⟨e0, o0, rfl, -, hc0⟩ := hr0 (by rw [List.length_map, List.length_range]; omega); have HC0 : Hid (∀ j, j < k → w2.cell? ⟨e0, o0 + j, none⟩ = some (.int .u64 (f j))) := Lib.hid (fun j hj => by rw [hc0 j (by rw [List.length_map, List.length_range]; exact hj)]; simp [hj]); have B2 := Lib.hid (below_then B1.out b2); clear b2 hO hr0 hc0))
    go_loopw [11, 47] (fun s i wi => ∃ m q : Nat, m ≤ k ∧ i = .int .i64 (m : Int) ∧ s = .int .u64 (Fp.sum f m % p) ∧ wi = w2.drewN q) (fun _ i _ => k - (intOf i).toNat)
    case atStart => exact ⟨0, 0, Nat.zero_le _, rfl, by simp [Fp.sum], rfl⟩
    case round =>
      obtain ⟨m, q, hm, rfl, rfl, rfl⟩ := hrel
      obtain ⟨p0, p1⟩ := HK.out
      have c1 := HC0.out 1 (by omega)
      obtain ⟨f0, f1, -⟩ := HB.out 1
      by_cases hlm : m < k
      · have cm := HC0.out m hlm
        obtain ⟨u0, u1, -⟩ := HB.out m
        obtain ⟨s0, s1⟩ := HM.out m
        have T := Lib.hid (HA.out m)
        have hpw : Fp.pw p (f 1) m = f m := HPw.out m
        have HPow := Lib.hid (fun W => pow_any p (f 1) (m : Int) W f0 (by omega) (by omega) (by omega))
        rw [Int.toNat_natCast, hpw] at HPow
        have hno : 0 < m → f m ≠ 1 := fun h0 => HNo.out m h0 hlm
        obtain ⟨v, hv⟩ : ∃ v, v = f m := ⟨_, rfl⟩
        obtain ⟨v1, hv1⟩ : ∃ v, v = f 1 := ⟨_, rfl⟩
        obtain ⟨s, hs⟩ : ∃ s, s = Fp.sum f m % p := ⟨_, rfl⟩
        rw [← hv] at cm u0 u1 T HPow hno
        rw [← hv1] at c1 HPow f0 f1
        rw [← hs] at s0 s1 T
        rw [← hs]
        have nn := neq_same v
        clear hv hv1 hs hpw HF HPt HX HW hc HC0 HA HM HB HPw HNo HFu HAl
        rcases Nat.eq_zero_or_pos m with h0 | h0
        · have hq2 : decide (0 < m) = false := by simp; omega
          have hq3 : decide ((0 : Int) < (m : Int)) = false := by simp; omega
          clear hno h0
          go_wp2_with (first
            | (go_at_call 23; refine (HPow.out _).mono ?_; rintro e w' ⟨rfl, n3, rfl⟩)
            | (go_at_call 20; refine (add_any _ _ _ _ (by omega) (by omega) (by omega) (by omega)).mono ?_; rintro e w' ⟨rfl, n4, rfl⟩))
          go_roundw
          case rel => exact ⟨m + 1, _, by omega, by go_num, by rw [T.out], rfl⟩
          case measure => simp [intOf]; omega
        · have hq1 : (v == 1) = false := beq_eq_false_iff_ne.2 (hno h0)
          have hq2 : decide (0 < m) = true := by simp; omega
          have hq3 : decide ((0 : Int) < (m : Int)) = true := by simp; omega
          clear hno
          go_wp2_with (first
            | (go_at_call 23; refine (HPow.out _).mono ?_; rintro e w' ⟨rfl, n3, rfl⟩)
            | (go_at_call 20; refine (add_any _ _ _ _ (by omega) (by omega) (by omega) (by omega)).mono ?_; rintro e w' ⟨rfl, n4, rfl⟩))
          go_roundw
          case rel => exact ⟨m + 1, _, by omega, by go_num, by rw [T.out], rfl⟩
          case measure => simp [intOf]; omega
      · obtain rfl : m = k := by omega
        rw [HAl.out]
        have HPow := Lib.hid (fun W => pow_any p (f 1) (m : Int) W f0 (by omega) (by omega) (by omega))
        rw [Int.toNat_natCast, HPw.out m, HFu.out] at HPow
        obtain ⟨v1, hv1⟩ : ∃ v, v = f 1 := ⟨_, rfl⟩
        rw [← hv1] at c1 HPow f0 f1
        have hwr : IntKind.u64.wrap (m : Int) = (m : Int) := by rw [IntKind.wrap_u64]; omega
        clear hv1 HPt HC0 HA HM HB HPw HNo HFu HAl
        have BQ := Lib.hid (fun nq => below_draws B2.out nq)
        rcases hc with ⟨hE, e1⟩ | h
        · have t1 : (doE p xs != 0) = true := bne_iff_ne.2 hE
          rw [e1] at HF
          generalize doE p xs = er at HF t1
          clear hE e1
          go_wp2_with (first
            | (go_at_call 23; refine (HPow.out _).mono ?_; rintro e w' ⟨rfl, n3, rfl⟩)
            | (go_at_call 13; refine (HF.out _ (BQ.out _)).mono ?_; rintro e w3 ⟨v, rfl, hO, b3⟩; obtain ⟨y1, c1, rfl, -, -, -, -⟩ := hO.form; have B3 := Lib.hid (below_then (BQ.out _) b3); simp only [List.length_nil]; clear b3 hO))
          go_ret
          exact ⟨rfl, B3.out⟩
        · rw [h.zero, h.doL] at HF
          have hk := h.rdx.kn
          have HP := Lib.hid (Fp.kn_bd hk)
          have HS1 := Lib.hid (fun m => more hk (el xs) m (b := el xs m) Fp.eqm.rfl)
          have HS2 := Lib.hid (fun m => more hk (doN p inv xs.length (el xs)) m (b := doN p inv xs.length (el xs) m) Fp.eqm.rfl)
          have HM1 := Lib.hid (fun m => And.intro (Fp.md_lo (Fp.sum (el xs) m) (Fp.kn_pos hk)) (Fp.md_hi (Fp.sum (el xs) m) (Fp.kn_pos hk)))
          have HM2 := Lib.hid (fun m => And.intro (Fp.md_lo (Fp.sum (doN p inv xs.length (el xs)) m) (Fp.kn_pos hk)) (Fp.md_hi (Fp.sum (doN p inv xs.length (el xs)) m) (Fp.kn_pos hk)))
          have HD := Lib.hid (fun u => doN_bd (inv := inv) (n := xs.length) (x := el xs) hk u)
          have HE1 : Hid (doN p inv xs.length (el xs) 0 = Fp.sum (el xs) xs.length % p) := Lib.hid (doN_first _)
          have HE2 : Hid (Fp.sum (doN p inv xs.length (el xs)) xs.length % p = Fp.mul p (xs.length : Int) (xs.getD 0 0)) := Lib.hid (h.rdx.sum _)
          have hlo := h.rdx.lo
          have hl2 : decide ((xs.length : Int) < 2) = false := by simp; omega
          have hnl := neq_same (xs.length : Int)
          generalize doN p inv xs.length (el xs) = d at HF HS2 HM2 HD HE1 HE2
          have HEl : Hid (∀ m, xs.getD m 0 = el xs m) := Lib.hid (fun _ => rfl)
          generalize el xs = E at HS1 HM1 HE1 HEl
          clear h hk
          go_wp2_with (first | (go_at_call 23; refine (HPow.out _).mono ?_; rintro e w' ⟨rfl, n3, rfl⟩) | (go_at_call 13; refine (HF.out _ (BQ.out _)).mono ?_; rintro e w3 ⟨v, rfl, hO, b3⟩; obtain ⟨y1, c1, rfl, -, -, hr, -⟩ := hO.form; rw [List.length_map, List.length_range]; obtain ⟨e1, o1, rfl, -, hc⟩ := hr (by rw [List.length_map, List.length_range]; omega); have HC : Hid (∀ j, j < xs.length → w3.cell? ⟨e1, o1 + j, none⟩ = some (.int .u64 (d j))) := Lib.hid (fun j hj => by rw [hc j (by rw [List.length_map, List.length_range]; exact hj)]; simp [hj]); have B3 := Lib.hid (below_then (BQ.out _) b3); clear b3 hO hr hc))
          go_loopw [16, 17, 110] (fun s s2 i wi => ∃ m q : Nat, m ≤ xs.length ∧ i = .int .i64 (m : Int) ∧ s = .int .u64 (Fp.sum E m % p) ∧ s2 = .int .u64 (Fp.sum d m % p) ∧ wi = w3.drewN q) (fun _ _ i _ => xs.length - (intOf i).toNat)
          case atStart => exact ⟨0, 0, Nat.zero_le _, rfl, by simp [Fp.sum], by simp [Fp.sum], rfl⟩
          case round =>
            obtain ⟨m, q, hm, rfl, rfl, rfl, rfl⟩ := hrel
            obtain ⟨p0, p1⟩ := HP.out
            obtain ⟨bx, ox, rfl, hbx, hcx⟩ := HX.out (by omega)
            by_cases hlm : m < xs.length
            · have hx1 := (B3.out.cell (p := ⟨bx, ox + m, none⟩) hbx).trans (hcx m hlm)
              have hy1 := HC.out m hlm
              obtain ⟨u0, u1⟩ := HW.out m
              obtain ⟨v0, v1⟩ := HD.out m
              obtain ⟨s0, s1⟩ := HM1.out m
              obtain ⟨s2, s3⟩ := HM2.out m
              have T1 := Lib.hid (HS1.out m)
              have T2 := Lib.hid (HS2.out m)
              rw [HEl.out m] at hx1 u0 u1
              obtain ⟨u, hu⟩ : ∃ u, u = E m := ⟨_, rfl⟩
              obtain ⟨v, hv⟩ : ∃ v, v = d m := ⟨_, rfl⟩
              obtain ⟨s, hs⟩ : ∃ s, s = Fp.sum E m % p := ⟨_, rfl⟩
              obtain ⟨z, hz⟩ : ∃ z, z = Fp.sum d m % p := ⟨_, rfl⟩
              rw [← hu] at hx1 u0 u1 T1
              rw [← hv] at hy1 v0 v1 T2
              rw [← hs] at s0 s1 T1
              rw [← hz] at s2 s3 T2
              rw [← hs, ← hz]
              clear hu hv hs hz hcx
              go_wp2_with (go_at_call 20; refine (add_any _ _ _ _ (by omega) (by omega) (by omega) (by omega)).mono ?_; rintro e w' ⟨rfl, n3, rfl⟩)
              go_roundw
              case rel => exact ⟨m + 1, _, by omega, by go_num, by rw [T1.out], by rw [T2.out], rfl⟩
              case measure => simp [intOf]; omega
            · obtain rfl : m = xs.length := by omega
              have hx0 := (B3.out.cell (p := ⟨bx, ox + 0, none⟩) hbx).trans (hcx 0 (by omega))
              have hy0 := HC.out 0 (by omega)
              rw [Nat.add_zero] at hx0 hy0
              rw [HE1.out] at hy0
              rw [HE2.out]
              obtain ⟨u0, u1⟩ := HW.out 0
              obtain ⟨s, hs⟩ : ∃ s, s = Fp.sum E xs.length % p := ⟨_, rfl⟩
              rw [← hs] at hy0 ⊢
              obtain ⟨u, hu⟩ : ∃ u, u = xs.getD 0 0 := ⟨_, rfl⟩
              rw [← hu] at hx0 u0 u1 ⊢
              have q1 : (s == s) = true := by simp
              have q2 : (Fp.mul p (xs.length : Int) u == Fp.mul p (xs.length : Int) u) = true := by simp
              have hwr : IntKind.u64.wrap (xs.length : Int) = (xs.length : Int) := by rw [IntKind.wrap_u64]; omega
              have HQ := Lib.hid (fun nq => below_draws B3.out nq)
              clear hs hu hcx HS1 HS2 HM1 HM2 HD HE1 HE2 HC
              go_wp2_with (go_at_call 19; refine (mul_any _ _ _ _ (by omega) (by omega) (by omega) (by omega)).mono ?_; rintro e w' ⟨rfl, n3, rfl⟩)
              go_ret
              exact ⟨rfl, HQ.out _⟩
  · rw [if_neg hP] at HPt
    have t0 : (ptE p r == 0) = false := beq_eq_false_iff_ne.2 hP
    generalize ptE p r = pe at HPt t0
    clear hP
    rcases hc with ⟨hE, e1⟩ | h
    · rw [e1] at HF
      have t1 : (doE p xs != 0) = true := bne_iff_ne.2 hE
      generalize doE p xs = er at HF t1
      clear hE e1
      go_enter Tryd.func8, Tryd.ntmps8
      go_wp2_with (first
        | (go_at_call 10; refine HV.out.mono ?_; rintro e w1 ⟨rfl, b1⟩; have B1 := Lib.hid b1; clear b1)
        | (go_at_call 11; refine (HPt.out _ B1.out).mono ?_; rintro e w2 ⟨v, rfl, hO, b2⟩; have B2 := Lib.hid (below_then B1.out b2); clear b2 hO)
        | (go_at_call 13; refine (HF.out _ B2.out).mono ?_; rintro e w3 ⟨v, rfl, hO, b3⟩; obtain ⟨y1, c1, rfl, -, -, -, -⟩ := hO.form; have B3 := Lib.hid (below_then B2.out b3); simp only [List.length_nil]; clear b3 hO))
      go_ret
      exact ⟨rfl, B3.out⟩
    · rw [h.zero, h.doL] at HF
      have hk := h.rdx.kn
      have HP := Lib.hid (Fp.kn_bd hk)
      have HS1 := Lib.hid (fun m => more hk (el xs) m (b := el xs m) Fp.eqm.rfl)
      have HS2 := Lib.hid (fun m => more hk (doN p inv xs.length (el xs)) m (b := doN p inv xs.length (el xs) m) Fp.eqm.rfl)
      have HM1 := Lib.hid (fun m => And.intro (Fp.md_lo (Fp.sum (el xs) m) (Fp.kn_pos hk)) (Fp.md_hi (Fp.sum (el xs) m) (Fp.kn_pos hk)))
      have HM2 := Lib.hid (fun m => And.intro (Fp.md_lo (Fp.sum (doN p inv xs.length (el xs)) m) (Fp.kn_pos hk)) (Fp.md_hi (Fp.sum (doN p inv xs.length (el xs)) m) (Fp.kn_pos hk)))
      have HD := Lib.hid (fun u => doN_bd (inv := inv) (n := xs.length) (x := el xs) hk u)
      have HE1 : Hid (doN p inv xs.length (el xs) 0 = Fp.sum (el xs) xs.length % p) := Lib.hid (doN_first _)
      have HE2 : Hid (Fp.sum (doN p inv xs.length (el xs)) xs.length % p = Fp.mul p (xs.length : Int) (xs.getD 0 0)) := Lib.hid (h.rdx.sum _)
      have hlo := h.rdx.lo
      have hl2 : decide ((xs.length : Int) < 2) = false := by simp; omega
      have hnl := neq_same (xs.length : Int)
      generalize doN p inv xs.length (el xs) = d at HF HS2 HM2 HD HE1 HE2
      have HEl : Hid (∀ m, xs.getD m 0 = el xs m) := Lib.hid (fun _ => rfl)
      generalize el xs = E at HS1 HM1 HE1 HEl
      clear h hk
      go_enter Tryd.func8, Tryd.ntmps8
      go_wp2_with (first | (go_at_call 10; refine HV.out.mono ?_; rintro e w1 ⟨rfl, b1⟩; have B1 := Lib.hid b1; clear b1) | (go_at_call 11; refine (HPt.out _ B1.out).mono ?_; rintro e w2 ⟨v, rfl, hO, b2⟩; have B2 := Lib.hid (below_then B1.out b2); clear b2 hO) | (go_at_call 13; refine (HF.out _ (B2.out)).mono ?_; rintro e w3 ⟨v, rfl, hO, b3⟩; obtain ⟨y1, c1, rfl, -, -, hr, -⟩ := hO.form; rw [List.length_map, List.length_range]; obtain ⟨e1, o1, rfl, -, hc⟩ := hr (by rw [List.length_map, List.length_range]; omega); have HC : Hid (∀ j, j < xs.length → w3.cell? ⟨e1, o1 + j, none⟩ = some (.int .u64 (d j))) := Lib.hid (fun j hj => by rw [hc j (by rw [List.length_map, List.length_range]; exact hj)]; simp [hj]); have B3 := Lib.hid (below_then (B2.out) b3); clear b3 hO hr hc))
      go_loopw [16, 17, 110] (fun s s2 i wi => ∃ m q : Nat, m ≤ xs.length ∧ i = .int .i64 (m : Int) ∧ s = .int .u64 (Fp.sum E m % p) ∧ s2 = .int .u64 (Fp.sum d m % p) ∧ wi = w3.drewN q) (fun _ _ i _ => xs.length - (intOf i).toNat)
      case atStart => exact ⟨0, 0, Nat.zero_le _, rfl, by simp [Fp.sum], by simp [Fp.sum], rfl⟩
      case round =>
        obtain ⟨m, q, hm, rfl, rfl, rfl, rfl⟩ := hrel
        obtain ⟨p0, p1⟩ := HP.out
        obtain ⟨bx, ox, rfl, hbx, hcx⟩ := HX.out (by omega)
        by_cases hlm : m < xs.length
        · have hx1 := (B3.out.cell (p := ⟨bx, ox + m, none⟩) hbx).trans (hcx m hlm)
          have hy1 := HC.out m hlm
          obtain ⟨u0, u1⟩ := HW.out m
          obtain ⟨v0, v1⟩ := HD.out m
          obtain ⟨s0, s1⟩ := HM1.out m
          obtain ⟨s2, s3⟩ := HM2.out m
          have T1 := Lib.hid (HS1.out m)
          have T2 := Lib.hid (HS2.out m)
          rw [HEl.out m] at hx1 u0 u1
          obtain ⟨u, hu⟩ : ∃ u, u = E m := ⟨_, rfl⟩
          obtain ⟨v, hv⟩ : ∃ v, v = d m := ⟨_, rfl⟩
          obtain ⟨s, hs⟩ : ∃ s, s = Fp.sum E m % p := ⟨_, rfl⟩
          obtain ⟨z, hz⟩ : ∃ z, z = Fp.sum d m % p := ⟨_, rfl⟩
          rw [← hu] at hx1 u0 u1 T1
          rw [← hv] at hy1 v0 v1 T2
          rw [← hs] at s0 s1 T1
          rw [← hz] at s2 s3 T2
          rw [← hs, ← hz]
          clear hu hv hs hz hcx
          go_wp2_with (go_at_call 20; refine (add_any _ _ _ _ (by omega) (by omega) (by omega) (by omega)).mono ?_; rintro e w' ⟨rfl, n3, rfl⟩)
          go_roundw
          case rel => exact ⟨m + 1, _, by omega, by go_num, by rw [T1.out], by rw [T2.out], rfl⟩
          case measure => simp [intOf]; omega
        · obtain rfl : m = xs.length := by omega
          have hx0 := (B3.out.cell (p := ⟨bx, ox + 0, none⟩) hbx).trans (hcx 0 (by omega))
          have hy0 := HC.out 0 (by omega)
          rw [Nat.add_zero] at hx0 hy0
          rw [HE1.out] at hy0
          rw [HE2.out]
          obtain ⟨u0, u1⟩ := HW.out 0
          obtain ⟨s, hs⟩ : ∃ s, s = Fp.sum E xs.length % p := ⟨_, rfl⟩
          rw [← hs] at hy0 ⊢
          obtain ⟨u, hu⟩ : ∃ u, u = xs.getD 0 0 := ⟨_, rfl⟩
          rw [← hu] at hx0 u0 u1 ⊢
          have q1 : (s == s) = true := by simp
          have q2 : (Fp.mul p (xs.length : Int) u == Fp.mul p (xs.length : Int) u) = true := by simp
          have hwr : IntKind.u64.wrap (xs.length : Int) = (xs.length : Int) := by rw [IntKind.wrap_u64]; omega
          have HQ := Lib.hid (fun nq => below_draws B3.out nq)
          clear hs hu hcx HS1 HS2 HM1 HM2 HD HE1 HE2 HC
          go_wp2_with (go_at_call 19; refine (mul_any _ _ _ _ (by omega) (by omega) (by omega) (by omega)).mono ?_; rintro e w' ⟨rfl, n3, rfl⟩)
          go_ret
          exact ⟨rfl, HQ.out _⟩

set_option maxRecDepth 100000 in
theorem flypoints_walk {G : World → Prop} (H : FlyHas G) (p r : Int) (inv : Bool) (x : Option Addr) (len cap : Nat) (zs : List Int) (w : World) (_hp : (Lit.int .u64 p).wf = true) (hr : (Lit.int .i64 r).wf = true) (hx : RowIn .u64 w x len cap zs) (hG : G w) :
    Calls Tryd.prog 8 #[.int .u64 p, .int .i64 r, .bool inv, .slice x len cap] w fun e w' => e = .returned (.bool true) ∧ Below w.heap.size w w' := by
  obtain ⟨xs, -, hn, hcp, hm, hx, hw⟩ := hx.reads
  have hb := bounds_i64 hr
  unfold maxLen at hm
  by_cases hl : len ≤ 12
  · exact flypoints_any H p r inv x len cap xs w (by omega) hG hx hn hw hl
  · have hdl : decide (12 < (len : Int)) = true := by simp; omega
    have HV := Lib.hid (live15_any H w hG)
    clear hr hx hG H
    go_enter Tryd.func8, Tryd.ntmps8
    go_wp2_with (go_at_call 10; refine HV.out.mono ?_; rintro e w1 ⟨rfl, b1⟩)
    go_ret
    exact ⟨rfl, b1⟩

end Go.Proofs.YtmcnamlgbkbiaaaDoor
