/-
  What the document's own answers of layer 15 come to (brackenref15): Points, Do, Weigh.
-/
import Derived.Test.YtmcnamlgbkbiaaaDoorFlyOne
import Derived.Test.YtmcnamlgbkbiaaaDoorRefRoot
import Derived.Test.YtmcnamlgbkbiaaaDoorQuietTail
namespace Go.Proofs.YtmcnamlgbkbiaaaDoor
open Go.RowKit Fly

theorem rpt_pow (p : Int) (inv : Bool) (n i : Nat) (w : World) (hi : i < 5) :
    Calls Tryd.prog 30 #[.int .u64 p, .int .u64 (root p inv n), .int .u64 (i : Int)] w fun e w' => e = .returned (.int .u64 (pt p inv n i)) ∧ w = w' := by
  obtain ⟨a, b, _⟩ := root_bd p inv n
  have := rpow_any p (root p inv n) (i : Int) w a (by omega) (by omega) (by omega)
  rwa [Int.toNat_natCast] at this

set_option maxHeartbeats 1000000 in
theorem rpoints_any (p r : Int) (inv : Bool) (w : World) (hr : -9223372036854775808 ≤ r ∧ r < 9223372036854775808) :
    Calls Tryd.prog 12 #[.int .u64 p, .int .i64 r, .bool inv] w (RetY w (ptsL p r inv) (ptE p r)) := by
  unfold ptsL
  rcases ptE_cases p r with ⟨h, hE⟩ | ⟨h, h1, hE⟩ | ⟨h, h1, h2, h3, h4, hE⟩ | ⟨h, h1, h2, h3, h4, hE⟩
  · rw [hE, if_neg (by omega)]
    have H := Lib.hid h
    clear h hE
    go_enter Tryd.func12, Tryd.ntmps12
    go_wp2_with (go_at_call 27; refine (rknown_no p _ H.out).mono ?_; rintro e w' ⟨rfl, rfl⟩)
    go_ret2
    exact RetY.none 2 (Below.refl _ _)
  · rw [hE, if_neg (by omega)]
    have H := Lib.hid h
    clear h hE
    by_cases h2 : r < 2
    · go_enter Tryd.func12, Tryd.ntmps12
      go_wp2_with (go_at_call 27; refine (rknown_yes p _ H.out).mono ?_; rintro e w' ⟨rfl, rfl⟩)
      go_ret2
      exact RetY.none 4 (Below.refl _ _)
    · have h3 : 5 < r := by omega
      clear h1
      go_enter Tryd.func12, Tryd.ntmps12
      go_wp2_with (go_at_call 27; refine (rknown_yes p _ H.out).mono ?_; rintro e w' ⟨rfl, rfl⟩)
      go_ret2
      exact RetY.none 4 (Below.refl _ _)
  · rw [hE, if_neg (by omega)]
    have H := Lib.hid h
    have HR := Lib.hid (fun W => rroot_any p r W hr)
    rw [h3, h4] at HR
    clear h h3 h4 hE
    go_enter Tryd.func12, Tryd.ntmps12
    go_wp2_with (first
      | (go_at_call 27; refine (rknown_yes p _ H.out).mono ?_; rintro e w' ⟨rfl, rfl⟩)
      | (go_at_call 28; refine (HR.out _).mono ?_; rintro e w' ⟨rfl, nd, rfl⟩))
    go_ret2
    exact RetY.none 5 (draws_below _ _ _)
  · rw [hE, if_pos rfl]
    obtain ⟨n, rfl⟩ := Int.eq_ofNat_of_zero_le (show 0 ≤ r by omega)
    rw [Int.toNat_natCast] at h h4 ⊢
    have H := Lib.hid h.kn
    have HR := Lib.hid (fun W => rroot_any p n W hr)
    rw [h3, h4] at HR
    obtain ⟨r0, r1, -⟩ := Fp.rt_bd p n
    have HI := Lib.hid (fun W => rinv_any p (Fp.rt p n) W r0 (by omega))
    rw [h.invN] at HI
    obtain ⟨i0, hi, hz0, hz1, hz2⟩ := info_parts info_u64
    have hn : n ≤ 5 := h.hi
    cases inv
    · have HP : Hid (∀ (i : Nat) W, i < 5 → Calls Tryd.prog 30 #[.int .u64 p, .int .u64 (Fp.rt p n), .int .u64 (i : Int)] W fun e w' => e = .returned (.int .u64 (pt p false n i)) ∧ W = w') := Lib.hid (fun i W hi => rpt_pow p false n i W hi)
      have HB := Lib.hid (fun i => pt_bd p false n i)
      generalize Fp.rt p n = rt at HR HI HP r0 r1
      generalize pt p false n = f at HP HB
      clear h h3 h4 hE HI
      go_enter Tryd.func12, Tryd.ntmps12
      go_wp2_with (first
        | (go_at_call 27; refine (rknown_yes p _ H.out).mono ?_; rintro e w' ⟨rfl, rfl⟩)
        | (go_at_call 28; refine (HR.out _).mono ?_; rintro e w' ⟨rfl, nd, rfl⟩))
      have hB0 : Below w.heap.size w (w.drewN nd) := draws_below _ _ _
      go_loopw [10, 37] (fun v i wr => ∃ (k : Nat) (o : Value), k ≤ n ∧ i = .int .i64 (k : Int) ∧ o = v ∧ Owns .u64 22 wr w.heap.size o ((List.range k).map f) ∧ Below w.heap.size w wr) (fun _ i _ => n - (intOf i).toNat)
      case atStart => exact ⟨0, _, Nat.zero_le _, rfl, rfl, Owns.nil, hB0⟩
      case round =>
        obtain ⟨k, o, hk, rfl, rfl, hO, hB⟩ := hrel
        clear hB0
        by_cases hlt : k < n
        · have HO := Lib.hid hO
          have hO' : wr.ownsRow w.heap.size 22 1 o ((List.range k).map f).length (((List.range k).map f).map (Value.int .u64)) := hO
          have HL : Hid (((List.range k).map f).length = k) := Lib.hid (by simp)
          obtain ⟨b0, b1, -⟩ := HB.out k
          have HPk := Lib.hid (fun W => HP.out k W (by omega))
          obtain ⟨fk, hfk⟩ : ∃ fk, fk = f k := ⟨_, rfl⟩
          rw [← hfk] at HPk b0 b1
          have HFk := Lib.hid hfk
          clear hfk hO HP HB
          go_wp2_with (first
            | (go_at_call 30; refine (HPk.out _).mono ?_; rintro e w' ⟨rfl, rfl⟩)
            | (at_builtin; refine wpList_append_own _ rfl _ _ 23 rfl w.heap.size 22 i0 (.int .u64 0) 1 8 Tryd.underlying23 hi hz0 hz1 hz2 rfl (by decide) _ _ _ rfl (hO'.alloc _) ⟨wr.heap.size, 0, none⟩ 1 1 [.int .u64 fk] rfl rfl (cell_one_new _ _ _) (one_int _ _) (by rw [HL.out]; unfold maxLen; omega) (by rw [HL.out]; omega) (by have := hB.size; simp; omega) ?_; intro v' w3 hown' hgrow3 hnil3))
          go_roundw
          case rel =>
            refine ⟨k + 1, v', by omega, by go_num, rfl, ?_, ?_⟩
            · rw [range_snoc, ← HFk.out]; exact Owns.push hown'
            · exact (hB.alloc hB.size _).grown hgrow3 (Nat.le_trans hB.size (by simp)) HO.out.ownBlock
          case measure => simp [intOf]; omega
        · obtain rfl : k = n := by omega
          have hR : RetY w ((List.range k).map f) 0 (.returned (.tuple #[o, .int .i64 0])) wr := ⟨_, rfl, hO, hB⟩
          clear hO hB hi hz0 hz1 hz2 HP HB
          go_wp2
          go_ret2
          exact hR
    · have HP : Hid (∀ (i : Nat) W, i < 5 → Calls Tryd.prog 30 #[.int .u64 p, .int .u64 (Fp.inv p (Fp.rt p n)), .int .u64 (i : Int)] W fun e w' => e = .returned (.int .u64 (pt p true n i)) ∧ W = w') := Lib.hid (fun i W hi => rpt_pow p true n i W hi)
      have HB := Lib.hid (fun i => pt_bd p true n i)
      obtain ⟨s0, s1, -⟩ := Fp.inv_bd p (Fp.rt p n)
      generalize Fp.inv p (Fp.rt p n) = ir at HP HI s0 s1
      generalize Fp.rt p n = rt at HR HI r0 r1
      generalize invE p rt = ie at HI
      generalize pt p true n = f at HP HB
      clear h h3 h4 hE
      go_enter Tryd.func12, Tryd.ntmps12
      go_wp2_with (first
        | (go_at_call 27; refine (rknown_yes p _ H.out).mono ?_; rintro e w' ⟨rfl, rfl⟩)
        | (go_at_call 29; refine (HI.out _).mono ?_; rintro e w' ⟨rfl, nd2, rfl⟩)
        | (go_at_call 28; refine (HR.out _).mono ?_; rintro e w' ⟨rfl, nd, rfl⟩))
      have hB0 : Below w.heap.size w (w.drewN (nd + nd2)) := draws_below _ _ _
      go_loopw [10, 37] (fun v i wr => ∃ (k : Nat) (o : Value), k ≤ n ∧ i = .int .i64 (k : Int) ∧ o = v ∧ Owns .u64 22 wr w.heap.size o ((List.range k).map f) ∧ Below w.heap.size w wr) (fun _ i _ => n - (intOf i).toNat)
      case atStart => exact ⟨0, _, Nat.zero_le _, rfl, rfl, Owns.nil, hB0⟩
      case round =>
        obtain ⟨k, o, hk, rfl, rfl, hO, hB⟩ := hrel
        clear hB0
        by_cases hlt : k < n
        · have HO := Lib.hid hO
          have hO' : wr.ownsRow w.heap.size 22 1 o ((List.range k).map f).length (((List.range k).map f).map (Value.int .u64)) := hO
          have HL : Hid (((List.range k).map f).length = k) := Lib.hid (by simp)
          obtain ⟨b0, b1, -⟩ := HB.out k
          have HPk := Lib.hid (fun W => HP.out k W (by omega))
          obtain ⟨fk, hfk⟩ : ∃ fk, fk = f k := ⟨_, rfl⟩
          rw [← hfk] at HPk b0 b1
          have HFk := Lib.hid hfk
          clear hfk hO HP HB
          go_wp2_with (first
            | (go_at_call 30; refine (HPk.out _).mono ?_; rintro e w' ⟨rfl, rfl⟩)
            | (at_builtin; refine wpList_append_own _ rfl _ _ 23 rfl w.heap.size 22 i0 (.int .u64 0) 1 8 Tryd.underlying23 hi hz0 hz1 hz2 rfl (by decide) _ _ _ rfl (hO'.alloc _) ⟨wr.heap.size, 0, none⟩ 1 1 [.int .u64 fk] rfl rfl (cell_one_new _ _ _) (one_int _ _) (by rw [HL.out]; unfold maxLen; omega) (by rw [HL.out]; omega) (by have := hB.size; simp; omega) ?_; intro v' w3 hown' hgrow3 hnil3))
          go_roundw
          case rel =>
            refine ⟨k + 1, v', by omega, by go_num, rfl, ?_, ?_⟩
            · rw [range_snoc, ← HFk.out]; exact Owns.push hown'
            · exact (hB.alloc hB.size _).grown hgrow3 (Nat.le_trans hB.size (by simp)) HO.out.ownBlock
          case measure => simp [intOf]; omega
        · obtain rfl : k = n := by omega
          have hR : RetY w ((List.range k).map f) 0 (.returned (.tuple #[o, .int .i64 0])) wr := ⟨_, rfl, hO, hB⟩
          clear hO hB hi hz0 hz1 hz2 HP HB
          go_wp2
          go_ret2
          exact hR

set_option maxHeartbeats 1000000 in
theorem rdo15_any (p : Int) (inv : Bool) (x : Option Addr) (n cap : Nat) (xs : List Int) (w : World) (hx : Reads .u64 w w.heap.size x xs) (hn : xs.length = n) (hw : Words xs) (hl : n ≤ maxLen) :
    Calls Tryd.prog 14 #[.int .u64 p, .bool inv, .slice x n cap] w (RetY w (doL p inv xs) (doE p xs)) := by
  subst hn
  have hl' : (xs.length : Int) ≤ 9223372036854775807 := by unfold maxLen at hl; omega
  have HPt := Lib.hid (rpoints_any p (xs.length : Int) inv w (by omega))
  unfold doL
  by_cases hE : ptE p xs.length = 0
  · have h := ptE_zero hE
    obtain ⟨n1, n2⟩ := And.intro h.lo h.hi
    unfold ptsL at HPt
    rw [hE, if_pos rfl, Int.toNat_natCast] at HPt
    obtain ⟨b, off, rfl, hb, hc⟩ := hx (by omega)
    have HI : Hid (∀ W, Below w.heap.size w W → Calls Tryd.prog 32 #[.int .u64 p, .slice (some ⟨b, off, none⟩) xs.length cap] W fun e w' => e = .returned (.bool (inB p xs)) ∧ W = w') := Lib.hid (fun W hW => rin_row p b off xs.length cap _ W hl' (fun j hj => (hW.cell (p := ⟨b, off + j, none⟩) hb).trans (hc j hj)))
    have HC := Lib.hid hc
    have HW := Lib.hid hw
    have HA := Lib.hid (fun k m => h.acc_more (inv := inv) (x := el xs) k m)
    have HZ := Lib.hid (fun k => acc_all (p := p) (inv := inv) (n := xs.length) (x := el xs) k)
    have H0 := Lib.hid (fun k => acc_zero (p := p) (inv := inv) (n := xs.length) (x := el xs) k)
    have HD := Lib.hid (fun k m => acc_bd (inv := inv) (n := xs.length) (x := el xs) h.kn k m)
    have HB := Lib.hid (fun i => pt_bd p inv xs.length i)
    have HK := Lib.hid (Fp.kn_bd h.kn)
    have hdE : doE p xs = if inB p xs = true then 0 else 7 := by unfold doE; rw [if_pos hE]
    generalize pt p inv xs.length = f at HPt HA HB
    generalize acc p inv xs.length (el xs) = A at HA HZ H0 HD
    generalize doN p inv xs.length (el xs) = d at HZ ⊢
    obtain ⟨i0, hi, hz0, hz1, hz2⟩ := info_parts info_u64
    rw [hdE]
    clear h hE hx hc hw hl hdE
    cases hin : inB p xs
    · rw [hin] at HI
      rw [if_neg (by simp), if_neg (by simp)]
      clear hin HA HZ H0 HD HB
      go_enter Tryd.func14, Tryd.ntmps14
      go_wp2_with (first
        | (go_at_call 12; refine HPt.out.mono ?_; rintro e w1 ⟨v, rfl, hO1, hB1⟩)
        | (go_at_call 32; refine (HI.out _ hB1).mono ?_; rintro e w' ⟨rfl, rfl⟩))
      go_ret2
      exact RetY.none 7 hB1
    · rw [hin] at HI
      rw [if_pos rfl, if_pos rfl]
      clear hin
      go_enter Tryd.func14, Tryd.ntmps14
      go_wp2_with (first
        | (go_at_call 12; refine HPt.out.mono ?_; rintro e w1 ⟨v, rfl, hO1, hB1⟩; obtain ⟨x1, c1, rfl, -, -, hr1, -⟩ := hO1.form; obtain ⟨b1, o1, rfl, hb1, hc1⟩ := hr1 (by rw [List.length_map, List.length_range]; omega); rw [List.length_map, List.length_range] at hc1 ⊢)
        | (go_at_call 32; refine (HI.out _ hB1).mono ?_; rintro e w' ⟨rfl, rfl⟩))
      have HC1 : Hid (∀ j, j < xs.length → w1.cell? ⟨b1, o1 + j, none⟩ = some (.int .u64 (f j))) := Lib.hid (fun j hj => by rw [hc1 j hj]; simp [hj])
      clear hO1 hc1 HPt HI
      go_loopw [10, 32] (fun v i wr => ∃ (k : Nat) (o : Value), k ≤ xs.length ∧ i = .int .i64 (k : Int) ∧ o = v ∧ Owns .u64 22 wr w1.heap.size o ((List.range k).map d) ∧ Below w1.heap.size w1 wr) (fun _ i _ => xs.length - (intOf i).toNat)
      case atStart => exact ⟨0, _, Nat.zero_le _, rfl, rfl, Owns.nil, Below.refl _ _⟩
      case round =>
        obtain ⟨k, o, hk, rfl, rfl, hO, hB⟩ := hrel
        by_cases hlt : k < xs.length
        · have hdk : decide (k < xs.length) = true := by simpa using hlt
          have HO := Lib.hid hO
          have HBr := Lib.hid hB
          clear hO hB
          go_wp2
          go_loopw [12, 37] (fun s i wi => ∃ m q : Nat, m ≤ xs.length ∧ i = .int .i64 (m : Int) ∧ s = .int .u64 (A k m) ∧ wi = wr.drewN q) (fun _ i _ => xs.length - (intOf i).toNat)
          case atStart => exact ⟨0, 0, Nat.zero_le _, rfl, by rw [H0.out], rfl⟩
          case round =>
            obtain ⟨m, q, hm, rfl, rfl, rfl⟩ := hrel
            by_cases hlm : m < xs.length
            · have hdm : decide (m < xs.length) = true := by simpa using hlm
              have hx1 := (HBr.out.cell (p := ⟨b, off + m, none⟩) (Nat.lt_of_lt_of_le hb hB1.size)).trans ((hB1.cell (p := ⟨b, off + m, none⟩) hb).trans (HC.out m hlm))
              obtain ⟨z, hz⟩ : ∃ z, z = m * k := ⟨_, rfl⟩
              have hzb : z ≤ 25 := by rw [hz]; exact Nat.le_trans (Nat.mul_le_mul (show m ≤ 5 by omega) (show k ≤ 5 by omega)) (by decide)
              have hzm : (m : Int) * (k : Int) = (z : Int) := by rw [hz]; simp
              have hzr : z % xs.length < xs.length := Nat.mod_lt _ (by omega)
              obtain ⟨zr, hzr'⟩ : ∃ zr, zr = z % xs.length := ⟨_, rfl⟩
              have hrem : (z : Int) % (xs.length : Int) = (zr : Int) := by rw [hzr']; simp
              have hne : (xs.length : Int) ≠ 0 := by omega
              rw [← hzr'] at hzr
              have hl1 := (HBr.out.cell (p := ⟨b1, o1 + zr, none⟩) hb1).trans (HC1.out zr hzr)
              have HS := Lib.hid (HA.out k m)
              rw [← hz, ← hzr'] at HS
              obtain ⟨y0, y1⟩ := HW.out m
              obtain ⟨g0, g1, -⟩ := HB.out zr
              obtain ⟨a0, a1⟩ := HD.out k m
              obtain ⟨p0, p1⟩ := HK.out
              obtain ⟨u, hu⟩ : ∃ u, u = xs.getD m 0 := ⟨_, rfl⟩
              obtain ⟨gv, hgv⟩ : ∃ gv, gv = f zr := ⟨_, rfl⟩
              obtain ⟨sv, hsv⟩ : ∃ sv, sv = A k m := ⟨_, rfl⟩
              unfold el at HS
              rw [← hu, ← hgv, ← hsv] at HS
              rw [← hu] at hx1 y0 y1
              rw [← hgv] at hl1 g0 g1
              rw [← hsv] at a0 a1
              rw [← hsv]
              obtain ⟨t0, t1, -⟩ := Fp.mul_bd p u gv
              clear hz hzr' hu hgv hsv
              go_wp2_with (first
                | (go_at_call 34; refine (rmul_any _ _ _ _ (by omega) (by omega) (by omega) (by omega)).mono ?_; rintro e w' ⟨rfl, rfl⟩)
                | (go_at_call 33; refine (radd_any _ _ _ _ (by omega) (by omega) (by omega) (by omega)).mono ?_; rintro e w' ⟨rfl, n3, rfl⟩))
              go_roundw
              case rel => exact ⟨m + 1, _, by omega, by go_num, by rw [HS.out], rfl⟩
              case measure => simp [intOf]; omega
            · obtain rfl : m = xs.length := by omega
              have hO' : (wr.drewN q).ownsRow w1.heap.size 22 1 o ((List.range k).map d).length (((List.range k).map d).map (Value.int .u64)) := HO.out
              have HL : Hid (((List.range k).map d).length = k) := Lib.hid (by simp)
              have hv := HZ.out k
              obtain ⟨a0, a1⟩ := HD.out k xs.length
              obtain ⟨p0, p1⟩ := HK.out
              obtain ⟨sv, hsv⟩ : ∃ sv, sv = A k xs.length := ⟨_, rfl⟩
              rw [← hsv] at hv a0 a1
              rw [← hsv]
              have HV := Lib.hid hv
              generalize hys : (List.range k).map d = zs at hO' HL HO
              have HYS := Lib.hid hys
              have hsz : Hid (w1.heap.size ≤ wr.heap.size) := Lib.hid HBr.out.size
              clear hv hsv hys
              go_wp2_with (at_builtin; refine wpList_append_own _ rfl _ _ 23 rfl w1.heap.size 22 i0 (.int .u64 0) 1 8 Tryd.underlying23 hi hz0 hz1 hz2 rfl (by decide) _ _ _ rfl (hO'.alloc _) ⟨wr.heap.size, 0, none⟩ 1 1 [.int .u64 sv] rfl rfl (cell_one_new _ _ _) (one_int _ _) (by rw [HL.out]; unfold maxLen; omega) (by rw [HL.out]; omega) (by have := hsz.out; simp; omega) ?_; intro v' w3 hown' hgrow3 hnil3)
              go_roundw
              case rel =>
                refine ⟨k + 1, v', by omega, by go_num, rfl, ?_, ?_⟩
                · rw [range_snoc, HYS.out, ← HV.out]; exact Owns.push hown'
                · exact ((below_draws HBr.out q).alloc (by exact HBr.out.size) _).grown hgrow3 (Nat.le_trans HBr.out.size (by simp)) HO.out.ownBlock
              case measure => simp [intOf]; omega
        · obtain rfl : k = xs.length := by omega
          have hR : RetY w ((List.range xs.length).map d) 0 (.returned (.tuple #[o, .int .i64 0])) wr := ⟨_, rfl, hO.mono hB1.size, hB1.trans (hB.mono hB1.size)⟩
          clear hO hB hi hz0 hz1 hz2
          go_wp2
          go_ret2
          exact hR
  · have hd : doE p xs = ptE p xs.length := by unfold doE; rw [if_neg hE]
    rw [hd, if_neg hE]
    have t : (ptE p xs.length != 0) = true := bne_iff_ne.2 hE
    clear hE hx hw hl hd
    go_enter Tryd.func14, Tryd.ntmps14
    go_wp2_with (go_at_call 12; refine HPt.out.mono ?_; rintro e w1 ⟨v, rfl, hO1, hB1⟩)
    go_ret2
    exact RetY.none _ hB1

set_option maxHeartbeats 1000000 in
theorem rwg_any (p : Int) (inv : Bool) (x y : Option Addr) (n m cap cap' : Nat) (xs ws : List Int) (w : World) (hx : Reads .u64 w w.heap.size x xs) (hn : xs.length = n) (hw : Words xs) (hy : Reads .u64 w w.heap.size y ws) (hm : ws.length = m) (hv : Words ws) (hl : n ≤ maxLen) (hl2 : m ≤ maxLen) :
    Calls Tryd.prog 16 #[.int .u64 p, .bool inv, .slice x n cap, .slice y m cap'] w (RetB (.tuple #[.int .u64 (wgV p inv xs ws), .int .i64 (wgE p xs ws)]) w) := by
  have HD := Lib.hid (rdo15_any p inv x n cap xs w hx hn hw hl)
  subst hn
  subst hm
  unfold wgV
  by_cases hE : doE p xs = 0
  · have h := doE_zero hE
    obtain ⟨n1, n2⟩ := And.intro h.rdx.lo h.rdx.hi
    rw [hE, h.doL] at HD
    unfold wgE
    rw [if_pos hE]
    have hl' : (ws.length : Int) ≤ 9223372036854775807 := by unfold maxLen at hl2; omega
    by_cases hq : ws.length = xs.length
    · obtain ⟨b, off, rfl, hb, hc⟩ := hy (by omega)
      have HI : Hid (∀ W, Below w.heap.size w W → Calls Tryd.prog 32 #[.int .u64 p, .slice (some ⟨b, off, none⟩) ws.length cap'] W fun e w' => e = .returned (.bool (inB p ws)) ∧ W = w') := Lib.hid (fun W hW => rin_row p b off ws.length cap' _ W hl' (fun j hj => (hW.cell (p := ⟨b, off + j, none⟩) hb).trans (hc j hj)))
      have dq : ((ws.length : Int) != (xs.length : Int)) = false := by simp [hq]
      rw [if_pos hq]
      have HQ := Lib.hid hq
      cases hin : inB p ws
      · rw [hin] at HI
        rw [if_neg (by simp), if_neg (by simp)]
        clear hin hE h hx hw hv hl hl2 hq hc hy
        go_enter Tryd.func16, Tryd.ntmps16
        go_wp2_with (first
          | (go_at_call 14; refine HD.out.mono ?_; rintro e w1 ⟨v, rfl, hO1, hB1⟩)
          | (go_at_call 32; refine (HI.out _ hB1).mono ?_; rintro e w' ⟨rfl, rfl⟩))
        go_ret2
        exact ⟨rfl, hB1⟩
      · rw [hin] at HI
        rw [if_pos rfl, if_pos rfl]
        have HA := Lib.hid (fun m => wacc_more (inv := inv) (n := xs.length) (x := el xs) (w := el ws) h.rdx.kn m)
        have HZ := Lib.hid (wacc_all (p := p) (inv := inv) (n := xs.length) (x := el xs) (w := el ws))
        have H0 := Lib.hid (wacc_zero (p := p) (inv := inv) (n := xs.length) (x := el xs) (w := el ws))
        have HS := Lib.hid (fun m => wacc_bd (inv := inv) (n := xs.length) (x := el xs) (w := el ws) h.rdx.kn m)
        have HDb := Lib.hid (fun u => doN_bd (inv := inv) (n := xs.length) (x := el xs) h.rdx.kn u)
        have HK := Lib.hid (Fp.kn_bd h.rdx.kn)
        have HC := Lib.hid hc
        have HW := Lib.hid hv
        generalize wacc p inv xs.length (el xs) (el ws) = A at HA HZ H0 HS
        generalize doN p inv xs.length (el xs) = d at HA HD HDb
        generalize wgN p inv xs.length (el xs) (el ws) = res at HZ ⊢
        clear hin hE h hx hw hv hl hl2 hq hc hy
        go_enter Tryd.func16, Tryd.ntmps16
        go_wp2_with (first
          | (go_at_call 14; refine HD.out.mono ?_; rintro e w1 ⟨v, rfl, hO1, hB1⟩; obtain ⟨x1, c1, rfl, -, -, hr1, -⟩ := hO1.form; obtain ⟨b1, o1, rfl, hb1, hc1⟩ := hr1 (by rw [List.length_map, List.length_range]; omega); rw [List.length_map, List.length_range] at hc1 ⊢)
          | (go_at_call 32; refine (HI.out _ hB1).mono ?_; rintro e w' ⟨rfl, rfl⟩))
        have HC1 : Hid (∀ j, j < xs.length → w1.cell? ⟨b1, o1 + j, none⟩ = some (.int .u64 (d j))) := Lib.hid (fun j hj => by rw [hc1 j hj]; simp [hj])
        clear hO1 hc1 HD HI
        go_loopw [12, 36] (fun s i wi => ∃ m q : Nat, m ≤ xs.length ∧ i = .int .i64 (m : Int) ∧ s = .int .u64 (A m) ∧ wi = w1.drewN q) (fun _ i _ => xs.length - (intOf i).toNat)
        case atStart => exact ⟨0, 0, Nat.zero_le _, rfl, by rw [H0.out], rfl⟩
        case round =>
          obtain ⟨m, q, hm, rfl, rfl, rfl⟩ := hrel
          by_cases hlm : m < xs.length
          · have hdm : decide (m < xs.length) = true := by simpa using hlm
            have hlw : m < ws.length := by have := HQ.out; omega
            have hx1 := HC1.out m hlm
            have hy1 := (hB1.cell (p := ⟨b, off + m, none⟩) hb).trans (HC.out m hlw)
            obtain ⟨y0, y1⟩ := HW.out m
            obtain ⟨d0, d1⟩ := HDb.out m
            obtain ⟨a0, a1⟩ := HS.out m
            obtain ⟨p0, p1⟩ := HK.out
            have HT := Lib.hid (HA.out m)
            obtain ⟨u, hu⟩ : ∃ u, u = d m := ⟨_, rfl⟩
            obtain ⟨gv, hgv⟩ : ∃ gv, gv = ws.getD m 0 := ⟨_, rfl⟩
            obtain ⟨sv, hsv⟩ : ∃ sv, sv = A m := ⟨_, rfl⟩
            unfold el at HT
            rw [← hu, ← hgv, ← hsv] at HT
            rw [← hu] at hx1 d0 d1
            rw [← hgv] at hy1 y0 y1
            rw [← hsv] at a0 a1
            rw [← hsv]
            obtain ⟨t0, t1, -⟩ := Fp.mul_bd p u gv
            clear hu hgv hsv
            go_wp2_with (first
              | (go_at_call 34; refine (rmul_any _ _ _ _ (by omega) (by omega) (by omega) (by omega)).mono ?_; rintro e w' ⟨rfl, rfl⟩)
              | (go_at_call 33; refine (radd_any _ _ _ _ (by omega) (by omega) (by omega) (by omega)).mono ?_; rintro e w' ⟨rfl, n3, rfl⟩))
            go_roundw
            case rel => exact ⟨m + 1, _, by omega, by go_num, by rw [HT.out], rfl⟩
            case measure => simp [intOf]; omega
          · obtain rfl : m = xs.length := by omega
            rw [HZ.out]
            clear HA HZ H0 HS HDb HC HW
            go_wp2
            go_ret2
            exact ⟨rfl, below_draws hB1 _⟩
    · rw [if_neg hq, if_neg (by omega)]
      have dq : ((ws.length : Int) != (xs.length : Int)) = true := by rw [bne_iff_ne]; omega
      clear hE h hx hw hv hl hl2 hy
      go_enter Tryd.func16, Tryd.ntmps16
      go_wp2_with (go_at_call 14; refine HD.out.mono ?_; rintro e w1 ⟨v, rfl, hO1, hB1⟩)
      go_ret2
      exact ⟨rfl, hB1⟩
  · have hd : wgE p xs ws = doE p xs := by unfold wgE; rw [if_neg hE]
    rw [hd, if_neg hE]
    have t : (doE p xs != 0) = true := bne_iff_ne.2 hE
    clear hE hx hw hv hl hl2 hd hy
    go_enter Tryd.func16, Tryd.ntmps16
    go_wp2_with (go_at_call 14; refine HD.out.mono ?_; rintro e w1 ⟨v, rfl, hO1, hB1⟩)
    go_ret2
    exact ⟨rfl, hB1⟩

end Go.Proofs.YtmcnamlgbkbiaaaDoor
