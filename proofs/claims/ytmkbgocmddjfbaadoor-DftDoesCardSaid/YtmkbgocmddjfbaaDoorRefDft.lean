/-
  What the document's own answers of layer 6 come to (brackenref06: Forward, Inverse, Wrap): the same lists.
-/
import Derived.Test.YtmkbgocmddjfbaaDoorWrap
import Derived.Test.YtmkbgocmddjfbaaDoorRefPow
namespace Go.Proofs.YtmkbgocmddjfbaaDoor
open Go.RowKit Go.Shelf

theorem rstep_any (j k : Nat) (neg : Bool) (w : World) (hj : j < 4096) (hk : k < 4096) :
    Calls Tryd.prog 29 #[.int .i64 (j : Int), .int .i64 (k : Int), .bool neg] w fun e w' => e = .returned (.int .u64 ((Fp.ex neg j k : Nat) : Int)) ∧ w = w' := by
  cases neg
  · obtain ⟨u, hu⟩ : ∃ u, u = Fp.ex false j k := ⟨_, rfl⟩
    have hz : (j : Int) * (k : Int) = (u : Int) := by rw [hu]; simp [Fp.ex]
    have hub : u ≤ 4096 * 4096 := by
      rw [hu]
      simp only [Fp.ex, Bool.false_eq_true, if_false]
      exact Nat.mul_le_mul (by omega) (by omega)
    rw [← hu]
    clear hu
    go_enter Tryd.func29, Tryd.ntmps29
    go_wp2
    go_ret
    exact ⟨rfl, rfl⟩
  · obtain ⟨u, hu⟩ : ∃ u, u = Fp.ex true j k := ⟨_, rfl⟩
    obtain ⟨a, ha⟩ : ∃ a : Nat, (2 : Int) * (k : Int) = (a : Int) := ⟨2 * k, by omega⟩
    obtain ⟨b, hb⟩ : ∃ b : Nat, (a : Int) + 1 = (b : Int) := ⟨a + 1, by omega⟩
    have hz : (j : Int) * (b : Int) = (u : Int) := by rw [hu, ← hb, ← ha]; simp [Fp.ex]
    have hab1 : a ≤ 8192 := by omega
    have hab2 : b ≤ 8193 := by omega
    have hub : u ≤ 4096 * 8193 := by
      rw [hu]
      simp only [Fp.ex, if_true]
      exact Nat.mul_le_mul (by omega) (by omega)
    rw [← hu]
    clear hu
    go_enter Tryd.func29, Tryd.ntmps29
    go_wp2
    go_ret
    exact ⟨rfl, rfl⟩

theorem rpow_ex (p a : Int) (m : Nat) (w : World) (a0 : 0 ≤ a) (a1 : a < 18446744073709551616) (hm : m < 18446744073709551616) :
    Calls Tryd.prog 28 #[.int .u64 p, .int .u64 a, .int .u64 (m : Int)] w fun e w' => e = .returned (.int .u64 (Fp.pw p a m)) ∧ w = w' := by
  have := rpow_any p a (m : Int) w a0 a1 (by omega) (by omega)
  rwa [Int.toNat_natCast] at this
theorem ex_bd (neg : Bool) {j k : Nat} (hj : j < 4096) (hk : k < 4096) : Fp.ex neg j k < 18446744073709551616 := by
  have h1 : j * (2 * k + 1) ≤ 4096 * 8193 := Nat.mul_le_mul (by omega) (by omega)
  have h2 : j * k ≤ 4096 * 8193 := Nat.mul_le_mul (by omega) (by omega)
  unfold Fp.ex
  split <;> omega
theorem pw_eqm {p : Int} (h : Fp.kn p = true) (a : Int) (m : Nat) : Fp.eqm p (Fp.pw p a m) (a ^ m) := by rw [Fp.pw_kn _ _ h]; exact Fp.eqm_md p _

set_option maxHeartbeats 2000000 in
theorem rforward_any (p : Int) (x : Option Addr) (n cap : Nat) (xs : List Int) (neg : Bool) (w : World) (hx : Reads .u64 w w.heap.size x xs) (hn : xs.length = n) (hw : Words xs) (hl : n ≤ maxLen) :
    Calls Tryd.prog 9 #[.int .u64 p, .slice x n cap, .bool neg] w (LineRet w (fwd p xs neg) (lineE p xs neg)) := by
  subst hn
  have HCk := Lib.hid (rlcheck_any p x xs.length cap xs neg w hx rfl hl)
  by_cases hE : lineE p xs neg = 0
  · have h := lineE_zero hE
    unfold fwd
    rw [hE, if_pos rfl]
    rw [hE] at HCk
    obtain ⟨h1, h2⟩ := h.len
    obtain ⟨o1, o2⟩ := Fp.od_bd neg h1 h2
    obtain ⟨p1, p2⟩ := Fp.kn_bd h.kn
    have HO := Lib.hid (fun W => rorder6_any xs.length neg W h2)
    have HR := Lib.hid (fun W => rroot_any p ((Fp.od neg xs.length : Nat) : Int) W (by omega))
    unfold rootN at HR
    rw [h.rootE, if_pos rfl, Int.toNat_natCast] at HR
    obtain ⟨r0, r1, -⟩ := Fp.rt_bd p (Fp.od neg xs.length)
    have HF : Hid (∀ k, Fp.sum (fun j => xs.getD j 0 * Fp.pw p (Fp.rt p (Fp.od neg xs.length)) (Fp.ex neg j k)) xs.length % p = fwdN p xs neg k) := Lib.hid (fun k => Fp.sum_mod fun _ _ => Fp.eqm.rfl.mul (pw_eqm h.kn _ _))
    have HX := Lib.hid hx
    have HW := Lib.hid hw
    have H := Lib.hid h.kn
    obtain ⟨i0, hi, hz0, hz1, hz2⟩ := info_parts info_u64
    generalize Fp.rt p (Fp.od neg xs.length) = r at HR HF r0 r1
    generalize Fp.od neg xs.length = o at HO HR
    clear hE h hx hw hl o1 o2
    go_enter Tryd.func9, Tryd.ntmps9
    go_wp2_with (first
      | (go_at_call 16; refine HCk.out.mono ?_; rintro e w1 ⟨rfl, hB1⟩)
      | (go_at_call 25; refine (HO.out _).mono ?_; rintro e w' ⟨rfl, rfl⟩)
      | (go_at_call 24; refine (HR.out _).mono ?_; rintro e w' ⟨rfl, nd, rfl⟩))
    have hB0 : Below w.heap.size w (w1.drewN nd) := below_draws hB1 _
    clear hB1 HCk HO HR
    go_loopw [11, 34] (fun v i wr => ∃ (k : Nat) (o : Value), k ≤ xs.length ∧ i = .int .i64 (k : Int) ∧ o = v ∧ Owns .u64 22 wr w.heap.size o ((List.range k).map (fwdN p xs neg)) ∧ Below w.heap.size w wr) (fun _ i _ => xs.length - (intOf i).toNat)
    case atStart => exact ⟨0, _, Nat.zero_le _, rfl, rfl, Owns.nil, hB0⟩
    case round =>
      obtain ⟨k, o, hk, rfl, rfl, hO, hB⟩ := hrel
      clear hB0
      by_cases hlt : k < xs.length
      · have hdk : decide (k < xs.length) = true := by simpa using hlt
        have HO := Lib.hid hO; clear hO
        have HB := Lib.hid hB; clear hB
        go_wp2
        go_loopw [13, 39] (fun s i wi => ∃ m q : Nat, m ≤ xs.length ∧ i = .int .i64 (m : Int) ∧ s = .int .u64 (Fp.sum (fun j => xs.getD j 0 * Fp.pw p r (Fp.ex neg j k)) m % p) ∧ wi = wr.drewN q) (fun _ i _ => xs.length - (intOf i).toNat)
        case atStart => exact ⟨0, 0, Nat.zero_le _, rfl, by simp [Fp.sum], rfl⟩
        case round =>
          obtain ⟨m, q, hm, rfl, rfl, rfl⟩ := hrel
          by_cases hlm : m < xs.length
          · have hdm : decide (m < xs.length) = true := by simpa using hlm
            obtain ⟨b, off, rfl, hb, hcx⟩ := HX.out (by omega)
            have hx1 := (HB.out.cell (p := ⟨b, off + m, none⟩) hb).trans (hcx m hlm)
            obtain ⟨y0, y1⟩ := HW.out m
            have HS : Hid (Fp.add p (Fp.sum (fun j => xs.getD j 0 * Fp.pw p r (Fp.ex neg j k)) m % p) (Fp.mul p (xs.getD m 0) (Fp.pw p r (Fp.ex neg m k))) = Fp.sum (fun j => xs.getD j 0 * Fp.pw p r (Fp.ex neg j k)) (m + 1) % p) := Lib.hid (Fp.add_mul_sum H.out _ _ _ _ rfl)
            obtain ⟨z0, z1, -⟩ := Fp.pw_bd p r (Fp.ex neg m k)
            obtain ⟨s0, s1, s2⟩ := Fp.mod_bd H.out (Fp.sum (fun j => xs.getD j 0 * Fp.pw p r (Fp.ex neg j k)) m)
            have HT := Lib.hid (fun W => rstep_any m k neg W (by omega) (by omega))
            have HP := Lib.hid (fun W => rpow_ex p r (Fp.ex neg m k) W (by omega) (by omega) (ex_bd neg (by omega) (by omega)))
            obtain ⟨u, hu⟩ : ∃ u, u = xs.getD m 0 := ⟨_, rfl⟩
            obtain ⟨gv, hgv⟩ : ∃ gv, gv = Fp.pw p r (Fp.ex neg m k) := ⟨_, rfl⟩
            obtain ⟨sv, hsv⟩ : ∃ sv, sv = Fp.sum (fun j => xs.getD j 0 * Fp.pw p r (Fp.ex neg j k)) m % p := ⟨_, rfl⟩
            rw [← hu] at hx1 y0 y1 HS
            rw [← hgv] at HS HP z0 z1
            rw [← hsv] at HS s0 s1 s2
            rw [← hsv]
            generalize Fp.ex neg m k = ev at HT HP
            obtain ⟨t0, t1, -⟩ := Fp.mul_bd p u gv
            clear hu hgv hsv hcx
            go_wp2_with (first
              | (go_at_call 29; refine (HT.out _).mono ?_; rintro e w' ⟨rfl, rfl⟩)
              | (go_at_call 28; refine (HP.out _).mono ?_; rintro e w' ⟨rfl, rfl⟩)
              | (go_at_call 27; refine (rmul_any _ _ _ _ (by omega) (by omega) (by omega) (by omega)).mono ?_; rintro e w' ⟨rfl, rfl⟩)
              | (go_at_call 26; refine (radd_any _ _ _ _ (by omega) (by omega) (by omega) (by omega)).mono ?_; rintro e w' ⟨rfl, n3, rfl⟩))
            go_roundw
            case rel => exact ⟨m + 1, _, by omega, by go_num, by rw [HS.out], rfl⟩
            case measure => simp [intOf]; omega
          · obtain rfl : m = xs.length := by omega
            have hO' : (wr.drewN q).ownsRow w.heap.size 22 1 o ((List.range k).map (fwdN p xs neg)).length (((List.range k).map (fwdN p xs neg)).map (Value.int .u64)) := HO.out
            have HL : Hid (((List.range k).map (fwdN p xs neg)).length = k) := Lib.hid (by simp)
            have hv := HF.out k
            obtain ⟨s0, s1, s2⟩ := Fp.mod_bd H.out (Fp.sum (fun j => xs.getD j 0 * Fp.pw p r (Fp.ex neg j k)) xs.length)
            obtain ⟨sv, hsv⟩ : ∃ sv, sv = Fp.sum (fun j => xs.getD j 0 * Fp.pw p r (Fp.ex neg j k)) xs.length % p := ⟨_, rfl⟩
            rw [← hsv] at hv s0 s1 s2
            rw [← hsv]
            have HV := Lib.hid hv
            generalize hys : (List.range k).map (fwdN p xs neg) = zs at hO' HL HO
            have HYS := Lib.hid hys
            have hsz : Hid (w.heap.size ≤ wr.heap.size) := Lib.hid HB.out.size
            clear hv hsv hys
            go_wp2_with (first
              | (at_builtin; refine wpList_append_own _ rfl _ _ 23 rfl w.heap.size 22 i0 (.int .u64 0) 1 8 Tryd.underlying23 hi hz0 hz1 hz2 rfl (by decide) _ _ _ rfl (hO'.alloc _) ⟨wr.heap.size, 0, none⟩ 1 1 [.int .u64 (sv)] rfl rfl (cell_one_new _ _ _) (one_int _ _) (by rw [HL.out]; unfold maxLen; omega) (by rw [HL.out]; omega) (by have := hsz.out; simp; omega) ?_; intro v' w3 hown' hgrow3 hnil3))
            go_roundw
            case rel =>
              refine ⟨k + 1, v', by omega, by go_num, rfl, ?_, ?_⟩
              · rw [range_snoc, HYS.out, ← HV.out]; exact Owns.push hown'
              · exact ((below_draws HB.out q).alloc (by exact HB.out.size) _).grown hgrow3 (Nat.le_trans HB.out.size (by simp)) HO.out.ownBlock
            case measure => simp [intOf]; omega
      · obtain rfl : k = xs.length := by omega
        have hR : LineRet w ((List.range xs.length).map (fwdN p xs neg)) 0 (.returned (.tuple #[o, .int .i64 0])) wr := ⟨_, rfl, hO, hB⟩
        clear hO hB hi hz0 hz1 hz2
        go_wp2
        go_ret2
        exact hR
  · unfold fwd
    rw [if_neg hE]
    have t := ne_of_bne hE
    clear hE hx hw hl
    go_enter Tryd.func9, Tryd.ntmps9
    go_wp2_with (go_at_call 16; refine HCk.out.mono ?_; rintro e w1 ⟨rfl, hB1⟩)
    go_ret2
    exact ⟨_, rfl, Owns.nil, hB1⟩

set_option maxHeartbeats 2000000 in
theorem rinverse_any (p : Int) (x : Option Addr) (n cap : Nat) (xs : List Int) (neg : Bool) (w : World) (hx : Reads .u64 w w.heap.size x xs) (hn : xs.length = n) (hw : Words xs) (hl : n ≤ maxLen) :
    Calls Tryd.prog 11 #[.int .u64 p, .slice x n cap, .bool neg] w (LineRet w (bwd p xs neg) (lineE p xs neg)) := by
  subst hn
  have HCk := Lib.hid (rlcheck_any p x xs.length cap xs neg w hx rfl hl)
  by_cases hE : lineE p xs neg = 0
  · have h := lineE_zero hE
    unfold bwd
    rw [hE, if_pos rfl]
    rw [hE] at HCk
    obtain ⟨h1, h2⟩ := h.len
    obtain ⟨o1, o2⟩ := Fp.od_bd neg h1 h2
    obtain ⟨p1, p2⟩ := Fp.kn_bd h.kn
    have HO := Lib.hid (fun W => rorder6_any xs.length neg W h2)
    have HR := Lib.hid (fun W => rback_any p ((Fp.od neg xs.length : Nat) : Int) W (by omega))
    unfold backN at HR
    rw [h.rootE, if_pos rfl, Int.toNat_natCast] at HR
    obtain ⟨r0, r1, -⟩ := Fp.inv_bd p (Fp.rt p (Fp.od neg xs.length))
    have HF : Hid (∀ k, Fp.mul p (Fp.sum (fun j => xs.getD j 0 * Fp.pw p (Fp.inv p (Fp.rt p (Fp.od neg xs.length))) (Fp.ex neg k j)) xs.length % p) (Fp.inv p (xs.length : Int)) = bwdN p xs neg k) := Lib.hid (fun k => by
      unfold bwdN
      congr 1
      exact Fp.sum_mod fun _ _ => Fp.eqm.rfl.mul (pw_eqm h.kn _ _))
    have hz : Fp.red p (xs.length : Int) ≠ 0 := by
      have : Fp.red p (xs.length : Int) = (xs.length : Int) % p := by unfold Fp.red; rw [if_pos h.kn]
      rw [this, Int.emod_eq_of_lt (by omega) (by omega)]
      omega
    have HI := Lib.hid (fun W => rinv_yes p (xs.length : Int) W h.kn (by omega) (by omega) hz)
    obtain ⟨v0, v1, -⟩ := Fp.inv_bd p (xs.length : Int)
    have HX := Lib.hid hx
    have HW := Lib.hid hw
    have H := Lib.hid h.kn
    obtain ⟨i0, hi, hz0, hz1, hz2⟩ := info_parts info_u64
    generalize Fp.inv p (Fp.rt p (Fp.od neg xs.length)) = r at HR HF r0 r1
    generalize Fp.inv p (xs.length : Int) = iv at HI HF v0 v1
    generalize Fp.od neg xs.length = o at HO HR
    clear hE h hx hw hl o1 o2 hz
    go_enter Tryd.func11, Tryd.ntmps11
    go_wp2_with (first
      | (go_at_call 16; refine HCk.out.mono ?_; rintro e w1 ⟨rfl, hB1⟩)
      | (go_at_call 25; refine (HO.out _).mono ?_; rintro e w' ⟨rfl, rfl⟩)
      | (go_at_call 33; refine (HR.out _).mono ?_; rintro e w' ⟨rfl, nd, rfl⟩)
      | (go_at_call 34; refine (HI.out _).mono ?_; rintro e w' ⟨rfl, rfl⟩))
    have hB0 : Below w.heap.size w (w1.drewN nd) := below_draws hB1 _
    clear hB1 HCk HO HR
    go_loopw [13, 44] (fun v i wr => ∃ (k : Nat) (o : Value), k ≤ xs.length ∧ i = .int .i64 (k : Int) ∧ o = v ∧ Owns .u64 22 wr w.heap.size o ((List.range k).map (bwdN p xs neg)) ∧ Below w.heap.size w wr) (fun _ i _ => xs.length - (intOf i).toNat)
    case atStart => exact ⟨0, _, Nat.zero_le _, rfl, rfl, Owns.nil, hB0⟩
    case round =>
      obtain ⟨k, o, hk, rfl, rfl, hO, hB⟩ := hrel
      clear hB0
      by_cases hlt : k < xs.length
      · have hdk : decide (k < xs.length) = true := by simpa using hlt
        have HO := Lib.hid hO; clear hO
        have HB := Lib.hid hB; clear hB
        go_wp2
        go_loopw [15, 49] (fun s i wi => ∃ m q : Nat, m ≤ xs.length ∧ i = .int .i64 (m : Int) ∧ s = .int .u64 (Fp.sum (fun j => xs.getD j 0 * Fp.pw p r (Fp.ex neg k j)) m % p) ∧ wi = wr.drewN q) (fun _ i _ => xs.length - (intOf i).toNat)
        case atStart => exact ⟨0, 0, Nat.zero_le _, rfl, by simp [Fp.sum], rfl⟩
        case round =>
          obtain ⟨m, q, hm, rfl, rfl, rfl⟩ := hrel
          by_cases hlm : m < xs.length
          · have hdm : decide (m < xs.length) = true := by simpa using hlm
            obtain ⟨b, off, rfl, hb, hcx⟩ := HX.out (by omega)
            have hx1 := (HB.out.cell (p := ⟨b, off + m, none⟩) hb).trans (hcx m hlm)
            obtain ⟨y0, y1⟩ := HW.out m
            have HS : Hid (Fp.add p (Fp.sum (fun j => xs.getD j 0 * Fp.pw p r (Fp.ex neg k j)) m % p) (Fp.mul p (xs.getD m 0) (Fp.pw p r (Fp.ex neg k m))) = Fp.sum (fun j => xs.getD j 0 * Fp.pw p r (Fp.ex neg k j)) (m + 1) % p) := Lib.hid (Fp.add_mul_sum H.out _ _ _ _ rfl)
            obtain ⟨z0, z1, -⟩ := Fp.pw_bd p r (Fp.ex neg k m)
            obtain ⟨s0, s1, s2⟩ := Fp.mod_bd H.out (Fp.sum (fun j => xs.getD j 0 * Fp.pw p r (Fp.ex neg k j)) m)
            have HT := Lib.hid (fun W => rstep_any k m neg W (by omega) (by omega))
            have HP := Lib.hid (fun W => rpow_ex p r (Fp.ex neg k m) W (by omega) (by omega) (ex_bd neg (by omega) (by omega)))
            obtain ⟨u, hu⟩ : ∃ u, u = xs.getD m 0 := ⟨_, rfl⟩
            obtain ⟨gv, hgv⟩ : ∃ gv, gv = Fp.pw p r (Fp.ex neg k m) := ⟨_, rfl⟩
            obtain ⟨sv, hsv⟩ : ∃ sv, sv = Fp.sum (fun j => xs.getD j 0 * Fp.pw p r (Fp.ex neg k j)) m % p := ⟨_, rfl⟩
            rw [← hu] at hx1 y0 y1 HS
            rw [← hgv] at HS HP z0 z1
            rw [← hsv] at HS s0 s1 s2
            rw [← hsv]
            generalize Fp.ex neg k m = ev at HT HP
            obtain ⟨t0, t1, -⟩ := Fp.mul_bd p u gv
            clear hu hgv hsv hcx
            go_wp2_with (first
              | (go_at_call 29; refine (HT.out _).mono ?_; rintro e w' ⟨rfl, rfl⟩)
              | (go_at_call 28; refine (HP.out _).mono ?_; rintro e w' ⟨rfl, rfl⟩)
              | (go_at_call 27; refine (rmul_any _ _ _ _ (by omega) (by omega) (by omega) (by omega)).mono ?_; rintro e w' ⟨rfl, rfl⟩)
              | (go_at_call 26; refine (radd_any _ _ _ _ (by omega) (by omega) (by omega) (by omega)).mono ?_; rintro e w' ⟨rfl, n3, rfl⟩))
            go_roundw
            case rel => exact ⟨m + 1, _, by omega, by go_num, by rw [HS.out], rfl⟩
            case measure => simp [intOf]; omega
          · obtain rfl : m = xs.length := by omega
            have hO' : (wr.drewN q).ownsRow w.heap.size 22 1 o ((List.range k).map (bwdN p xs neg)).length (((List.range k).map (bwdN p xs neg)).map (Value.int .u64)) := HO.out
            have HL : Hid (((List.range k).map (bwdN p xs neg)).length = k) := Lib.hid (by simp)
            have hv := HF.out k
            obtain ⟨s0, s1, s2⟩ := Fp.mod_bd H.out (Fp.sum (fun j => xs.getD j 0 * Fp.pw p r (Fp.ex neg k j)) xs.length)
            obtain ⟨sv, hsv⟩ : ∃ sv, sv = Fp.sum (fun j => xs.getD j 0 * Fp.pw p r (Fp.ex neg k j)) xs.length % p := ⟨_, rfl⟩
            rw [← hsv] at hv s0 s1 s2
            rw [← hsv]
            have HV := Lib.hid hv
            generalize hys : (List.range k).map (bwdN p xs neg) = zs at hO' HL HO
            have HYS := Lib.hid hys
            have hsz : Hid (w.heap.size ≤ wr.heap.size) := Lib.hid HB.out.size
            clear hv hsv hys
            go_wp2_with (first
              | (at_builtin; refine wpList_append_own _ rfl _ _ 23 rfl w.heap.size 22 i0 (.int .u64 0) 1 8 Tryd.underlying23 hi hz0 hz1 hz2 rfl (by decide) _ _ _ rfl (hO'.alloc _) ⟨wr.heap.size, 0, none⟩ 1 1 [.int .u64 (Fp.mul p sv iv)] rfl rfl (cell_one_new _ _ _) (one_int _ _) (by rw [HL.out]; unfold maxLen; omega) (by rw [HL.out]; omega) (by have := hsz.out; simp; omega) ?_; intro v' w3 hown' hgrow3 hnil3)
              | (go_at_call 27; refine (rmul_any _ _ _ _ (by omega) (by omega) (by omega) (by omega)).mono ?_; rintro e w' ⟨rfl, rfl⟩))
            go_roundw
            case rel =>
              refine ⟨k + 1, v', by omega, by go_num, rfl, ?_, ?_⟩
              · rw [range_snoc, HYS.out, ← HV.out]; exact Owns.push hown'
              · exact ((below_draws HB.out q).alloc (by exact HB.out.size) _).grown hgrow3 (Nat.le_trans HB.out.size (by simp)) HO.out.ownBlock
            case measure => simp [intOf]; omega
      · obtain rfl : k = xs.length := by omega
        have hR : LineRet w ((List.range xs.length).map (bwdN p xs neg)) 0 (.returned (.tuple #[o, .int .i64 0])) wr := ⟨_, rfl, hO, hB⟩
        clear hO hB hi hz0 hz1 hz2
        go_wp2
        go_ret2
        exact hR
  · unfold bwd
    rw [if_neg hE]
    have t := ne_of_bne hE
    clear hE hx hw hl
    go_enter Tryd.func11, Tryd.ntmps11
    go_wp2_with (go_at_call 16; refine HCk.out.mono ?_; rintro e w1 ⟨rfl, hB1⟩)
    go_ret2
    exact ⟨_, rfl, Owns.nil, hB1⟩

end Go.Proofs.YtmkbgocmddjfbaaDoor
