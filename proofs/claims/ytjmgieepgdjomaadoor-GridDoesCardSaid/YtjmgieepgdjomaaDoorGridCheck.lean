/-
  What grid.Check and checkWords come to, over every input, and the document's (brackenref07.Check, words, Few).
-/
import Derived.Test.YtjmgieepgdjomaaDoorAxes
import Derived.Test.YtjmgieepgdjomaaDoorLines6
namespace Go.Proofs.YtjmgieepgdjomaaDoor
open Go.RowKit

theorem orderOf7_any (n : Nat) (neg : Bool) (w : World) (hn : n ≤ 4096) :
    Calls Tryd.prog 33 #[.agg #[.int .i64 (n : Int), .bool neg]] w (RetB (.int .i64 ((Fp.od neg n : Nat) : Int)) w) := by
  cases neg
  · go_enter Tryd.func33, Tryd.ntmps33
    go_wp2
    go_ret
    exact ⟨rfl, below_al (Below.refl _ _) _⟩
  · have hz : (2 : Int) * (n : Int) = ((Fp.od true n : Nat) : Int) := by simp [Fp.od]
    have hb : Fp.od true n ≤ 8192 := by simp [Fp.od]; omega
    generalize Fp.od true n = u at hz hb ⊢
    go_enter Tryd.func33, Tryd.ntmps33
    go_wp2
    go_ret
    exact ⟨rfl, below_al (Below.refl _ _) _⟩

/-- An axis whose size may be. -/
theorem ax_of {u : Ax} (h : Fac.sm u.n = true) : ∃ L : Nat, u.n = (L : Int) ∧ 1 ≤ L ∧ L ≤ 4096 := by
  obtain ⟨h1, h2, _⟩ := Fac.sm_of h
  exact ⟨u.n.toNat, by omega, by omega, by omega⟩

set_option maxHeartbeats 2000000 in
set_option maxRecDepth 100000 in
theorem check7_any (p : Int) (x : Option Addr) (n cap : Nat) (xa : List Ax) (w : World) (hG : Gl w) (hx : ReadsA w w.heap.size x xa) (hn : xa.length = n) (hl : n ≤ 8796093022208) :
    Calls Tryd.prog 14 #[.int .u64 p, .slice x n cap] w (RetB (.int .i64 (gridE p xa)) w) := by
  have HD := Lib.hid (dims_any x n cap xa w hx hn hl)
  cases hk : Fp.kn p
  · rw [gridE_prime hk]
    have H := Lib.hid hk
    clear hk hG hx hn HD
    go_enter Tryd.func14, Tryd.ntmps14
    go_wp2_with (go_at_call 29; refine (known_no _ _ H.out).mono ?_; rintro e w' ⟨rfl, rfl⟩)
    go_ret
    exact ⟨rfl, Below.refl _ _⟩
  · rcases dims_or xa with ⟨ho, hd⟩ | hno
    · have H := Lib.hid hk
      have HX := Lib.hid hx
      have HG := Lib.hid hG
      have HO := Lib.hid ho
      have HDM := Lib.hid hd
      have HDL := Lib.hid (dims_len xa)
      subst hn
      clear hk hx hG ho hd
      go_enter Tryd.func14, Tryd.ntmps14
      go_wp2_with (first
        | (go_at_call 29; refine (known_yes _ _ H.out).mono ?_; rintro e w' ⟨rfl, rfl⟩)
        | (go_at_call 17; refine HD.out.mono ?_; rintro e w1 ⟨v, rfl, hO, b1⟩; obtain ⟨y, c, rfl, -, -, hr, -⟩ := hO.form; have R1 := Lib.hid hr; have B1 := Lib.hid b1; clear hO hr b1)
        | (go_at_call 30; refine (all_ok (szs xa) HO.out y _ c w1 w1.heap.size (by rw [← HDM.out]; exact R1.out) (by rw [HDL.out, szs_len])).mono ?_; rintro e w' ⟨rfl, rfl⟩))
      clear R1 HD
      go_loopw [27] (fun i wr => ∃ k : Nat, k ≤ xa.length ∧ i = .int .i64 (k : Int) ∧ Hid (∀ j, j < k → axS xa j = true) ∧ Below w.heap.size w wr) (fun i _ => xa.length - (intOf i).toNat)
      case atStart => exact ⟨0, Nat.zero_le _, rfl, Lib.hid (fun j hj => by omega), B1.out⟩
      case round =>
        obtain ⟨k, hk, rfl, HA, hB⟩ := hrel
        by_cases hlt : k < xa.length
        · obtain ⟨b, off, rfl, hb, hc⟩ := (HX.out.below hB) (by omega)
          obtain ⟨c0, c1⟩ := hc k hlt
          obtain ⟨u, hu⟩ : ∃ u, u = xa.getD k noAx := ⟨_, rfl⟩
          rw [← hu] at c0 c1
          have HS := Lib.hid (fun W => smooth_any u.n W)
          have HB := Lib.hid (below_al hB (.cells #[.int .i64 u.n, .bool u.neg] 41))
          cases hs : axS xa k
          · have HE := Lib.hid (gridE_size (p := p) H.out HO.out HDM.out hlt hs)
            have e : Fac.sm u.n = false := by rw [hu]; exact hs
            rw [e] at HS
            clear hc hu hB hs e HX HG HO HDM HDL HA B1 H
            go_wp2_with (go_at_call 31; refine (HS.out _).mono ?_; rintro e w2 ⟨rfl, b2⟩)
            go_ret
            exact ⟨by rw [HE.out]; rfl, below_then HB.out b2⟩
          · have e : Fac.sm u.n = true := by rw [hu]; exact hs
            rw [e] at HS
            have HA' : Hid (∀ j, j < k + 1 → axS xa j = true) := Lib.hid (fun j hj => by
              by_cases e : j = k
              · rw [e]; exact hs
              · exact HA.out j (by omega))
            clear hc hu hB hs e HX HG HO HDM HDL HA B1 H
            go_wp2_with (go_at_call 31; refine (HS.out _).mono ?_; rintro e w2 ⟨rfl, b2⟩)
            go_roundw
            case rel => exact ⟨k + 1, by omega, by go_num, HA', below_then HB.out b2⟩
            case measure => simp [intOf]; omega
        · obtain rfl : k = xa.length := by omega
          have hB' := Lib.hid hB
          clear hB B1
          go_wp2
          go_loopw [38] (fun i wq => ∃ k : Nat, k ≤ xa.length ∧ i = .int .i64 (k : Int) ∧ Hid (∀ j, j < k → axR p xa j) ∧ Below w.heap.size w wq) (fun i _ => xa.length - (intOf i).toNat)
          case atStart => exact ⟨0, Nat.zero_le _, rfl, Lib.hid (fun j hj => by omega), hB'.out⟩
          case round =>
            clear hB'
            obtain ⟨k, hk, rfl, HR, hB⟩ := hrel
            by_cases hlt : k < xa.length
            · obtain ⟨b, off, rfl, hb, hc⟩ := (HX.out.below hB) (by omega)
              obtain ⟨c0, c1⟩ := hc k hlt
              obtain ⟨u, hu⟩ : ∃ u, u = xa.getD k noAx := ⟨_, rfl⟩
              rw [← hu] at c0 c1
              obtain ⟨L, hL, l1, l2⟩ := ax_of (u := u) (by rw [hu]; exact HA.out k hlt)
              rw [hL] at c0
              obtain ⟨neg, hneg⟩ : ∃ neg, neg = u.neg := ⟨_, rfl⟩
              rw [← hneg] at c1
              have HB := Lib.hid (below_al hB (.cells #[.int .i64 (L : Int), .bool neg] 41))
              have HOr := Lib.hid (fun W => orderOf7_any L neg W l2)
              have HRt := Lib.hid (fun W (hG' : Gl W) => root_any p ((Fp.od neg L : Nat) : Int) W hG' (by have := Fp.od_bd neg l1 l2; omega))
              have hiff : axR p xa k ↔ (p - 1) % ((Fp.od neg L : Nat) : Int) = 0 := by
                unfold axR
                rw [← hu, hL, Int.toNat_natCast, hneg]
              by_cases hr : (p - 1) % ((Fp.od neg L : Nat) : Int) = 0
              · rw [rootE_yes H.out l1 l2 hr] at HRt
                have HR' : Hid (∀ j, j < k + 1 → axR p xa j) := Lib.hid (fun j hj => by
                  by_cases e : j = k
                  · rw [e]; exact hiff.2 hr
                  · exact HR.out j (by omega))
                generalize rootN p ((Fp.od neg L : Nat) : Int) = rn at HRt
                generalize Fp.od neg L = o at HOr HRt hr hiff
                clear hc hu hB hL hneg hr hiff HX HO HDM HDL HA HR H
                go_wp2_with (first
                  | (go_at_call 33; refine (HOr.out _).mono ?_; rintro e w2 ⟨rfl, b2⟩; have B2 := Lib.hid (below_then HB.out b2); clear b2)
                  | (go_at_call 32; refine (HRt.out _ (HG.out.then B2.out)).mono ?_; rintro e w3 ⟨rfl, b3⟩; have B3 := Lib.hid (below_then B2.out b3); clear b3))
                go_roundw
                case rel => exact ⟨k + 1, by omega, by go_num, HR', B3.out⟩
                case measure => simp [intOf]; omega
              · rw [rootE_no H.out l1 l2 hr] at HRt
                have HE := Lib.hid (gridE_order (p := p) H.out HO.out HDM.out HA.out hlt (fun e => hr (hiff.1 e)))
                generalize rootN p ((Fp.od neg L : Nat) : Int) = rn at HRt
                generalize Fp.od neg L = o at HOr HRt hr hiff
                clear hc hu hB hL hneg hr hiff HX HO HDM HDL HA HR H
                go_wp2_with (first
                  | (go_at_call 33; refine (HOr.out _).mono ?_; rintro e w2 ⟨rfl, b2⟩; have B2 := Lib.hid (below_then HB.out b2); clear b2)
                  | (go_at_call 32; refine (HRt.out _ (HG.out.then B2.out)).mono ?_; rintro e w3 ⟨rfl, b3⟩; have B3 := Lib.hid (below_then B2.out b3); clear b3))
                go_ret
                exact ⟨by rw [HE.out]; rfl, B3.out⟩
            · obtain rfl : k = xa.length := by omega
              have HE := Lib.hid (Axes.zero (p := p) (xa := xa) ⟨H.out, HO.out, HDM.out, HA.out, HR.out⟩)
              have HB := Lib.hid hB
              clear hB HX HO HDM HDL HA HR H HG
              go_wp2
              go_ret
              exact ⟨by rw [HE.out]; rfl, HB.out⟩
    · rw [gridE_dims hk hno]
      have H := Lib.hid hk
      have HN := Lib.hid hno
      have HDL := Lib.hid (dims_len xa)
      clear hk hG hx hn hno
      go_enter Tryd.func14, Tryd.ntmps14
      go_wp2_with (first
        | (go_at_call 29; refine (known_yes _ _ H.out).mono ?_; rintro e w' ⟨rfl, rfl⟩)
        | (go_at_call 17; refine HD.out.mono ?_; rintro e w1 ⟨v, rfl, hO, b1⟩; obtain ⟨y, c, rfl, -, -, hr, -⟩ := hO.form; have R1 := Lib.hid hr; have B1 := Lib.hid b1; clear hO hr b1)
        | (go_at_call 30; refine (all_no (dims xa) HN.out y _ c w1 w1.heap.size R1.out rfl).mono ?_; rintro e w' ⟨rfl, rfl⟩))
      go_ret
      exact ⟨rfl, B1.out⟩

end Go.Proofs.YtjmgieepgdjomaaDoor
