/-
  What the document's own Check of axes comes to (brackenref07), over every input.
-/
import Derived.Test.YtjmgieepgdjomaaDoorGridCheck
namespace Go.Proofs.YtjmgieepgdjomaaDoor
open Go.RowKit

set_option maxHeartbeats 2000000 in
set_option maxRecDepth 100000 in
theorem rcheck7_any (p : Int) (x : Option Addr) (n cap : Nat) (xa : List Ax) (w : World) (hx : ReadsA w w.heap.size x xa) (hn : xa.length = n) (hl : n ≤ 8796093022208) :
    Calls Tryd.prog 15 #[.int .u64 p, .slice x n cap] w (RetB (.int .i64 (gridE p xa)) w) := by
  have HD := Lib.hid (rdims_any x n cap xa w hx hn hl)
  cases hk : Fp.kn p
  · rw [gridE_prime hk]
    have H := Lib.hid hk
    clear hk hx hn HD
    go_enter Tryd.func15, Tryd.ntmps15
    go_wp2_with (go_at_call 34; refine (rknown_no _ _ H.out).mono ?_; rintro e w' ⟨rfl, rfl⟩)
    go_ret
    exact ⟨rfl, Below.refl _ _⟩
  · rcases dims_or xa with ⟨ho, hd⟩ | hno
    · have H := Lib.hid hk
      have HX := Lib.hid hx
      have HO := Lib.hid ho
      have HDM := Lib.hid hd
      have HDL := Lib.hid (dims_len xa)
      subst hn
      clear hk hx ho hd
      go_enter Tryd.func15, Tryd.ntmps15
      go_wp2_with (first
        | (go_at_call 34; refine (rknown_yes _ _ H.out).mono ?_; rintro e w' ⟨rfl, rfl⟩)
        | (go_at_call 18; refine HD.out.mono ?_; rintro e w1 ⟨v, rfl, hO, b1⟩; obtain ⟨y, c, rfl, -, -, hr, -⟩ := hO.form; have R1 := Lib.hid hr; have B1 := Lib.hid b1; clear hO hr b1)
        | (go_at_call 22; refine (rall_ok (szs xa) HO.out y _ c w1 w1.heap.size (by rw [← HDM.out]; exact R1.out) (by rw [HDL.out, szs_len])).mono ?_; rintro e w' ⟨rfl, rfl⟩))
      clear R1 HD
      go_loopw [27] (fun i wr => ∃ k : Nat, k ≤ xa.length ∧ i = .int .i64 (k : Int) ∧ Hid (∀ j, j < k → axS xa j = true) ∧ Below w.heap.size w wr) (fun i _ => xa.length - (intOf i).toNat)
      case atStart => exact ⟨0, Nat.zero_le _, rfl, Lib.hid (fun j hj => by omega), B1.out⟩
      case round =>
        obtain ⟨k, hk, rfl, HA, hB⟩ := hrel
        by_cases hlt : k < xa.length
        · obtain ⟨b, off, rfl, hb, hc⟩ := (HX.out.below hB) (by omega)
          obtain ⟨c0, c1⟩ := hc k hlt
          obtain ⟨u, hu⟩ : ∃ u, u = xa.getD k noAx := ⟨_, rfl⟩
          rw [← hu] at c0 c1
          have HS := Lib.hid (fun W => rsmooth_any u.n W)
          have HB := Lib.hid (below_al hB (.cells #[.int .i64 u.n, .bool u.neg] 41))
          cases hs : axS xa k
          · have HE := Lib.hid (gridE_size (p := p) H.out HO.out HDM.out hlt hs)
            have e : Fac.sm u.n = false := by rw [hu]; exact hs
            rw [e] at HS
            clear hc hu hB hs e HX HO HDM HDL HA B1 H
            go_wp2_with (go_at_call 35; refine (HS.out _).mono ?_; rintro e w2 ⟨rfl, b2⟩)
            go_ret
            exact ⟨by rw [HE.out]; rfl, below_then HB.out b2⟩
          · have e : Fac.sm u.n = true := by rw [hu]; exact hs
            rw [e] at HS
            have HA' : Hid (∀ j, j < k + 1 → axS xa j = true) := Lib.hid (fun j hj => by
              by_cases e : j = k
              · rw [e]; exact hs
              · exact HA.out j (by omega))
            clear hc hu hB hs e HX HO HDM HDL HA B1 H
            go_wp2_with (go_at_call 35; refine (HS.out _).mono ?_; rintro e w2 ⟨rfl, b2⟩)
            go_roundw
            case rel => exact ⟨k + 1, by omega, by go_num, HA', below_then HB.out b2⟩
            case measure => simp [intOf]; omega
        · obtain rfl : k = xa.length := by omega
          have hB' := Lib.hid hB
          clear hB B1
          go_wp2
          go_loopw [38] (fun i wq => ∃ k : Nat, k ≤ xa.length ∧ i = .int .i64 (k : Int) ∧ Hid (∀ j, j < k → axR p xa j) ∧ Below w.heap.size w wq) (fun i _ => xa.length - (intOf i).toNat)
          case atStart => exact ⟨0, Nat.zero_le _, rfl, Lib.hid (fun j hj => by omega), hB'.out⟩
          case round =>
            clear hB'
            obtain ⟨k, hk, rfl, HR, hB⟩ := hrel
            by_cases hlt : k < xa.length
            · obtain ⟨b, off, rfl, hb, hc⟩ := (HX.out.below hB) (by omega)
              obtain ⟨c0, c1⟩ := hc k hlt
              obtain ⟨u, hu⟩ : ∃ u, u = xa.getD k noAx := ⟨_, rfl⟩
              rw [← hu] at c0 c1
              obtain ⟨L, hL, l1, l2⟩ := ax_of (u := u) (by rw [hu]; exact HA.out k hlt)
              rw [hL] at c0
              obtain ⟨neg, hneg⟩ : ∃ neg, neg = u.neg := ⟨_, rfl⟩
              rw [← hneg] at c1
              have HB := Lib.hid (below_al hB (.cells #[.int .i64 (L : Int), .bool neg] 41))
              have HRt := Lib.hid (fun W => (rroot_any p ((Fp.od neg L : Nat) : Int) W (by have := Fp.od_bd neg l1 l2; omega)).mono fun _ _ h => h.below)
              have od1 : neg = false → Fp.od neg L = L := fun e => by rw [e]; simp [Fp.od]
              have od2 : neg = true → (2 : Int) * (L : Int) = ((Fp.od neg L : Nat) : Int) := fun e => by rw [e]; simp [Fp.od]
              have od3 := (Fp.od_bd neg l1 l2).2
              have hiff : axR p xa k ↔ (p - 1) % ((Fp.od neg L : Nat) : Int) = 0 := by
                unfold axR
                rw [← hu, hL, Int.toNat_natCast, hneg]
              by_cases hr : (p - 1) % ((Fp.od neg L : Nat) : Int) = 0
              · rw [rootE_yes H.out l1 l2 hr] at HRt
                have HR' : Hid (∀ j, j < k + 1 → axR p xa j) := Lib.hid (fun j hj => by
                  by_cases e : j = k
                  · rw [e]; exact hiff.2 hr
                  · exact HR.out j (by omega))
                generalize rootN p ((Fp.od neg L : Nat) : Int) = rn at HRt
                generalize Fp.od neg L = o at HRt hr hiff od1 od2 od3
                clear hc hu hB hL hneg hr hiff HX HO HDM HDL HA HR H
                cases neg
                · obtain rfl := od1 rfl
                  clear od1 od2
                  go_wp2_with (go_at_call 36; refine (HRt.out _).mono ?_; rintro e w3 ⟨rfl, b3⟩; have B3 := Lib.hid (below_then HB.out b3); clear b3)
                  go_roundw
                  case rel => exact ⟨k + 1, by omega, by go_num, HR', B3.out⟩
                  case measure => simp [intOf]; omega
                · have od2 := od2 rfl
                  clear od1
                  go_wp2_with (go_at_call 36; refine (HRt.out _).mono ?_; rintro e w3 ⟨rfl, b3⟩; have B3 := Lib.hid (below_then HB.out b3); clear b3)
                  go_roundw
                  case rel => exact ⟨k + 1, by omega, by go_num, HR', B3.out⟩
                  case measure => simp [intOf]; omega
              · rw [rootE_no H.out l1 l2 hr] at HRt
                have HE := Lib.hid (gridE_order (p := p) H.out HO.out HDM.out HA.out hlt (fun e => hr (hiff.1 e)))
                generalize rootN p ((Fp.od neg L : Nat) : Int) = rn at HRt
                generalize Fp.od neg L = o at HRt hr hiff od1 od2 od3
                clear hc hu hB hL hneg hr hiff HX HO HDM HDL HA HR H
                cases neg
                · obtain rfl := od1 rfl
                  clear od1 od2
                  go_wp2_with (go_at_call 36; refine (HRt.out _).mono ?_; rintro e w3 ⟨rfl, b3⟩; have B3 := Lib.hid (below_then HB.out b3); clear b3)
                  go_ret
                  exact ⟨by rw [HE.out]; rfl, B3.out⟩
                · have od2 := od2 rfl
                  clear od1
                  go_wp2_with (go_at_call 36; refine (HRt.out _).mono ?_; rintro e w3 ⟨rfl, b3⟩; have B3 := Lib.hid (below_then HB.out b3); clear b3)
                  go_ret
                  exact ⟨by rw [HE.out]; rfl, B3.out⟩
            · obtain rfl : k = xa.length := by omega
              have HE := Lib.hid (Axes.zero (p := p) (xa := xa) ⟨H.out, HO.out, HDM.out, HA.out, HR.out⟩)
              have HB := Lib.hid hB
              clear hB HX HO HDM HDL HA HR H
              go_wp2
              go_ret
              exact ⟨by rw [HE.out]; rfl, HB.out⟩
    · rw [gridE_dims hk hno]
      have H := Lib.hid hk
      have HN := Lib.hid hno
      have HDL := Lib.hid (dims_len xa)
      clear hk hx hn hno
      go_enter Tryd.func15, Tryd.ntmps15
      go_wp2_with (first
        | (go_at_call 34; refine (rknown_yes _ _ H.out).mono ?_; rintro e w' ⟨rfl, rfl⟩)
        | (go_at_call 18; refine HD.out.mono ?_; rintro e w1 ⟨v, rfl, hO, b1⟩; obtain ⟨y, c, rfl, -, -, hr, -⟩ := hO.form; have R1 := Lib.hid hr; have B1 := Lib.hid b1; clear hO hr b1)
        | (go_at_call 22; refine (rall_no (dims xa) HN.out y _ c w1 w1.heap.size R1.out rfl).mono ?_; rintro e w' ⟨rfl, rfl⟩))
      go_ret
      exact ⟨rfl, B1.out⟩

end Go.Proofs.YtjmgieepgdjomaaDoor
