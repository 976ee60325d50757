/-
  What container/heap's down comes to at a heap of events.
-/
import Derived.Test.YtaphhgiocahnhaaHeapUp
namespace Go.Proofs.Ytaphhgiocahnhaa
open Go.RowKit Go.Sort

/-- Some bool is returned. -/
def BoolOut (e : Ending) : Prop := ∃ b, e = .returned (.bool b)

set_option maxHeartbeats 4000000 in
set_option maxRecDepth 100000 in
theorem down_any (A g cap n : Nat) (d : Array En) (w : World) (hc : w.cell? ⟨A, 0, none⟩ = some (.slice (some ⟨g, 0, none⟩) d.size cap)) (hA : A ≠ g) (hR : RowN w g cap d) (hn : n ≤ d.size) (hD : Dn d n 0) (hs : d.size < 1000000) :
    Calls Try.prog 49 #[.iface 79 (.pointer (some ⟨A, 0, none⟩)), .int .i64 0, .int .i64 n] w fun e w' => BoolOut e ∧ Hpd w g cap n d w' := by
  have HC := Lib.hid hc
  have HS := Lib.hid (Hst.start n hR)
  have HU := Lib.hid hD
  clear hc hR hD
  go_enter Try.func49, Try.ntmps49
  go_wp2
  go_loopw [7] (fun s wr => ∃ (i : Nat) (dk : Array En), s = .int .i64 i ∧ i ≤ n ∧ Hid (Dn dk n i) ∧ Hid (Hst w g cap n d dk wr)) (fun s _ => n - (intOf s).toNat)
  case atStart => exact ⟨0, d, rfl, Nat.zero_le _, HU, HS⟩
  case round =>
    clear HS HU
    obtain ⟨i, dk, rfl, hi, HU, HK⟩ := hrel
    have hcell := HK.out.cell hA HC.out
    obtain ⟨a, ha⟩ : ∃ a, a = 2 * i + 1 := ⟨_, rfl⟩
    have ea : 2 * (i : Int) + 1 = (a : Int) := by omega
    have HB : Hid (a = 2 * i + 1) := Lib.hid ha
    by_cases h1 : n ≤ a
    · have t1 : decide (n ≤ a) = true := by simpa using h1
      have HE : Hid (Hpd w g cap n d wr) := Lib.hid ⟨dk, HK.out, HU.out.stop fun k k0 hk kp => by omega⟩
      clear HK HU HC ha
      go_wp2
      go_ret
      exact ⟨⟨_, rfl⟩, HE.out⟩
    · have t1 : decide (n ≤ a) = false := by simp; omega
      have t2 : decide ((a : Int) < 0) = false := by simp
      obtain ⟨b, hb⟩ : ∃ b, b = a + 1 := ⟨_, rfl⟩
      have eb : (a : Int) + 1 = (b : Int) := by omega
      have HB' : Hid (b = a + 1) := Lib.hid hb
      have HL := Lib.hid (fun W (hW : Below wr.heap.size wr W) p q (hp : p < n) (hq : q < n) => by
        have := less_any g cap p q dk W ((HK.out.below hW).row) (by rw [HK.out.size]; omega) (by rw [HK.out.size]; omega)
        rw [HK.out.size] at this
        exact this)
      have fl := find_less A _ wr hcell
      have HFl := Lib.hid (fun W (hW : Below wr.heap.size wr W) => find_less A _ W ((HK.out.below hW).cell hA HC.out))
      have HFs := Lib.hid (fun W (hW : Below wr.heap.size wr W) => find_swap A _ W ((HK.out.below hW).cell hA HC.out))
      have HW := Lib.hid (fun W (hW : Below wr.heap.size wr W) j (hj : j < n) => by
        have := swap_any g cap i j dk W ((HK.out.below hW).row) (by rw [HK.out.size]; omega) (by rw [HK.out.size]; omega)
        rw [HK.out.size] at this
        exact this)
      have HE := Lib.hid (fun W (hW : Below wr.heap.size wr W) (hx : ∀ k, 0 < k → k < n → (k - 1) / 2 = i → ltN dk[k]! dk[i]! = false) => (⟨dk, HK.out.below hW, HU.out.stop hx⟩ : Hpd w g cap n d W))
      have HG := Lib.hid (fun W W' (hW : Below wr.heap.size wr W) j (hj : j < n) (hr : RowN W' g cap (swp dk i j)) (hg : W.grownBy W' (some g)) => (HK.out.below hW).swap (by omega) hj hn hr hg)
      have HD := Lib.hid (fun j (j0 : 0 < j) (hji : (j - 1) / 2 = i) (hj : j < n) (hl : ltN dk[j]! dk[i]! = true) (hs : ∀ k, 0 < k → k < n → (k - 1) / 2 = i → ltN dk[k]! dk[j]! = false) => HU.out.step j0 hji hj (by rw [HK.out.size]; exact hn) hl hs)
      clear HK HU HC
      by_cases h2 : b < n
      · have t3 : decide (b < n) = true := by simpa using h2
        have H1 := Lib.hid (HL.out wr (Below.refl _ _) b a (by omega) (by omega))
        cases hl : ltN dk[b]! dk[a]!
        · -- the left one
          rw [hl] at H1
          have HX : Hid (ltN dk[b]! dk[a]! = false) := Lib.hid hl
          have H2 := Lib.hid (fun W hW => HL.out W hW a i (by omega) (by omega))
          cases hm : ltN dk[a]! dk[i]!
          · rw [hm] at H2
            have HY : Hid (ltN dk[a]! dk[i]! = false) := Lib.hid hm
            clear hl hm ha hb HL HFs HW HG HD
            go_wp2_with (first
              | (go_at_call 68; refine H1.out.mono ?_; clear H1; rintro e w1 ⟨rfl, hb1⟩; have f2 := HFl.out w1 hb1; have hw1 := Lib.hid hb1; clear hb1)
              | (go_at_call 68; refine (H2.out w1 hw1.out).mono ?_; clear H2; rintro e w2 ⟨rfl, hb2⟩))
            go_ret
            refine ⟨⟨_, rfl⟩, HE.out _ (below_on hw1.out hb2) fun k k0 hk kp => ?_⟩
            have e1 := HB.out
            have e2 := HB'.out
            rcases (show k = a ∨ k = b by omega) with rfl | rfl
            · exact HY.out
            · exact ltN_not HX.out HY.out
          · rw [hm] at H2
            have HY := Lib.hid (HD.out a (by omega) (by omega) (by omega) hm (fun k k0 hk kp => by
              rcases (show k = a ∨ k = b by omega) with rfl | rfl
              · rw [ltN_no]; omega
              · exact hl))
            have H3 := Lib.hid (fun W hW => HW.out W hW a (by omega))
            clear hl hm ha hb HL HD
            go_wp2_with (first
              | (go_at_call 68; refine H1.out.mono ?_; clear H1; rintro e w1 ⟨rfl, hb1⟩; have f2 := HFl.out w1 hb1; have hw1 := Lib.hid hb1; clear hb1)
              | (go_at_call 68; refine (H2.out w1 hw1.out).mono ?_; clear H2; rintro e w2 ⟨rfl, hb2⟩; have hw2 := Lib.hid (below_on hw1.out hb2); have f3 := HFs.out w2 hw2.out; clear hb2)
              | (go_at_call 69; refine (H3.out w2 hw2.out).mono ?_; rintro e w3 ⟨rfl, hr3, hg3⟩))
            go_roundw
            case rel => exact ⟨a, swp dk i a, by first | trivial | rfl, by omega, HY, Lib.hid (HG.out _ _ hw2.out a (by omega) hr3 hg3)⟩
            case measure => have := HB.out; simp [intOf]; omega
        · -- the right one
          rw [hl] at H1
          have HX : Hid (ltN dk[b]! dk[a]! = true) := Lib.hid hl
          have H2 := Lib.hid (fun W hW => HL.out W hW b i (by omega) (by omega))
          cases hm : ltN dk[b]! dk[i]!
          · rw [hm] at H2
            have HY : Hid (ltN dk[b]! dk[i]! = false) := Lib.hid hm
            clear hl hm ha hb HL HFs HW HG HD
            go_wp2_with (first
              | (go_at_call 68; refine H1.out.mono ?_; clear H1; rintro e w1 ⟨rfl, hb1⟩; have f2 := HFl.out w1 hb1; have hw1 := Lib.hid hb1; clear hb1)
              | (go_at_call 68; refine (H2.out w1 hw1.out).mono ?_; clear H2; rintro e w2 ⟨rfl, hb2⟩))
            go_ret
            refine ⟨⟨_, rfl⟩, HE.out _ (below_on hw1.out hb2) fun k k0 hk kp => ?_⟩
            have e1 := HB.out
            have e2 := HB'.out
            rcases (show k = a ∨ k = b by omega) with rfl | rfl
            · exact ltN_not (ltN_asym HX.out) HY.out
            · exact HY.out
          · rw [hm] at H2
            have HY := Lib.hid (HD.out b (by omega) (by omega) (by omega) hm (fun k k0 hk kp => by
              rcases (show k = a ∨ k = b by omega) with rfl | rfl
              · exact ltN_asym hl
              · rw [ltN_no]; omega))
            have H3 := Lib.hid (fun W hW => HW.out W hW b (by omega))
            clear hl hm ha hb HL HD
            go_wp2_with (first
              | (go_at_call 68; refine H1.out.mono ?_; clear H1; rintro e w1 ⟨rfl, hb1⟩; have f2 := HFl.out w1 hb1; have hw1 := Lib.hid hb1; clear hb1)
              | (go_at_call 68; refine (H2.out w1 hw1.out).mono ?_; clear H2; rintro e w2 ⟨rfl, hb2⟩; have hw2 := Lib.hid (below_on hw1.out hb2); have f3 := HFs.out w2 hw2.out; clear hb2)
              | (go_at_call 69; refine (H3.out w2 hw2.out).mono ?_; rintro e w3 ⟨rfl, hr3, hg3⟩))
            go_roundw
            case rel => exact ⟨b, swp dk i b, by first | trivial | rfl, by omega, HY, Lib.hid (HG.out _ _ hw2.out b (by omega) hr3 hg3)⟩
            case measure => have := HB.out; have := HB'.out; simp [intOf]; omega
      · -- one child
        have t3 : decide (b < n) = false := by simpa using h2
        have H2 := Lib.hid (HL.out wr (Below.refl _ _) a i (by omega) (by omega))
        cases hm : ltN dk[a]! dk[i]!
        · rw [hm] at H2
          have HY : Hid (ltN dk[a]! dk[i]! = false) := Lib.hid hm
          clear hm ha hb HL HFs HW HG HD
          go_wp2_with (go_at_call 68; refine H2.out.mono ?_; clear H2; rintro e w2 ⟨rfl, hb2⟩)
          go_ret
          refine ⟨⟨_, rfl⟩, HE.out _ hb2 fun k k0 hk kp => ?_⟩
          have e1 := HB.out
          have e2 := HB'.out
          obtain rfl : k = a := by omega
          exact HY.out
        · rw [hm] at H2
          have HY := Lib.hid (HD.out a (by omega) (by omega) (by omega) hm (fun k k0 hk kp => by
            obtain rfl : k = a := by omega
            rw [ltN_no]; omega))
          have H3 := Lib.hid (fun W hW => HW.out W hW a (by omega))
          clear hm ha hb HL HD
          go_wp2_with (first
            | (go_at_call 68; refine H2.out.mono ?_; clear H2; rintro e w2 ⟨rfl, hb2⟩; have hw2 := Lib.hid hb2; have f3 := HFs.out w2 hw2.out; clear hb2)
            | (go_at_call 69; refine (H3.out w2 hw2.out).mono ?_; rintro e w3 ⟨rfl, hr3, hg3⟩))
          go_roundw
          case rel => exact ⟨a, swp dk i a, by first | trivial | rfl, by omega, HY, Lib.hid (HG.out _ _ hw2.out a (by omega) hr3 hg3)⟩
          case measure => have := HB.out; simp [intOf]; omega

end Go.Proofs.Ytaphhgiocahnhaa
