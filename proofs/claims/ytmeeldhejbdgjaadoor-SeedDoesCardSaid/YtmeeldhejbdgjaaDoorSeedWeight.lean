/-
  What Weight of package seed comes to, over every input; and the example.
-/
import Derived.Test.YtmeeldhejbdgjaaDoorWeights
import Derived.Test.YtmeeldhejbdgjaaDoorGrids
namespace Go.Proofs.YtmeeldhejbdgjaaDoor
open Go.RowKit Go.Shelf

/-- What Weight tells. -/
def wtE (p : Int) (a : Ax) (i : Int) : Int := if gridE p [a] ≠ 0 then gridE p [a] else if i < 0 ∨ a.n ≤ i then 1 else 0
def wtR (p : Int) (a : Ax) (inv : Bool) (i z : Int) : Int := if wtE p a i = 0 then wtN p a.neg inv a.n.toNat i.toNat z else 0
section
variable {p : Int} {a : Ax} {i : Int}
theorem wtE_grid (h : gridE p [a] ≠ 0) : wtE p a i = gridE p [a] := by unfold wtE; rw [if_pos h]
theorem wtE_arg (h : gridE p [a] = 0) (hi : i < 0 ∨ a.n ≤ i) : wtE p a i = 1 := by unfold wtE; rw [if_neg (by simp [h]), if_pos hi]
theorem wtE_ok (h : gridE p [a] = 0) (hi : ¬ (i < 0 ∨ a.n ≤ i)) : wtE p a i = 0 := by unfold wtE; rw [if_neg (by simp [h]), if_neg hi]
theorem wtR_no (h : wtE p a i ≠ 0) (inv : Bool) (z : Int) : wtR p a inv i z = 0 := by unfold wtR; rw [if_neg h]
theorem wtR_yes (h : wtE p a i = 0) (inv : Bool) (z : Int) : wtR p a inv i z = wtN p a.neg inv a.n.toNat i.toNat z := by unfold wtR; rw [if_pos h]
theorem wtR_bd (p : Int) (a : Ax) (inv : Bool) (i z : Int) : 0 ≤ wtR p a inv i z ∧ wtR p a inv i z < 18446744069414584321 := by
  unfold wtR; split
  · obtain ⟨a, b, -⟩ := wtN_bd p a.neg inv a.n.toNat i.toNat z; exact ⟨a, b⟩
  · omega
end

/-- One axis in memory. -/
theorem reads_one {w : World} {g : Nat} {t : TypeId} {a : Ax} (h : w.heap[g]? = some (.cells #[.int .i64 a.n, .bool a.neg] t)) (hg : g < w.heap.size) : ReadsA w w.heap.size (some ⟨g, 0, none⟩) [a] := fun _ => ⟨g, 0, rfl, hg, fun j hj => by
  obtain rfl : j = 0 := by simp at hj; exact hj
  refine ⟨?_, ?_⟩
  · rw [cell_of_row w g _ _ _ _ h]; rfl
  · rw [cell_of_row w g _ _ _ _ h]; rfl⟩

set_option maxRecDepth 100000 in
set_option maxHeartbeats 2000000 in
theorem Weight_any (p : Int) (a : Ax) (inv : Bool) (i z : Int) (w : World) (hG : Gl w) (ha : -9223372036854775808 ≤ a.n ∧ a.n < 9223372036854775808) (hi : -9223372036854775808 ≤ i ∧ i < 9223372036854775808) (z0 : 0 ≤ z) (z1 : z < 18446744073709551616) :
    Calls Tryd.prog 9 #[.int .u64 p, .agg #[.int .i64 a.n, .bool a.neg], .bool inv, .int .i64 i, .int .u64 z] w (RetB (.tuple #[.int .u64 (wtR p a inv i z), .int .i64 (wtE p a i)]) w) := by
  obtain ⟨W1, hW1⟩ : ∃ W1, W1 = (w.alloc (.cells #[.int .i64 a.n, .bool a.neg] 26)).alloc (.cells #[.int .i64 a.n, .bool a.neg] 26) := ⟨_, rfl⟩
  have hB1 : Below w.heap.size w W1 := by rw [hW1]; exact below_al (below_al (Below.refl _ _) _) _
  have s1 : W1.heap.size = w.heap.size + 1 + 1 := by rw [hW1, World.size_alloc, World.size_alloc]
  have hr1 : ReadsA W1 W1.heap.size (some ⟨w.heap.size + 1, 0, none⟩) [a] := reads_one (by
    have := heap_alloc_new (w.alloc (.cells #[.int .i64 a.n, .bool a.neg] 26)) (.cells #[.int .i64 a.n, .bool a.neg] 26)
    rw [World.size_alloc] at this
    rw [hW1]; exact this) (by omega)
  have HC := Lib.hid (check7_any p (some ⟨w.heap.size + 1, 0, none⟩) 1 1 [a] W1 (hG.then hB1) hr1 rfl (by omega))
  rw [hW1] at HC
  by_cases hE : gridE p [a] = 0
  · have hA := gridE_zero hE
    have l1 := hA.L (a := 0) (by simp)
    have l2 := hA.L_le (a := 0) (by simp)
    have hdv := hA.dvd' (a := 0) (by simp)
    have hint := hA.int (a := 0) (by simp)
    have hkn := hA.kn
    obtain ⟨an, ag⟩ := a
    obtain ⟨L, hL⟩ : ∃ L, L = gL [(⟨an, ag⟩ : Ax)] 0 := ⟨_, rfl⟩
    rw [← hL] at l1 l2 hdv hint
    obtain rfl : an = (L : Int) := hint
    rw [hE] at HC
    have hB0 : Below (w.alloc (.cells #[.int .i64 (L : Int), .bool ag] 26)).heap.size (w.alloc (.cells #[.int .i64 (L : Int), .bool ag] 26)) W1 := by rw [hW1]; exact below_al (Below.refl _ _) _
    have HB0 := Lib.hid hB0
    have HB1 := Lib.hid hB1
    have HG := Lib.hid hG
    rw [hW1] at HB0 HB1
    dsimp only at HC ha HB0 HB1
    by_cases hin : i < 0 ∨ (L : Int) ≤ i
    · have e := wtE_arg (a := ⟨(L : Int), ag⟩) hE hin
      rw [wtR_no (by rw [e]; decide), e]
      by_cases h0 : i < 0
      · have d1 : decide (i < 0) = true := by simpa using h0
        clear hE hG hr1 hB1 s1 hW1 hA hdv hkn hL hB0 e hin
        go_enter Tryd.func9, Tryd.ntmps9
        go_wp2_with (go_at_call 28; refine HC.out.mono ?_; rintro e w1 ⟨rfl, b1⟩; obtain ⟨bx, -, -⟩ := box_call (below_then HB0.out b1); have B1 := Lib.hid (below_then HB1.out b1); clear b1)
        go_ret2
        exact ⟨rfl, B1.out⟩
      · have d1 : decide (i < 0) = false := by simpa using h0
        have h1 : (L : Int) ≤ i := by omega
        have d2 : decide ((L : Int) ≤ i) = true := by simpa using h1
        clear hE hG hr1 hB1 s1 hW1 hA hdv hkn hL hB0 e hin
        go_enter Tryd.func9, Tryd.ntmps9
        go_wp2_with (go_at_call 28; refine HC.out.mono ?_; rintro e w1 ⟨rfl, b1⟩; obtain ⟨bx, -, -⟩ := box_call (below_then HB0.out b1); have B1 := Lib.hid (below_then HB1.out b1); clear b1)
        go_ret2
        exact ⟨rfl, B1.out⟩
    · have e := wtE_ok (a := ⟨(L : Int), ag⟩) hE hin
      rw [wtR_yes e, e]
      obtain ⟨k, rfl⟩ : ∃ k : Nat, i = (k : Int) := ⟨i.toNat, by omega⟩
      have hk : k < L := by omega
      have h0 : ¬ ((k : Int) < 0) := by omega
      have d2 : decide ((L : Int) ≤ (k : Int)) = false := by simp; omega
      dsimp only
      rw [Int.toNat_natCast, Int.toNat_natCast]
      have HT := Lib.hid (fun W (hB : Below w.heap.size w W) => course_any p L ag inv W (HG.out.then hB) hkn l1 l2 hdv)
      have HWt := Lib.hid (fun W => cweight_any p L (crs p ag inv L) (Fp.pw p (crs p ag inv L).start k) (Fp.pw p (crs p ag inv L).step k) z W hkn l2 ⟨(crs_bd p ag inv L).1, (crs_bd p ag inv L).2.2.1⟩ (Fp.pw_bd _ _ _).1 (by have := Fp.pw_bd p (crs p ag inv L).start k; omega) (Fp.pw_bd _ _ _).1 (by have := Fp.pw_bd p (crs p ag inv L).step k; omega) z0 z1)
      rw [crs_wt hkn] at HWt
      obtain ⟨-, hs, -, ht⟩ := crs_bd p ag inv L
      generalize wtN p ag inv L k z = res at HWt ⊢
      obtain ⟨c, hc⟩ : ∃ c, c = crs p ag inv L := ⟨_, rfl⟩
      rw [← hc] at HT HWt hs ht
      obtain ⟨ca, cs, cu, ct⟩ := c
      unfold crsV at HT HWt
      dsimp only at HT HWt hs ht
      obtain ⟨hs0, hs1⟩ := hs
      obtain ⟨ht0, ht1⟩ := ht
      clear hE hG hr1 hB1 s1 hW1 hA hdv hkn hL hB0 e hin hc h0
      go_enter Tryd.func9, Tryd.ntmps9
      go_wp2_with (first
        | (go_at_call 28; refine HC.out.mono ?_; rintro e w1 ⟨rfl, b1⟩; obtain ⟨bx, bxg, hs1w⟩ := box_call (below_then HB0.out b1); have B1 := Lib.hid (below_then HB1.out b1); have B1' := Lib.hid (below_then HB0.out b1); clear b1)
        | (go_at_call 29; refine (HT.out _ B1.out).mono ?_; rintro e w2 ⟨rfl, b2⟩; obtain ⟨bx2, -, hs2w⟩ := box_call (below_then B1'.out b2); have B2 := Lib.hid (below_then B1.out b2); clear b2 bx bxg hs1w))
      go_quiet (first | (go_at_call 23; exact Calls.quiet_of (pow_any _ _ _ _ (by omega) (by omega) (by omega) (by omega))))
      simp only [Int.toNat_natCast]
      go_wp2_with (go_at_call 30; refine (HWt.out _).mono ?_; rintro e w3 ⟨rfl, b3⟩)
      go_ret2
      exact ⟨rfl, below_then (below_draws (below_al B2.out _) nq) b3⟩
  · rw [wtR_no (by rw [wtE_grid hE]; exact hE), wtE_grid hE]
    have t := ne_of_bne hE
    have HB1 := Lib.hid hB1
    generalize gridE p [a] = er at HC t ⊢
    obtain ⟨an, ag⟩ := a
    dsimp only at HC ha ⊢
    rw [hW1] at HB1
    dsimp only at HB1
    clear hE hG hr1 hB1 s1 hW1
    go_enter Tryd.func9, Tryd.ntmps9
    go_wp2_with (go_at_call 28; refine HC.out.mono ?_; rintro e w1 ⟨rfl, b1⟩; have B1 := Lib.hid (below_then HB1.out b1); clear b1)
    go_ret2
    exact ⟨rfl, B1.out⟩

end Go.Proofs.YtmeeldhejbdgjaaDoor
