/-
  The walk of the law PowerAll: it returns true for every word and every slice of words; nothing that was there is written.
-/
import Derived.Test.YtceccconfnlggaaAll
import Derived.Test.YtceccconfnlggaaLawPow
namespace Go.Proofs.Ytceccconfnlggaa
open Go.RowKit

/-- Is one of the first k numbers 0 by p? -/
def noughtIn (p : Int) (xs : List Int) : Nat → Bool
  | 0 => false
  | k + 1 => noughtIn p xs k || (Fp.red p (xs.getD k 0) == 0)
theorem noughtIn_iff (p : Int) (xs : List Int) : ∀ k, noughtIn p xs k = true ↔ ∃ j, j < k ∧ Fp.red p (xs.getD j 0) = 0
  | 0 => by simp [noughtIn]
  | k + 1 => by
    rw [noughtIn, Bool.or_eq_true, noughtIn_iff p xs k, beq_iff_eq]
    constructor
    · rintro (⟨j, hj, e⟩ | e)
      · exact ⟨j, by omega, e⟩
      · exact ⟨k, by omega, e⟩
    · rintro ⟨j, hj, e⟩
      by_cases hji : j = k
      · exact .inr (hji ▸ e)
      · exact .inl ⟨j, by omega, e⟩
theorem maps_get (p : Int) (xs : List Int) {j : Nat} (hj : j < xs.length) : (xs.map (Fp.inv p)).getD j 0 = Fp.inv p (xs.getD j 0) := by simp [hj]

set_option maxHeartbeats 1000000 in
theorem powerall_no (p : Int) (x : Option Addr) (n cap : Nat) (xs : List Int) (w : World) (h : Fp.kn p = false) (hx : Reads .u64 w w.heap.size x xs) (hn : xs.length = n) (hl : n ≤ 40) :
    Calls Try.prog 6 #[.int .u64 p, .slice x n cap] w fun e w' => e = .returned (.bool true) ∧ Below w.heap.size w w' := by
  subst hn
  have H := Lib.hid h; clear h
  have HX := Lib.hid hx; clear hx
  have hdl : decide (40 < (xs.length : Int)) = false := by simp; omega
  go_enter Try.func6, Try.ntmps6
  go_wp2_with (go_at_call 8; refine (plive_any _).mono ?_; rintro e w' ⟨rfl, nd, rfl⟩)
  refine (all_noprime p x _ cap _ H.out).mono ?_
  rintro e w1 ⟨rfl, hB⟩
  have hD : Below w.heap.size w w1 := below_of_draws hB
  clear hB
  go_wp2_with fail
  go_loopw [7, 25] (fun b i wr => ∃ k m : Nat, k ≤ xs.length ∧ i = .int .i64 k ∧ b = .bool false ∧ wr = w1.drewN m) (fun _ i _ => xs.length - (intOf i).toNat)
  case atStart => exact ⟨0, 0, Nat.zero_le _, rfl, rfl, rfl⟩
  case round =>
    obtain ⟨k, m, hk, rfl, rfl, rfl⟩ := hrel
    by_cases hlt : k < xs.length
    · obtain ⟨b, off, rfl, hb, hc⟩ := (HX.out.below hD) (by omega)
      have c1 := hc k hlt
      obtain ⟨u, hu⟩ : ∃ u, u = xs.getD k 0 := ⟨_, rfl⟩
      rw [← hu] at c1
      clear hu hc HX
      go_wp2_with (go_at_call 9; refine (inv_noprime _ _ _ H.out).mono ?_; rintro e w' ⟨rfl, nd, rfl⟩)
      go_roundw
      case rel => exact ⟨k + 1, _, by omega, by go_num, rfl, rfl⟩
      case measure => simp [intOf]; omega
    · clear HX
      go_wp2_with (go_at_call 19; refine (known_no _ _ H.out).mono ?_; rintro e w' ⟨rfl, rfl⟩)
      go_ret
      exact ⟨rfl, below_draws hD _⟩

set_option maxHeartbeats 1000000 in
theorem powerall_zero (p : Int) (x : Option Addr) (n cap : Nat) (xs : List Int) (w : World) (h : Fp.kn p = true) (hx : Reads .u64 w w.heap.size x xs) (hn : xs.length = n) (hl : n ≤ 40) (hw : Words xs) (hz : Fp.pre p xs xs.length = 0) :
    Calls Try.prog 6 #[.int .u64 p, .slice x n cap] w fun e w' => e = .returned (.bool true) ∧ Below w.heap.size w w' := by
  subst hn
  have hnt : Hid (noughtIn p xs xs.length = true) := Lib.hid ((noughtIn_iff p xs _).2 ((Fp.pre_zero h xs _).1 hz))
  have H := Lib.hid h; clear h
  have HX := Lib.hid hx; clear hx
  have HW := Lib.hid hw; clear hw
  have HZ := Lib.hid hz; clear hz
  have hdl : decide (40 < (xs.length : Int)) = false := by simp; omega
  go_enter Try.func6, Try.ntmps6
  go_wp2_with (go_at_call 8; refine (plive_any _).mono ?_; rintro e w' ⟨rfl, nd, rfl⟩)
  refine (all_zero p x _ cap xs (w.drewN nd) H.out (HX.out.draws nd) rfl HW.out (by omega) HZ.out).mono ?_
  rintro e w1 ⟨rfl, hB⟩
  have hD : Below w.heap.size w w1 := below_of_draws hB
  clear hB
  go_wp2_with fail
  go_loopw [7, 25] (fun b i wr => ∃ (k m : Nat) (o : Bool), k ≤ xs.length ∧ i = .int .i64 k ∧ b = .bool o ∧ wr = w1.drewN m ∧ Hid (o = noughtIn p xs k)) (fun _ i _ => xs.length - (intOf i).toNat)
  case atStart => exact ⟨0, 0, false, Nat.zero_le _, rfl, rfl, rfl, Lib.hid rfl⟩
  case round =>
    obtain ⟨k, m, o, hk, rfl, rfl, rfl, HO⟩ := hrel
    by_cases hlt : k < xs.length
    · obtain ⟨b, off, rfl, hb, hc⟩ := (HX.out.below hD) (by omega)
      have c1 := hc k hlt
      obtain ⟨u0, u1⟩ := HW.out k
      obtain ⟨u, hu⟩ : ∃ u, u = xs.getD k 0 := ⟨_, rfl⟩
      have HN : Hid (noughtIn p xs (k + 1) = (noughtIn p xs k || (Fp.red p u == 0))) := Lib.hid (by rw [hu]; rfl)
      rw [← hu] at c1 u0 u1
      clear hu hc HX
      by_cases hz : Fp.red p u = 0
      · have HZ := Lib.hid hz
        have HE : Hid (true = noughtIn p xs (k + 1)) := Lib.hid (by rw [HN.out, hz]; simp)
        clear hz
        cases o
        all_goals
          go_wp2_with (go_at_call 9; refine (inv_zero _ _ _ H.out u0 u1 HZ.out).mono ?_; rintro e w' ⟨rfl, nd, rfl⟩)
          go_roundw
          case rel => exact ⟨k + 1, _, true, by omega, by go_num, rfl, rfl, HE⟩
          case measure => simp [intOf]; omega
      · have HZ := Lib.hid hz
        have HE : Hid (o = noughtIn p xs (k + 1)) := Lib.hid (by rw [HN.out, HO.out, beq_eq_false_iff_ne.2 hz, Bool.or_false])
        clear hz
        cases o
        all_goals
          go_wp2_with (go_at_call 9; refine (inv_yes _ _ _ H.out u0 u1 HZ.out).mono ?_; rintro e w' ⟨rfl, nd, rfl⟩)
          go_roundw
          case rel => exact ⟨k + 1, _, _, by omega, by go_num, rfl, rfl, HE⟩
          case measure => simp [intOf]; omega
    · clear HX
      obtain rfl : k = xs.length := by omega
      obtain rfl : o = true := HO.out.trans hnt.out
      go_wp2_with (go_at_call 19; refine (known_yes _ _ H.out).mono ?_; rintro e w' ⟨rfl, rfl⟩)
      go_ret
      exact ⟨rfl, below_draws hD _⟩

set_option maxHeartbeats 1000000 in
theorem powerall_yes (p : Int) (x : Option Addr) (n cap : Nat) (xs : List Int) (w : World) (h : Fp.kn p = true) (hx : Reads .u64 w w.heap.size x xs) (hn : xs.length = n) (hl : n ≤ 40) (hw : Words xs) (hz : Fp.pre p xs xs.length ≠ 0) :
    Calls Try.prog 6 #[.int .u64 p, .slice x n cap] w fun e w' => e = .returned (.bool true) ∧ Below w.heap.size w w' := by
  subst hn
  have hall : Hid (∀ j, j < xs.length → Fp.red p (xs.getD j 0) ≠ 0) := Lib.hid (fun j hj e => hz ((Fp.pre_zero h xs _).2 ⟨j, hj, e⟩))
  have H := Lib.hid h; clear h
  have HX := Lib.hid hx; clear hx
  have HW := Lib.hid hw; clear hw
  have HZ := Lib.hid hz; clear hz
  have hdl : decide (40 < (xs.length : Int)) = false := by simp; omega
  go_enter Try.func6, Try.ntmps6
  go_wp2_with (go_at_call 8; refine (plive_any _).mono ?_; rintro e w' ⟨rfl, nd, rfl⟩)
  refine (all_yes p x _ cap xs (w.drewN nd) H.out (HX.out.draws nd) rfl HW.out (by omega) HZ.out).mono ?_
  rintro e w1 ⟨v, rfl, hO, hB⟩
  obtain ⟨y, cap2, rfl, hcap, hmax, hR, -⟩ := hO.form
  rw [List.length_map] at hcap ⊢
  have HR := Lib.hid hR; clear hR hO
  have hD : Below w.heap.size w w1 := below_of_draws hB
  clear hB
  go_wp2_with fail
  go_loopw [7, 25] (fun b i wr => ∃ k m : Nat, k ≤ xs.length ∧ i = .int .i64 k ∧ b = .bool false ∧ wr = w1.drewN m) (fun _ i _ => xs.length - (intOf i).toNat)
  case atStart => exact ⟨0, 0, Nat.zero_le _, rfl, rfl, rfl⟩
  case round =>
    obtain ⟨k, m, hk, rfl, rfl, rfl⟩ := hrel
    by_cases hlt : k < xs.length
    · obtain ⟨b, off, rfl, hb, hc⟩ := (HX.out.below hD) (by omega)
      obtain ⟨b', off', rfl, hb', hc'⟩ := HR.out (by rw [List.length_map]; omega)
      have c1 := hc k hlt
      have c2 := hc' k (by rw [List.length_map]; omega)
      rw [maps_get p xs hlt] at c2
      obtain ⟨u0, u1⟩ := HW.out k
      have hnz := hall.out k hlt
      obtain ⟨u, hu⟩ : ∃ u, u = xs.getD k 0 := ⟨_, rfl⟩
      rw [← hu] at c1 c2 u0 u1 hnz
      have HNZ := Lib.hid hnz
      have t : (Fp.inv p u != Fp.inv p u) = false := by simp
      clear hu hc hc' HX HR hnz
      go_wp2_with (go_at_call 9; refine (inv_yes _ _ _ H.out u0 u1 HNZ.out).mono ?_; rintro e w' ⟨rfl, nd, rfl⟩)
      go_roundw
      case rel => exact ⟨k + 1, _, by omega, by go_num, rfl, rfl⟩
      case measure => simp [intOf]; omega
    · clear HX HR
      go_wp2_with (go_at_call 19; refine (known_yes _ _ H.out).mono ?_; rintro e w' ⟨rfl, rfl⟩)
      go_ret
      exact ⟨rfl, below_draws hD _⟩

theorem walk_PowerAll (p : Int) (x : Option Addr) (len cap : Nat) (zs : List Int) (w : World) (_hp : (Lit.int .u64 p).wf = true) (hr : RowIn .u64 w x len cap zs) :
    Calls Try.prog 6 #[.int .u64 p, .slice x len cap] w fun e w' => e = .returned (.bool true) ∧ Below w.heap.size w w' := by
  obtain ⟨xs, hn, hc, hm, hx, hw⟩ := hr.reads
  unfold maxLen at hm
  by_cases hl : len ≤ 40
  · cases h : Fp.kn p
    · exact powerall_no p x len cap xs w h hx hn hl
    · by_cases hz : Fp.pre p xs xs.length = 0
      · exact powerall_zero p x len cap xs w h hx hn hl hw hz
      · exact powerall_yes p x len cap xs w h hx hn hl hw hz
  · have hl' : (40 : Int) < len := by omega
    have D := Lib.hid (fun n => draws_below w.heap.size w n)
    clear hn hx hw hr
    go_enter Try.func6, Try.ntmps6
    go_wp2_with (go_at_call 8; refine (plive_any _).mono ?_; rintro e w' ⟨rfl, nd, rfl⟩)
    go_ret
    exact ⟨rfl, D.out _⟩

end Go.Proofs.Ytceccconfnlggaa
