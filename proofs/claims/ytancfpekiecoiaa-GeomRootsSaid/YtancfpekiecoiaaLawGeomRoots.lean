/-
  The walk of the law GeomRoots: it returns true for every word and any two slices of words; nothing that was there is written.
-/
import Derived.Test.YtancfpekiecoiaaGeomRoots
import Derived.Test.YtancfpekiecoiaaGeomSum
import Derived.Test.YtancfpekiecoiaaRows2
namespace Go.Proofs.Ytancfpekiecoiaa
open Go.RowKit

/-- Are the first k numbers of xs nothing, by p? -/
def nought (p : Int) (xs : List Int) (k : Nat) : Bool := (List.range k).all fun j => Fp.red p (xs.getD j 0) == 0
theorem nought_succ (p : Int) (xs : List Int) (k : Nat) : nought p xs (k + 1) = (nought p xs k && (Fp.red p (xs.getD k 0) == 0)) := by
  unfold nought; rw [List.range_succ, List.all_append]; simp
theorem nought_all {p : Int} {xs : List Int} {k : Nat} (h : nought p xs k = true) : ∀ j, j < k → Fp.red p (xs.getD j 0) = 0 := fun j hj => by
  have := List.all_eq_true.1 h j (List.mem_range.2 hj)
  simpa using this
theorem nought_not {p : Int} {xs : List Int} {k : Nat} (h : nought p xs k = false) : ∃ j, j < k ∧ Fp.red p (xs.getD j 0) ≠ 0 := by
  obtain ⟨j, hj, e⟩ := List.all_eq_false.1 h
  exact ⟨j, List.mem_range.1 hj, by simpa using e⟩

theorem Roots_no (p : Int) (x y : Option Addr) (n m cap cap' : Nat) (xs ss : List Int) (w : World) (h : Fp.kn p = false) (hx : Reads .u64 w w.heap.size x xs) (hy : Reads .u64 w w.heap.size y ss) (hn : xs.length = n) (hm : ss.length = m) (hw : Words xs) (hw' : Words ss) (hl : n ≤ 30) (hl' : m ≤ 60) :
    Calls Try.prog 12 #[.int .u64 p, .slice x n cap, .slice y m cap'] w (RetB (.tuple #[.int .i64 0, .int .i64 2]) w) := by
  have := Roots_any p x y n m cap cap' xs ss w hx hy hn hm hw hw' (by omega) (by omega)
  rwa [rootsN_no (by rw [rootsE_no h]; decide), rootsE_no h] at this

set_option maxRecDepth 100000 in
set_option maxHeartbeats 2000000 in
theorem geomroots_main (p : Int) (x y : Option Addr) (n m cap cap' : Nat) (xs ss : List Int) (w : World) (h : Fp.kn p = true) (hx : Reads .u64 w w.heap.size x xs) (hy : Reads .u64 w w.heap.size y ss) (hn : xs.length = n) (hm : ss.length = m) (hw : Words xs) (hw' : Words ss) (hl : n ≤ 30) (hl' : m ≤ 60) :
    Calls Try.prog 6 #[.int .u64 p, .slice x n cap, .slice y m cap'] w fun e w' => e = .returned (.bool true) ∧ Below w.heap.size w w' := by
  have hd1 : decide (30 < (n : Int)) = false := by simp; omega
  have hd2 : decide (60 < (m : Int)) = false := by simp; omega
  have H1 := Lib.hid (fun W (hB : Below w.heap.size w W) => roots_yes p x y n m cap cap' xs ss W h ((hx.below hB).more hB.size) ((hy.below hB).more hB.size) hn hm hw hw' (by omega) (by omega))
  have H2 := Lib.hid (fun W (hB : Below w.heap.size w W) => roots_yes p none y 0 m 0 cap' [] ss W h Reads.nil ((hy.below hB).more hB.size) rfl hm (fun j => by simp) hw' (by omega) (by omega))
  have q1 : Fp.rts p xs ss m ≤ Fp.rts p [] ss m := Fp.rts_mono h m
  have q2 := Fp.rts_le p [] ss m
  have q3 : Hid (nought p xs n = true → Fp.rts p xs ss m = Fp.rts p [] ss m) := Lib.hid (fun e => Fp.rts_noughts h (by rw [hn]; exact nought_all e) m)
  have q4 : Hid (nought p xs n = false → Fp.rts p xs ss m < n) := Lib.hid (fun e => by obtain ⟨j, hj, hne⟩ := nought_not e; rw [← hn]; exact Fp.rts_lt h (by omega) hne)
  have HNS := Lib.hid (nought_succ p xs)
  have HX := Lib.hid hx
  have HW := Lib.hid hw
  have HN := Lib.hid hn
  obtain ⟨c, hc⟩ : ∃ c, c = Fp.rts p xs ss m := ⟨_, rfl⟩
  obtain ⟨c', hc'⟩ : ∃ c, c = Fp.rts p [] ss m := ⟨_, rfl⟩
  rw [← hc] at q1 q3 q4 H1
  rw [← hc'] at q1 q2 q3 H2
  clear hc hc' h hx hy hw hw' hm hn
  go_enter Try.func6, Try.ntmps6
  go_wp2_with (first
    | (go_at_call 7; refine (live8_any _).mono ?_; rintro e w' ⟨rfl, nd, rfl⟩)
    | (go_at_call 12; refine (H1.out _ (draws_below _ w nd)).mono ?_; rintro e w2 ⟨rfl, b2⟩))
  have B2 := Lib.hid (below_of_draws b2)
  clear b2 H1
  go_loop [9, 42] (fun t i => ∃ (k : Nat) (q : Bool), k ≤ n ∧ i = .int .i64 (k : Int) ∧ t = .bool q ∧ nought p xs k = q) (fun _ i => n - (intOf i).toNat)
  case atStart => exact ⟨0, true, Nat.zero_le _, rfl, rfl, rfl⟩
  case round =>
    obtain ⟨k, q, hk, rfl, rfl, hq⟩ := hrel
    by_cases hlt : k < n
    · have hdk : decide (k < n) = true := by simpa using hlt
      obtain ⟨b, off, rfl, hb, hcx⟩ := HX.out (by have := HN.out; omega)
      have hx1 := (B2.out.cell (p := ⟨b, off + k, none⟩) hb).trans (hcx k (by have := HN.out; omega))
      obtain ⟨u0, u1⟩ := HW.out k
      have hS := HNS.out k
      obtain ⟨u, hu⟩ : ∃ u, u = xs.getD k 0 := ⟨_, rfl⟩
      rw [← hu] at hx1 u0 u1 hS
      rw [hq] at hS
      have HS := Lib.hid hS
      clear hq hS hu hcx
      cases q with
      | true =>
        go_wp2_with (go_at_call 20; refine (reduce_any _ _ _ (by omega) (by omega)).mono ?_; rintro e w' ⟨rfl, rfl⟩)
        go_round
        case rel => exact ⟨k + 1, _, by omega, by go_num, rfl, by rw [HS.out]; rfl⟩
        case measure => simp [intOf]; omega
      | false =>
        go_wp2
        go_round
        case rel => exact ⟨k + 1, false, by omega, by go_num, rfl, by rw [HS.out]; rfl⟩
        case measure => simp [intOf]; omega
    · obtain rfl : k = n := by omega
      rw [hq] at q3 q4
      clear hq HNS HX HW hlt
      have d1 : decide ((c : Int) < 0) = false := by simp
      have d2 : decide (c' < c) = false := by simp; omega
      have d3 : decide (m < c') = false := by simp; omega
      cases q with
      | true =>
        have e : c = c' := q3.out rfl
        have d4 : ((c : Int) == (c' : Int)) = true := by rw [e]; simp
        clear q3 q4 e
        go_wp2_with (go_at_call 12; refine (H2.out _ B2.out).mono ?_; rintro e w3 ⟨rfl, b3⟩)
        have B3 := Lib.hid (B2.out.trans (b3.mono B2.out.size))
        clear b3
        go_ret
        exact ⟨rfl, B3.out⟩
      | false =>
        have e : c < k := q4.out rfl
        have d4 : decide (c < k) = true := by simpa using e
        clear q3 q4 e
        go_wp2_with (go_at_call 12; refine (H2.out _ B2.out).mono ?_; rintro e w3 ⟨rfl, b3⟩)
        have B3 := Lib.hid (B2.out.trans (b3.mono B2.out.size))
        clear b3
        go_ret
        exact ⟨rfl, B3.out⟩

set_option maxRecDepth 100000 in
set_option maxHeartbeats 1000000 in
theorem walk_GeomRoots (p : Int) (x : Option Addr) (len cap : Nat) (zs : List Int) (y : Option Addr) (len' cap' : Nat) (zs' : List Int) (w : World) (_hp : (Lit.int .u64 p).wf = true) (hr : RowIn .u64 w x len cap zs) (hr' : RowIn .u64 w y len' cap' zs') :
    Calls Try.prog 6 #[.int .u64 p, .slice x len cap, .slice y len' cap'] w fun e w' => e = .returned (.bool true) ∧ Below w.heap.size w w' := by
  obtain ⟨xs, -, hn, hcp, hm, hx, hw⟩ := hr.reads
  obtain ⟨ys, -, hn', hcp', hm', hy, hw'⟩ := hr'.reads
  unfold maxLen at hm hm'
  have D := Lib.hid (fun n => draws_below w.heap.size w n)
  by_cases hl : len ≤ 30
  · by_cases hl' : len' ≤ 60
    · cases h : Fp.kn p
      · have hd1 : decide (30 < (len : Int)) = false := by simp; omega
        have hd2 : decide (60 < (len' : Int)) = false := by simp; omega
        have H1 := Lib.hid (fun W (hB : Below w.heap.size w W) => Roots_no p x y len len' cap cap' xs ys W h ((hx.below hB).more hB.size) ((hy.below hB).more hB.size) hn hn' hw hw' hl hl')
        have H := Lib.hid h
        clear hr hr' hx hy hn hn' hw hw' h
        go_enter Try.func6, Try.ntmps6
        go_wp2_with (first
          | (go_at_call 7; refine (live8_any _).mono ?_; rintro e w' ⟨rfl, nd, rfl⟩)
          | (go_at_call 12; refine (H1.out _ (D.out nd)).mono ?_; rintro e w2 ⟨rfl, b2⟩; have B2 := Lib.hid (below_of_draws b2); clear b2)
          | (go_at_call 14; refine (known_no p _ H.out).mono ?_; rintro e w' ⟨rfl, rfl⟩))
        go_ret
        exact ⟨rfl, B2.out⟩
      · exact geomroots_main p x y len len' cap cap' xs ys w h hx hy hn hn' hw hw' hl hl'
    · have hd1 : decide (30 < (len : Int)) = false := by simp; omega
      have hd2 : decide (60 < (len' : Int)) = true := by simp; omega
      clear hr hr' hx hy hn hn' hw hw'
      go_enter Try.func6, Try.ntmps6
      go_wp2_with (go_at_call 7; refine (live8_any _).mono ?_; rintro e w' ⟨rfl, nd, rfl⟩)
      go_ret
      exact ⟨rfl, D.out _⟩
  · have hd1 : decide (30 < (len : Int)) = true := by simp; omega
    clear hr hr' hx hy hn hn' hw hw'
    go_enter Try.func6, Try.ntmps6
    go_wp2_with (go_at_call 7; refine (live8_any _).mono ?_; rintro e w' ⟨rfl, nd, rfl⟩)
    go_ret
    exact ⟨rfl, D.out _⟩

end Go.Proofs.Ytancfpekiecoiaa
