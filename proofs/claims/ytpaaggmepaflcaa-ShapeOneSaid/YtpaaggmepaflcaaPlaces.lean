/-
  What shape.Inner, Flat and Line come to, and the document's own Inner and Flat.
-/
import Derived.Test.YtpaaggmepaflcaaShape
namespace Go.Proofs.Ytpaaggmepaflcaa
open Go.RowKit

theorem inner_no (ds : List Int) (no : Sh.No ds) (a : Int) (x : Option Addr) (n cap : Nat) (w : World) (B : Nat) (hx : Reads .i64 w B x ds) (hn : ds.length = n) :
    Calls Try.prog 14 #[.slice x n cap, .int .i64 a] w (RetN 0 3 w) := by
  have HA := Lib.hid (all_no ds no x n cap w B hx hn)
  clear no hx hn
  go_enter Try.func14, Try.ntmps14
  go_wp2_with (go_at_call 8; refine HA.out.mono ?_; rintro e w' ⟨rfl, rfl⟩)
  go_ret2
  exact ⟨rfl, rfl⟩

theorem inner_arg (ns : List Nat) (ok : Sh.Ok ns) (a : Int) (ha : ¬ (0 ≤ a ∧ a < (ns.length : Int))) (x : Option Addr) (n cap : Nat) (w : World) (B : Nat) (hx : Reads .i64 w B x (Sh.ints ns)) (hn : ns.length = n) :
    Calls Try.prog 14 #[.slice x n cap, .int .i64 a] w (RetN 0 1 w) := by
  have HA := Lib.hid (all_ok ns ok x n cap w B hx hn)
  by_cases h0 : a < 0
  · have d1 : decide (a < 0) = true := by simpa using h0
    clear ok hx ha hn
    go_enter Try.func14, Try.ntmps14
    go_wp2_with (go_at_call 8; refine HA.out.mono ?_; rintro e w' ⟨rfl, rfl⟩)
    go_ret2
    exact ⟨rfl, rfl⟩
  · have d1 : decide (a < 0) = false := by simpa using h0
    have d2 : decide ((n : Int) ≤ a) = true := by simp; omega
    clear ok hx ha hn
    go_enter Try.func14, Try.ntmps14
    go_wp2_with (go_at_call 8; refine HA.out.mono ?_; rintro e w' ⟨rfl, rfl⟩)
    go_ret2
    exact ⟨rfl, rfl⟩

theorem flat_no (ds : List Int) (no : Sh.No ds) (c : Value) (x : Option Addr) (n cap : Nat) (w : World) (B : Nat) (hx : Reads .i64 w B x ds) (hn : ds.length = n) :
    Calls Try.prog 12 #[.slice x n cap, c] w (RetN 0 3 w) := by
  have HA := Lib.hid (all_no ds no x n cap w B hx hn)
  clear no hx hn
  go_enter Try.func12, Try.ntmps12
  go_wp2_with (go_at_call 8; refine HA.out.mono ?_; rintro e w' ⟨rfl, rfl⟩)
  go_ret2
  exact ⟨rfl, rfl⟩

theorem flat_len (ns : List Nat) (ok : Sh.Ok ns) (y : Option Addr) (m cap' : Nat) (hm : m ≠ ns.length) (x : Option Addr) (n cap : Nat) (w : World) (B : Nat) (hx : Reads .i64 w B x (Sh.ints ns)) (hn : ns.length = n) :
    Calls Try.prog 12 #[.slice x n cap, .slice y m cap'] w (RetN 0 1 w) := by
  have HA := Lib.hid (all_ok ns ok x n cap w B hx hn)
  have d1 : ((m : Int) != (n : Int)) = true := by rw [bne_iff_ne]; omega
  clear ok hx hm hn
  go_enter Try.func12, Try.ntmps12
  go_wp2_with (go_at_call 8; refine HA.out.mono ?_; rintro e w' ⟨rfl, rfl⟩)
  go_ret2
  exact ⟨rfl, rfl⟩

theorem rinner_no (ds : List Int) (no : Sh.No ds) (a : Int) (x : Option Addr) (n cap : Nat) (w : World) (B : Nat) (hx : Reads .i64 w B x ds) (hn : ds.length = n) :
    Calls Try.prog 15 #[.slice x n cap, .int .i64 a] w (RetN 0 3 w) := by
  have HA := Lib.hid (rall_no ds no x n cap w B hx hn)
  clear no hx hn
  go_enter Try.func15, Try.ntmps15
  go_wp2_with (go_at_call 9; refine HA.out.mono ?_; rintro e w' ⟨rfl, rfl⟩)
  go_ret2
  exact ⟨rfl, rfl⟩

theorem rinner_arg (ns : List Nat) (ok : Sh.Ok ns) (a : Int) (ha : ¬ (0 ≤ a ∧ a < (ns.length : Int))) (x : Option Addr) (n cap : Nat) (w : World) (B : Nat) (hx : Reads .i64 w B x (Sh.ints ns)) (hn : ns.length = n) :
    Calls Try.prog 15 #[.slice x n cap, .int .i64 a] w (RetN 0 1 w) := by
  have HA := Lib.hid (rall_ok ns ok x n cap w B hx hn)
  by_cases h0 : a < 0
  · have d1 : decide (a < 0) = true := by simpa using h0
    clear ok hx ha hn
    go_enter Try.func15, Try.ntmps15
    go_wp2_with (go_at_call 9; refine HA.out.mono ?_; rintro e w' ⟨rfl, rfl⟩)
    go_ret2
    exact ⟨rfl, rfl⟩
  · have d1 : decide (a < 0) = false := by simpa using h0
    have d2 : decide ((n : Int) ≤ a) = true := by simp; omega
    clear ok hx ha hn
    go_enter Try.func15, Try.ntmps15
    go_wp2_with (go_at_call 9; refine HA.out.mono ?_; rintro e w' ⟨rfl, rfl⟩)
    go_ret2
    exact ⟨rfl, rfl⟩

theorem rflat_no (ds : List Int) (no : Sh.No ds) (c : Value) (x : Option Addr) (n cap : Nat) (w : World) (B : Nat) (hx : Reads .i64 w B x ds) (hn : ds.length = n) :
    Calls Try.prog 13 #[.slice x n cap, c] w (RetN 0 3 w) := by
  have HA := Lib.hid (rall_no ds no x n cap w B hx hn)
  clear no hx hn
  go_enter Try.func13, Try.ntmps13
  go_wp2_with (go_at_call 9; refine HA.out.mono ?_; rintro e w' ⟨rfl, rfl⟩)
  go_ret2
  exact ⟨rfl, rfl⟩

theorem rflat_len (ns : List Nat) (ok : Sh.Ok ns) (y : Option Addr) (m cap' : Nat) (hm : m ≠ ns.length) (x : Option Addr) (n cap : Nat) (w : World) (B : Nat) (hx : Reads .i64 w B x (Sh.ints ns)) (hn : ns.length = n) :
    Calls Try.prog 13 #[.slice x n cap, .slice y m cap'] w (RetN 0 1 w) := by
  have HA := Lib.hid (rall_ok ns ok x n cap w B hx hn)
  have d1 : ((m : Int) != (n : Int)) = true := by rw [bne_iff_ne]; omega
  clear ok hx hm hn
  go_enter Try.func13, Try.ntmps13
  go_wp2_with (go_at_call 9; refine HA.out.mono ?_; rintro e w' ⟨rfl, rfl⟩)
  go_ret2
  exact ⟨rfl, rfl⟩

set_option maxHeartbeats 1000000 in
theorem inner_ok (ns : List Nat) (ok : Sh.Ok ns) (a : Nat) (ha : a < ns.length) (x : Option Addr) (n cap : Nat) (w : World) (B : Nat) (hx : Reads .i64 w B x (Sh.ints ns)) (hn : ns.length = n) (hc : n ≤ cap) :
    Calls Try.prog 14 #[.slice x n cap, .int .i64 (a : Int)] w (RetN (Sh.prod (ns.drop (a + 1)) : Nat) 0 w) := by
  subst hn
  have HA := Lib.hid (all_ok ns ok x _ cap w B hx rfl)
  have h4 := ok.four
  have d1 : decide ((a : Int) < 0) = false := by simp
  have d2 : decide ((ns.length : Int) ≤ (a : Int)) = false := by simp; omega
  obtain ⟨b, off, rfl, hb, hcs⟩ := hx (by rw [Sh.ints_len]; omega)
  have hy := hx.behind (cap := cap) (by rw [Sh.ints_len]; exact hc) (a + 1)
  rw [Sh.ints_drop] at hy
  have HM := Lib.hid (fun j => ok.le_mid (a + 1) j)
  have hl : Hid ((ns.drop (a + 1)).length = ns.length - (a + 1)) := Lib.hid (by simp)
  have HY := Lib.hid hy
  clear ok hx hcs hy
  generalize ns.drop (a + 1) = ms at HM HY hl ⊢
  go_enter Try.func14, Try.ntmps14
  go_wp2_with (go_at_call 8; refine HA.out.mono ?_; rintro e w' ⟨rfl, rfl⟩)
  all_goals
    first | rw [if_pos h] at HY | rw [if_neg h] at HY
    have hl' := hl.out
    rw [← hl']
    clear HA h d1 d2
    go_loop [8, 32] (fun p i => ∃ k q : Nat, k ≤ ms.length ∧ i = .int .i64 (k : Int) ∧ p = .int .i64 (q : Int) ∧ q = Sh.prod (ms.take k)) (fun _ i => ms.length - (intOf i).toNat)
    case atStart => exact ⟨0, 1, Nat.zero_le _, rfl, rfl, rfl⟩
    case round =>
      obtain ⟨k, q, hk, rfl, rfl, hq⟩ := hrel
      by_cases hlt : k < ms.length
      · obtain ⟨b', off', e, hb', hc'⟩ := HY.out (by rw [Sh.ints_len]; omega)
        cases e
        have c1 := hc' k (by rw [Sh.ints_len]; exact hlt)
        rw [Sh.ints_get] at c1
        obtain ⟨d, hd⟩ : ∃ d, d = ms.getD k 0 := ⟨_, rfl⟩
        obtain ⟨u, hu⟩ : ∃ u, u = Sh.prod (ms.take (k + 1)) := ⟨_, rfl⟩
        have f4 : u ≤ 4096 := by rw [hu]; exact HM.out _
        have f5 : (q : Int) * (d : Int) = (u : Int) := by rw [hq, hd, hu, ← Sh.prod_take ms k hlt, Int.natCast_mul]
        have HU := Lib.hid hu
        rw [← hd] at c1
        clear hq hu hd hc' HY HM
        go_wp2
        go_round
        case rel => exact ⟨k + 1, u, by omega, by congr 1, rfl, HU.out⟩
        case measure => simp [intOf]; omega
      · have HQ : Hid ((q : Int) = ((Sh.prod ms : Nat) : Int)) := Lib.hid (by rw [hq, List.take_of_length_le (by omega)])
        clear HY HM hq
        go_wp2
        go_ret2
        exact ⟨ret_n HQ.out _, rfl⟩

set_option maxHeartbeats 1000000 in
theorem rinner_ok (ns : List Nat) (ok : Sh.Ok ns) (a : Nat) (ha : a < ns.length) (x : Option Addr) (n cap : Nat) (w : World) (B : Nat) (hx : Reads .i64 w B x (Sh.ints ns)) (hn : ns.length = n) (hc : n ≤ cap) :
    Calls Try.prog 15 #[.slice x n cap, .int .i64 (a : Int)] w (RetN (Sh.prod (ns.drop (a + 1)) : Nat) 0 w) := by
  subst hn
  have HA := Lib.hid (rall_ok ns ok x _ cap w B hx rfl)
  have h4 := ok.four
  have d1 : decide ((a : Int) < 0) = false := by simp
  have d2 : decide ((ns.length : Int) ≤ (a : Int)) = false := by simp; omega
  obtain ⟨b, off, rfl, hb, hcs⟩ := hx (by rw [Sh.ints_len]; omega)
  have hy := hx.behind (cap := cap) (by rw [Sh.ints_len]; exact hc) (a + 1)
  rw [Sh.ints_drop] at hy
  have HC := Lib.hid (fun (c : Nat) => behind_any (ns.drop (a + 1)) (Lib.hid (fun j => ok.le_mid (a + 1) j)) (by simp; omega) _ (ns.length - (a + 1)) c w B hy (by simp))
  clear ok hx hcs hy
  go_enter Try.func15, Try.ntmps15
  go_wp2_with (first
    | (go_at_call 9; refine HA.out.mono ?_; rintro e w' ⟨rfl, rfl⟩)
    | (go_at_call 20; refine (HC.out _).mono ?_; rintro e w' ⟨rfl, rfl⟩))
  all_goals
    go_ret2
    exact ⟨rfl, rfl⟩

set_option maxHeartbeats 1000000 in
theorem flat_arg (ns : List Nat) (ok : Sh.Ok ns) (cs : List Int) (hl : cs.length = ns.length) (ho : Sh.Out ns cs) (y : Option Addr) (m cap' : Nat) (x : Option Addr) (n cap : Nat) (w : World) (B : Nat) (hx : Reads .i64 w B x (Sh.ints ns)) (hn : ns.length = n) (hc : n ≤ cap) (hy : Reads .i64 w B y cs) (hm : cs.length = m) :
    Calls Try.prog 12 #[.slice x n cap, .slice y m cap'] w (RetN 0 1 w) := by
  subst hn
  subst hm
  have HA := Lib.hid (all_ok ns ok x _ cap w B hx rfl)
  have h4 := ok.four
  have d1 : ((cs.length : Int) != (ns.length : Int)) = false := by rw [hl]; simp
  obtain ⟨b, off, rfl, hb, hcx⟩ := hx (by rw [Sh.ints_len]; have := ok.one; omega)
  obtain ⟨b', off', rfl, hb', hcy⟩ := hy (by have := ok.one; omega)
  have HCX := Lib.hid hcx
  have HCY := Lib.hid hcy
  have HX := Lib.hid hx
  have HO := Lib.hid ho
  have HK := Lib.hid ok
  have HL := Lib.hid hl
  clear hcx hcy hx hy ho ok hl
  go_enter Try.func12, Try.ntmps12
  go_wp2_with (go_at_call 8; refine HA.out.mono ?_; rintro e w' ⟨rfl, rfl⟩)
  rw [HL.out]
  go_loop [8, 26] (fun p i => ∃ k q : Nat, k ≤ ns.length ∧ i = .int .i64 (k : Int) ∧ p = .int .i64 (q : Int) ∧ q < Sh.prod (ns.take k) ∧ Hid (∀ j, j < k → 0 ≤ cs.getD j 0 ∧ cs.getD j 0 < (ns.getD j 0 : Nat))) (fun _ i => ns.length - (intOf i).toNat)
  case atStart => exact ⟨0, 0, Nat.zero_le _, rfl, rfl, by simp [Sh.prod], Lib.hid (fun j hj => by omega)⟩
  case round =>
    obtain ⟨k, q, hk, rfl, rfl, hq, hg⟩ := hrel
    by_cases hlt : k < ns.length
    · have c1 := HCX.out k (by rw [Sh.ints_len]; exact hlt)
      have c2 := HCY.out k (by rw [HL.out]; exact hlt)
      rw [Sh.ints_get] at c1
      obtain ⟨d, hd⟩ : ∃ d, d = ns.getD k 0 := ⟨_, rfl⟩
      obtain ⟨c, hc'⟩ : ∃ c, c = cs.getD k 0 := ⟨_, rfl⟩
      rw [← hd] at c1
      rw [← hc'] at c2
      have hd4 : d ≤ 4096 := by rw [hd]; exact HK.out.le_at hlt
      have hkc : (k : Int) < (cs.length : Int) := by have := HL.out; omega
      by_cases h0 : c < 0
      · have e1 : decide (c < 0) = true := by simpa using h0
        clear hd hc' HCX HCY HO HK HA HX hg hq
        go_wp2
        go_ret2
        exact ⟨rfl, rfl⟩
      · have e1 : decide (c < 0) = false := by simpa using h0
        by_cases h2 : (d : Int) ≤ c
        · have e2 : decide ((d : Int) ≤ c) = true := by simpa using h2
          clear hd hc' HCX HCY HO HK HA HX hg hq
          go_wp2
          go_ret2
          exact ⟨rfl, rfl⟩
        · have e2 : decide ((d : Int) ≤ c) = false := by simpa using h2
          have hg' : Hid (∀ j, j < k + 1 → 0 ≤ cs.getD j 0 ∧ cs.getD j 0 < (ns.getD j 0 : Nat)) := Lib.hid (fun j hj => by
            by_cases e : j = k
            · rw [e, ← hd, ← hc']; omega
            · exact hg.out j (by omega))
          obtain ⟨v, rfl⟩ : ∃ v : Nat, c = (v : Int) := ⟨c.toNat, by omega⟩
          obtain ⟨r, hr⟩ : ∃ r, r = q * d := ⟨_, rfl⟩
          obtain ⟨s, hs⟩ : ∃ s, s = r + v := ⟨_, rfl⟩
          have f1 : s < Sh.prod (ns.take (k + 1)) := by
            rw [hs, hr]
            exact Sh.acc_lt hq (by omega) (by rw [hd]; exact Sh.prod_take ns k hlt)
          have f2 : s ≤ 4096 := by have := HK.out.le_take (k + 1); omega
          have f3 : (q : Int) * (d : Int) = (r : Int) := by rw [hr, Int.natCast_mul]
          have f4 : (r : Int) + (v : Int) = (s : Int) := by rw [hs, Int.natCast_add]
          have f5 : r ≤ 4096 := by omega
          have F1 := Lib.hid f1
          clear hd hc' HCX HCY HO HK HA HX hg hq hr hs f1
          go_wp2
          go_round
          case rel => exact ⟨k + 1, s, by omega, by congr 1, rfl, F1.out, hg'⟩
          case measure => simp [intOf]; omega
    · exact (HO.out.none HL.out (fun j hj => hg.out j (by omega))).elim

set_option maxHeartbeats 1000000 in
theorem rflat_arg (ns : List Nat) (ok : Sh.Ok ns) (cs : List Int) (hl : cs.length = ns.length) (ho : Sh.Out ns cs) (y : Option Addr) (m cap' : Nat) (x : Option Addr) (n cap : Nat) (w : World) (B : Nat) (hx : Reads .i64 w B x (Sh.ints ns)) (hn : ns.length = n) (hc : n ≤ cap) (hy : Reads .i64 w B y cs) (hm : cs.length = m) :
    Calls Try.prog 13 #[.slice x n cap, .slice y m cap'] w (RetN 0 1 w) := by
  subst hn
  subst hm
  have HA := Lib.hid (rall_ok ns ok x _ cap w B hx rfl)
  have h4 := ok.four
  have d1 : ((cs.length : Int) != (ns.length : Int)) = false := by rw [hl]; simp
  obtain ⟨b, off, rfl, hb, hcx⟩ := hx (by rw [Sh.ints_len]; have := ok.one; omega)
  obtain ⟨b', off', rfl, hb', hcy⟩ := hy (by have := ok.one; omega)
  have HCX := Lib.hid hcx
  have HCY := Lib.hid hcy
  have HX := Lib.hid hx
  have HO := Lib.hid ho
  have HK := Lib.hid ok
  have HL := Lib.hid hl
  clear hcx hcy hx hy ho ok hl
  go_enter Try.func13, Try.ntmps13
  go_wp2_with (go_at_call 9; refine HA.out.mono ?_; rintro e w' ⟨rfl, rfl⟩)
  rw [HL.out]
  go_loop [8, 26] (fun p i => ∃ k q : Nat, k ≤ ns.length ∧ i = .int .i64 (k : Int) ∧ p = .int .i64 (q : Int) ∧ q ≤ 16777216 * k ∧ Hid (∀ j, j < k → 0 ≤ cs.getD j 0 ∧ cs.getD j 0 < (ns.getD j 0 : Nat))) (fun _ i => ns.length - (intOf i).toNat)
  case atStart => exact ⟨0, 0, Nat.zero_le _, rfl, rfl, by omega, Lib.hid (fun j hj => by omega)⟩
  case round =>
    obtain ⟨k, q, hk, rfl, rfl, hq, hg⟩ := hrel
    by_cases hlt : k < ns.length
    · have c1 := HCX.out k (by rw [Sh.ints_len]; exact hlt)
      have c2 := HCY.out k (by rw [HL.out]; exact hlt)
      rw [Sh.ints_get] at c1
      obtain ⟨d, hd⟩ : ∃ d, d = ns.getD k 0 := ⟨_, rfl⟩
      obtain ⟨c, hc'⟩ : ∃ c, c = cs.getD k 0 := ⟨_, rfl⟩
      rw [← hd] at c1
      rw [← hc'] at c2
      have hd4 : d ≤ 4096 := by rw [hd]; exact HK.out.le_at hlt
      have hkc : (k : Int) < (cs.length : Int) := by have := HL.out; omega
      by_cases h0 : c < 0
      · have e1 : decide (c < 0) = true := by simpa using h0
        clear hd hc' HCX HCY HO HK HA HX hg hq
        go_wp2
        go_ret2
        exact ⟨rfl, rfl⟩
      · have e1 : decide (c < 0) = false := by simpa using h0
        by_cases h2 : (d : Int) ≤ c
        · have e2 : decide ((d : Int) ≤ c) = true := by simpa using h2
          clear hd hc' HCX HCY HO HK HA HX hg hq
          go_wp2
          go_ret2
          exact ⟨rfl, rfl⟩
        · have e2 : decide ((d : Int) ≤ c) = false := by simpa using h2
          have hg' : Hid (∀ j, j < k + 1 → 0 ≤ cs.getD j 0 ∧ cs.getD j 0 < (ns.getD j 0 : Nat)) := Lib.hid (fun j hj => by
            by_cases e : j = k
            · rw [e, ← hd, ← hc']; omega
            · exact hg.out j (by omega))
          obtain ⟨v, rfl⟩ : ∃ v : Nat, c = (v : Int) := ⟨c.toNat, by omega⟩
          have hb1 := (HX.out.behind (cap := cap) (by rw [Sh.ints_len]; exact hc) (k + 1))
          rw [Sh.ints_drop] at hb1
          have HC := Lib.hid (fun (t : Nat) => behind_any (ns.drop (k + 1)) (Lib.hid (fun j => HK.out.le_mid (k + 1) j)) (by simp; omega) _ (ns.length - (k + 1)) t w B hb1 (by simp))
          have hpd := HK.out.le_drop (k + 1)
          obtain ⟨z, hz⟩ : ∃ z, z = Sh.prod (ns.drop (k + 1)) := ⟨_, rfl⟩
          rw [← hz] at HC hpd
          obtain ⟨r, hr⟩ : ∃ r, r = v * z := ⟨_, rfl⟩
          obtain ⟨s, hs⟩ : ∃ s, s = q + r := ⟨_, rfl⟩
          have f0 : r ≤ 4096 * 4096 := by rw [hr]; exact Nat.mul_le_mul (by omega) hpd
          have f3 : (v : Int) * (z : Int) = (r : Int) := by rw [hr, Int.natCast_mul]
          have f4 : (q : Int) + (r : Int) = (s : Int) := by rw [hs, Int.natCast_add]
          have f5 : s ≤ 16777216 * (k + 1) := by omega
          clear hd hc' HCX HCY HO HK HA HX hg hr hs hz hb1
          go_wp2_with (go_at_call 20; refine (HC.out _).mono ?_; rintro e w' ⟨rfl, rfl⟩)
          all_goals
            go_round
            case rel => exact ⟨k + 1, s, by omega, by congr 1, rfl, f5, hg'⟩
            case measure => simp [intOf]; omega
    · exact (HO.out.none HL.out (fun j hj => hg.out j (by omega))).elim

set_option maxHeartbeats 1000000 in
theorem flat_ok (ns : List Nat) (ok : Sh.Ok ns) (us : List Nat) (hi : Sh.In ns us) (y : Option Addr) (m cap' : Nat) (x : Option Addr) (n cap : Nat) (w : World) (B : Nat) (hx : Reads .i64 w B x (Sh.ints ns)) (hn : ns.length = n) (hc : n ≤ cap) (hy : Reads .i64 w B y (Sh.ints us)) (hm : us.length = m) :
    Calls Try.prog 12 #[.slice x n cap, .slice y m cap'] w (RetN (Sh.fl ns us : Nat) 0 w) := by
  have hl := hi.len
  subst hn
  rw [hl] at hm
  subst hm
  have HA := Lib.hid (all_ok ns ok x _ cap w B hx rfl)
  have h4 := ok.four
  obtain ⟨b, off, rfl, hb, hcx⟩ := hx (by rw [Sh.ints_len]; have := ok.one; omega)
  obtain ⟨b', off', rfl, hb', hcy⟩ := hy (by rw [Sh.ints_len]; have := ok.one; omega)
  have hF : Sh.fl ns us < 4096 := Nat.lt_of_lt_of_le (Sh.fl_lt hi) ok.le
  have HCX := Lib.hid hcx
  have HCY := Lib.hid hcy
  have HX := Lib.hid hx
  have HI := Lib.hid hi
  have HK := Lib.hid ok
  have HL := Lib.hid hl
  have HZ := Lib.hid hc
  clear hcx hcy hx hy hi ok hl
  obtain ⟨F, hF'⟩ : ∃ F, F = Sh.fl ns us := ⟨_, rfl⟩
  rw [← hF'] at hF ⊢
  have HF := Lib.hid hF'; clear hF'
  go_enter Try.func12, Try.ntmps12
  go_wp2_with (go_at_call 8; refine HA.out.mono ?_; rintro e w' ⟨rfl, rfl⟩)
  go_loop [8, 26] (fun p i => ∃ k q : Nat, k ≤ ns.length ∧ i = .int .i64 (k : Int) ∧ p = .int .i64 (q : Int) ∧ q * Sh.prod (ns.drop k) + Sh.fl (ns.drop k) (us.drop k) = F) (fun _ i => ns.length - (intOf i).toNat)
  case atStart => exact ⟨0, 0, Nat.zero_le _, rfl, rfl, by rw [HF.out]; simp⟩
  case round =>
    obtain ⟨k, q, hk, rfl, rfl, hq⟩ := hrel
    by_cases hlt : k < ns.length
    · have c1 := HCX.out k (by rw [Sh.ints_len]; exact hlt)
      have c2 := HCY.out k (by rw [Sh.ints_len, HL.out]; exact hlt)
      rw [Sh.ints_get] at c1 c2
      rw [Sh.horner HL.out k q hlt] at hq
      obtain ⟨d, hd⟩ : ∃ d, d = ns.getD k 0 := ⟨_, rfl⟩
      obtain ⟨v, hv⟩ : ∃ v, v = us.getD k 0 := ⟨_, rfl⟩
      have hvd : v < d := by rw [hd, hv]; exact HI.out.get hlt
      rw [← hd] at c1
      rw [← hv] at c2
      have hd4 : d ≤ 4096 := by rw [hd]; exact HK.out.le_at hlt
      have e1 : decide ((v : Int) < 0) = false := by simp
      have e2 : decide ((d : Int) ≤ (v : Int)) = false := by simp; omega
      rw [← hd, ← hv] at hq
      obtain ⟨r, hr⟩ : ∃ r, r = q * d := ⟨_, rfl⟩
      obtain ⟨s, hs⟩ : ∃ s, s = r + v := ⟨_, rfl⟩
      rw [← hr, ← hs] at hq
      have f2 : s ≤ F := by
        have := Nat.mul_le_mul_left s (HK.out.pos_drop (k + 1))
        omega
      have f3 : (q : Int) * (d : Int) = (r : Int) := by rw [hr, Int.natCast_mul]
      have f4 : (r : Int) + (v : Int) = (s : Int) := by rw [hs, Int.natCast_add]
      have f5 : r ≤ 4096 := by omega
      have F1 := Lib.hid hq
      clear hd hv HCX HCY HI HK HA HX HZ hq hr hs HL HF
      go_wp2
      go_round
      case rel => exact ⟨k + 1, s, by omega, by congr 1, rfl, F1.out⟩
      case measure => simp [intOf]; omega
    · rw [Sh.fl_end k (by omega)] at hq
      have HQ : Hid ((q : Int) = (F : Int)) := Lib.hid (by rw [List.drop_eq_nil_of_le (by omega), Sh.prod] at hq; omega)
      clear hq HCX HCY HI HK HA HX HZ
      go_wp2
      go_ret2
      exact ⟨ret_n HQ.out _, rfl⟩

set_option maxHeartbeats 1000000 in
theorem rflat_ok (ns : List Nat) (ok : Sh.Ok ns) (us : List Nat) (hi : Sh.In ns us) (y : Option Addr) (m cap' : Nat) (x : Option Addr) (n cap : Nat) (w : World) (B : Nat) (hx : Reads .i64 w B x (Sh.ints ns)) (hn : ns.length = n) (hc : n ≤ cap) (hy : Reads .i64 w B y (Sh.ints us)) (hm : us.length = m) :
    Calls Try.prog 13 #[.slice x n cap, .slice y m cap'] w (RetN (Sh.fl ns us : Nat) 0 w) := by
  have hl := hi.len
  subst hn
  rw [hl] at hm
  subst hm
  have HA := Lib.hid (rall_ok ns ok x _ cap w B hx rfl)
  have h4 := ok.four
  obtain ⟨b, off, rfl, hb, hcx⟩ := hx (by rw [Sh.ints_len]; have := ok.one; omega)
  obtain ⟨b', off', rfl, hb', hcy⟩ := hy (by rw [Sh.ints_len]; have := ok.one; omega)
  have hF : Sh.fl ns us < 4096 := Nat.lt_of_lt_of_le (Sh.fl_lt hi) ok.le
  have HCX := Lib.hid hcx
  have HCY := Lib.hid hcy
  have HX := Lib.hid hx
  have HI := Lib.hid hi
  have HK := Lib.hid ok
  have HL := Lib.hid hl
  have HZ := Lib.hid hc
  clear hcx hcy hx hy hi ok hl
  obtain ⟨F, hF'⟩ : ∃ F, F = Sh.fl ns us := ⟨_, rfl⟩
  rw [← hF'] at hF ⊢
  have HF := Lib.hid hF'; clear hF'
  go_enter Try.func13, Try.ntmps13
  go_wp2_with (go_at_call 9; refine HA.out.mono ?_; rintro e w' ⟨rfl, rfl⟩)
  go_loop [8, 26] (fun p i => ∃ k q : Nat, k ≤ ns.length ∧ i = .int .i64 (k : Int) ∧ p = .int .i64 (q : Int) ∧ q + Sh.fl (ns.drop k) (us.drop k) = F) (fun _ i => ns.length - (intOf i).toNat)
  case atStart => exact ⟨0, 0, Nat.zero_le _, rfl, rfl, by rw [HF.out]; simp⟩
  case round =>
    obtain ⟨k, q, hk, rfl, rfl, hq⟩ := hrel
    by_cases hlt : k < ns.length
    · have c1 := HCX.out k (by rw [Sh.ints_len]; exact hlt)
      have c2 := HCY.out k (by rw [Sh.ints_len, HL.out]; exact hlt)
      rw [Sh.ints_get] at c1 c2
      rw [Sh.fl_drop HL.out k hlt] at hq
      obtain ⟨d, hd⟩ : ∃ d, d = ns.getD k 0 := ⟨_, rfl⟩
      obtain ⟨v, hv⟩ : ∃ v, v = us.getD k 0 := ⟨_, rfl⟩
      have hvd : v < d := by rw [hd, hv]; exact HI.out.get hlt
      rw [← hd] at c1
      rw [← hv] at c2
      have hd4 : d ≤ 4096 := by rw [hd]; exact HK.out.le_at hlt
      have e1 : decide ((v : Int) < 0) = false := by simp
      have e2 : decide ((d : Int) ≤ (v : Int)) = false := by simp; omega
      have hb1 := (HX.out.behind (cap := cap) (by rw [Sh.ints_len]; exact HZ.out) (k + 1))
      rw [Sh.ints_drop] at hb1
      have HC := Lib.hid (fun (t : Nat) => behind_any (ns.drop (k + 1)) (Lib.hid (fun j => HK.out.le_mid (k + 1) j)) (by simp; omega) _ (ns.length - (k + 1)) t w B hb1 (by simp))
      have hpd := HK.out.le_drop (k + 1)
      rw [← hv] at hq
      obtain ⟨z, hz⟩ : ∃ z, z = Sh.prod (ns.drop (k + 1)) := ⟨_, rfl⟩
      rw [← hz] at HC hpd hq
      obtain ⟨r, hr⟩ : ∃ r, r = v * z := ⟨_, rfl⟩
      obtain ⟨s, hs⟩ : ∃ s, s = q + r := ⟨_, rfl⟩
      rw [← hr, ← Nat.add_assoc, ← hs] at hq
      have f2 : s ≤ F := by omega
      have f3 : (v : Int) * (z : Int) = (r : Int) := by rw [hr, Int.natCast_mul]
      have f4 : (q : Int) + (r : Int) = (s : Int) := by rw [hs, Int.natCast_add]
      have f5 : r ≤ 4096 := by omega
      have F1 := Lib.hid hq
      clear hd hv HCX HCY HI HK HA HX HZ hq hr hs hz hb1 HL HF
      go_wp2_with (go_at_call 20; refine (HC.out _).mono ?_; rintro e w' ⟨rfl, rfl⟩)
      all_goals
        go_round
        case rel => exact ⟨k + 1, s, by omega, by congr 1, rfl, F1.out⟩
        case measure => simp [intOf]; omega
    · rw [Sh.fl_end k (by omega)] at hq
      have HQ : Hid ((q : Int) = (F : Int)) := Lib.hid (by omega)
      clear hq HCX HCY HI HK HA HX HZ
      go_wp2
      go_ret2
      exact ⟨ret_n HQ.out _, rfl⟩

end Go.Proofs.Ytpaaggmepaflcaa
