/-
  What shape.All, Flat and Inner come to, and the document's own All, behind, Flat and Inner.
-/
import Derived.Test.YtpaaggmepaflcaaMathSha
import Derived.Test.YtpaaggmepaflcaaInts
namespace Go.Proofs.Ytpaaggmepaflcaa
open Go.RowKit

/-- It returns a number and an error's number, and the world is the same. -/
def RetN (v e : Int) (w : World) (x : Ending) (w' : World) : Prop := x = .returned (.tuple #[.int .i64 v, .int .i64 e]) ∧ w = w'
theorem ret_n {a b : Int} (h : a = b) (e : Int) : Ending.returned (.tuple #[.int .i64 a, .int .i64 e]) = .returned (.tuple #[.int .i64 b, .int .i64 e]) := by rw [h]

set_option maxHeartbeats 1000000 in
theorem all_ok (ns : List Nat) (ok : Sh.Ok ns) (x : Option Addr) (n cap : Nat) (w : World) (B : Nat) (hx : Reads .i64 w B x (Sh.ints ns)) (hn : ns.length = n) :
    Calls Try.prog 8 #[.slice x n cap] w (RetN (Sh.prod ns : Nat) 0 w) := by
  subst hn
  have HX := Lib.hid hx; clear hx
  have HO := Lib.hid ok
  have h1 := ok.one
  have h4 := ok.four
  have d1 : decide ((ns.length : Int) < 1) = false := by simp; omega
  have d2 : decide (4 < (ns.length : Int)) = false := by simp; omega
  clear ok
  go_enter Try.func8, Try.ntmps8
  go_wp2
  go_loop [4, 17] (fun p i => ∃ k q : Nat, k ≤ ns.length ∧ i = .int .i64 (k : Int) ∧ p = .int .i64 (q : Int) ∧ q = Sh.prod (ns.take k)) (fun _ i => ns.length - (intOf i).toNat)
  case atStart => exact ⟨0, 1, Nat.zero_le _, rfl, rfl, rfl⟩
  case round =>
    obtain ⟨k, q, hk, rfl, rfl, hq⟩ := hrel
    by_cases hlt : k < ns.length
    · obtain ⟨b, off, rfl, hb, hc⟩ := HX.out (by rw [Sh.ints_len]; omega)
      have c1 := hc k (by rw [Sh.ints_len]; exact hlt)
      rw [Sh.ints_get] at c1
      obtain ⟨d, hd⟩ : ∃ d, d = ns.getD k 0 := ⟨_, rfl⟩
      obtain ⟨u, hu⟩ : ∃ u, u = Sh.prod (ns.take (k + 1)) := ⟨_, rfl⟩
      obtain ⟨z, hz⟩ : ∃ z, z = 4096 / q := ⟨_, rfl⟩
      have f1 : 1 ≤ d := by rw [hd]; exact HO.out.pos_at hlt
      have f2 : d ≤ z := by rw [hd, hz, hq]; exact HO.out.div_at hlt
      have f3 : 1 ≤ q := by rw [hq]; exact HO.out.pos_take k
      have f4 : u ≤ 4096 := by rw [hu]; exact HO.out.le_take _
      have f5 : (q : Int) * (d : Int) = (u : Int) := by rw [hq, hd, hu, ← Sh.prod_take ns k hlt, Int.natCast_mul]
      have f6 : (4096 : Int) / (q : Int) = (z : Int) := by rw [hz]; exact cast_div 4096 q
      have e1 : decide ((d : Int) < 1) = false := by simp; omega
      have e2 : decide ((z : Int) < (d : Int)) = false := by simp; omega
      have hq0 : (q : Int) ≠ 0 := by omega
      have hz4 : z ≤ 4096 := by rw [hz]; exact Nat.div_le_self _ _
      have HU := Lib.hid hu
      rw [← hd] at c1
      clear hq hu hd hz hc HX HO
      go_wp2
      go_round
      case rel => exact ⟨k + 1, u, by omega, by congr 1, rfl, HU.out⟩
      case measure => simp [intOf]; omega
    · have HQ : Hid ((q : Int) = ((Sh.prod ns : Nat) : Int)) := Lib.hid (by rw [hq, List.take_of_length_le (by omega)])
      clear HX hq HO
      go_wp2
      go_ret2
      exact ⟨ret_n HQ.out _, rfl⟩

set_option maxHeartbeats 1000000 in
theorem all_no (ds : List Int) (no : Sh.No ds) (x : Option Addr) (n cap : Nat) (w : World) (B : Nat) (hx : Reads .i64 w B x ds) (hn : ds.length = n) :
    Calls Try.prog 8 #[.slice x n cap] w (RetN 0 3 w) := by
  subst hn
  have HX := Lib.hid hx; clear hx
  have HO := Lib.hid no; clear no
  by_cases h1 : ds.length < 1
  · have d1 : decide ((ds.length : Int) < 1) = true := by simp; omega
    go_enter Try.func8, Try.ntmps8
    go_wp2
    go_ret2
    exact ⟨rfl, rfl⟩
  · by_cases h4 : 4 < ds.length
    · have d1 : decide ((ds.length : Int) < 1) = false := by simp; omega
      have d2 : decide (4 < (ds.length : Int)) = true := by simp; omega
      go_enter Try.func8, Try.ntmps8
      go_wp2
      go_ret2
      exact ⟨rfl, rfl⟩
    · have d1 : decide ((ds.length : Int) < 1) = false := by simp; omega
      have d2 : decide (4 < (ds.length : Int)) = false := by simp; omega
      go_enter Try.func8, Try.ntmps8
      go_wp2
      go_loop [4, 17] (fun p i => ∃ (k q : Nat) (ns : List Nat), k ≤ ds.length ∧ i = .int .i64 (k : Int) ∧ p = .int .i64 (q : Int) ∧ q = Sh.prod ns ∧ Sh.Pre ds k ns ∧ q ≤ 4096) (fun _ i => ds.length - (intOf i).toNat)
      case atStart => exact ⟨0, 1, [], Nat.zero_le _, rfl, rfl, rfl, Sh.Pre.zero ds, by omega⟩
      case round =>
        obtain ⟨k, q, ns, hk, rfl, rfl, hq, hp, hq4⟩ := hrel
        have hq1 : 1 ≤ q := by rw [hq]; exact Sh.prod_pos hp.2
        by_cases hlt : k < ds.length
        · obtain ⟨b, off, rfl, hb, hc⟩ := HX.out (by omega)
          have c1 := hc k hlt
          obtain ⟨y, hy⟩ : ∃ y, y = ds.getD k 0 := ⟨_, rfl⟩
          obtain ⟨z, hz⟩ : ∃ z, z = 4096 / q := ⟨_, rfl⟩
          have f6 : (4096 : Int) / (q : Int) = (z : Int) := by rw [hz]; exact cast_div 4096 q
          have hq0 : (q : Int) ≠ 0 := by omega
          have hz4 : z ≤ 4096 := by rw [hz]; exact Nat.div_le_self _ _
          rw [← hy] at c1
          by_cases hy1 : y < 1
          · have e1 : decide (y < 1) = true := by simpa using hy1
            clear hq hy hz hc HX HO hp
            go_wp2
            go_ret2
            exact ⟨rfl, rfl⟩
          · have e1 : decide (y < 1) = false := by simpa using hy1
            by_cases hyz : (z : Int) < y
            · have e2 : decide ((z : Int) < y) = true := by simpa using hyz
              clear hq hy hz hc HX HO hp
              go_wp2
              go_ret2
              exact ⟨rfl, rfl⟩
            · have e2 : decide ((z : Int) < y) = false := by simpa using hyz
              obtain ⟨d, rfl⟩ : ∃ d : Nat, y = (d : Int) := ⟨y.toNat, by omega⟩
              obtain ⟨hp', hm⟩ := hp.next hlt d hy.symm (by omega)
              have f4 : Sh.prod (ns ++ [d]) ≤ 4096 := by
                have : d ≤ 4096 / q := by omega
                rw [Nat.le_div_iff_mul_le hq1] at this
                rw [hm, ← hq, Nat.mul_comm]
                exact this
              obtain ⟨u, hu⟩ : ∃ u, u = Sh.prod (ns ++ [d]) := ⟨_, rfl⟩
              rw [← hu] at f4
              have f5 : (q : Int) * (d : Int) = (u : Int) := by rw [hu, hm, hq, Int.natCast_mul]
              have HP := Lib.hid (And.intro hu hp')
              clear hq hy hz hc HX HO hp hu hp' hm
              go_wp2
              go_round
              case rel => exact ⟨k + 1, u, ns ++ [d], by omega, by congr 1, rfl, HP.out.1, HP.out.2, f4⟩
              case measure => simp [intOf]; omega
        · have hkl : k = ds.length := by omega
          rw [hkl] at hp
          have := HO.out.more (by omega) (by omega) hp
          omega

set_option maxHeartbeats 1000000 in
theorem rall_ok (ns : List Nat) (ok : Sh.Ok ns) (x : Option Addr) (n cap : Nat) (w : World) (B : Nat) (hx : Reads .i64 w B x (Sh.ints ns)) (hn : ns.length = n) :
    Calls Try.prog 9 #[.slice x n cap] w (RetN (Sh.prod ns : Nat) 0 w) := by
  subst hn
  have HX := Lib.hid hx; clear hx
  have HO := Lib.hid ok
  have h1 := ok.one
  have h4 := ok.four
  have d1 : decide ((ns.length : Int) < 1) = false := by simp; omega
  have d2 : decide (4 < (ns.length : Int)) = false := by simp; omega
  clear ok
  go_enter Try.func9, Try.ntmps9
  go_wp2
  go_loop [4, 17] (fun p i => ∃ k q : Nat, k ≤ ns.length ∧ i = .int .i64 (k : Int) ∧ p = .int .i64 (q : Int) ∧ q = Sh.prod (ns.take k)) (fun _ i => ns.length - (intOf i).toNat)
  case atStart => exact ⟨0, 1, Nat.zero_le _, rfl, rfl, rfl⟩
  case round =>
    obtain ⟨k, q, hk, rfl, rfl, hq⟩ := hrel
    by_cases hlt : k < ns.length
    · obtain ⟨b, off, rfl, hb, hc⟩ := HX.out (by rw [Sh.ints_len]; omega)
      have c1 := hc k (by rw [Sh.ints_len]; exact hlt)
      rw [Sh.ints_get] at c1
      obtain ⟨d, hd⟩ : ∃ d, d = ns.getD k 0 := ⟨_, rfl⟩
      obtain ⟨u, hu⟩ : ∃ u, u = Sh.prod (ns.take (k + 1)) := ⟨_, rfl⟩
      have f1 : 1 ≤ d := by rw [hd]; exact HO.out.pos_at hlt
      have f2 : d ≤ 4096 := by rw [hd]; exact HO.out.le_at hlt
      have f4 : u ≤ 4096 := by rw [hu]; exact HO.out.le_take _
      have f5 : (q : Int) * (d : Int) = (u : Int) := by rw [hq, hd, hu, ← Sh.prod_take ns k hlt, Int.natCast_mul]
      have e1 : decide ((d : Int) < 1) = false := by simp; omega
      have e2 : decide (4096 < (d : Int)) = false := by simp; omega
      have HU := Lib.hid hu
      rw [← hd] at c1
      clear hq hu hd hc HX HO
      go_wp2
      go_round
      case rel => exact ⟨k + 1, u, by omega, by congr 1, rfl, HU.out⟩
      case measure => simp [intOf]; omega
    · have HQ : Hid ((q : Int) = ((Sh.prod ns : Nat) : Int)) := Lib.hid (by rw [hq, List.take_of_length_le (by omega)])
      have e3 : decide (4096 < (q : Int)) = false := by have := HQ.out; have := HO.out.le; simp; omega
      clear HX hq HO
      go_wp2
      go_ret2
      exact ⟨ret_n HQ.out _, rfl⟩

set_option maxHeartbeats 1000000 in
theorem rall_no (ds : List Int) (no : Sh.No ds) (x : Option Addr) (n cap : Nat) (w : World) (B : Nat) (hx : Reads .i64 w B x ds) (hn : ds.length = n) :
    Calls Try.prog 9 #[.slice x n cap] w (RetN 0 3 w) := by
  subst hn
  have HX := Lib.hid hx; clear hx
  have HO := Lib.hid no; clear no
  by_cases h1 : ds.length < 1
  · have d1 : decide ((ds.length : Int) < 1) = true := by simp; omega
    go_enter Try.func9, Try.ntmps9
    go_wp2
    go_ret2
    exact ⟨rfl, rfl⟩
  · by_cases h4 : 4 < ds.length
    · have d1 : decide ((ds.length : Int) < 1) = false := by simp; omega
      have d2 : decide (4 < (ds.length : Int)) = true := by simp; omega
      go_enter Try.func9, Try.ntmps9
      go_wp2
      go_ret2
      exact ⟨rfl, rfl⟩
    · have d1 : decide ((ds.length : Int) < 1) = false := by simp; omega
      have d2 : decide (4 < (ds.length : Int)) = false := by simp; omega
      go_enter Try.func9, Try.ntmps9
      go_wp2
      go_loop [4, 17] (fun p i => ∃ (k q : Nat) (ns : List Nat), k ≤ ds.length ∧ i = .int .i64 (k : Int) ∧ p = .int .i64 (q : Int) ∧ q = Sh.prod ns ∧ Sh.Pre ds k ns ∧ q ≤ 4096 ^ k) (fun _ i => ds.length - (intOf i).toNat)
      case atStart => exact ⟨0, 1, [], Nat.zero_le _, rfl, rfl, rfl, Sh.Pre.zero ds, by omega⟩
      case round =>
        obtain ⟨k, q, ns, hk, rfl, rfl, hq, hp, hq4⟩ := hrel
        by_cases hlt : k < ds.length
        · obtain ⟨b, off, rfl, hb, hc⟩ := HX.out (by omega)
          have c1 := hc k hlt
          obtain ⟨y, hy⟩ : ∃ y, y = ds.getD k 0 := ⟨_, rfl⟩
          rw [← hy] at c1
          by_cases hy1 : y < 1
          · have e1 : decide (y < 1) = true := by simpa using hy1
            clear hq hy hc HX HO hp hq4
            go_wp2
            go_ret2
            exact ⟨rfl, rfl⟩
          · have e1 : decide (y < 1) = false := by simpa using hy1
            by_cases hyz : 4096 < y
            · have e2 : decide (4096 < y) = true := by simpa using hyz
              clear hq hy hc HX HO hp hq4
              go_wp2
              go_ret2
              exact ⟨rfl, rfl⟩
            · have e2 : decide (4096 < y) = false := by simpa using hyz
              obtain ⟨d, rfl⟩ : ∃ d : Nat, y = (d : Int) := ⟨y.toNat, by omega⟩
              obtain ⟨hp', hm⟩ := hp.next hlt d hy.symm (by omega)
              have f4 : Sh.prod (ns ++ [d]) ≤ 4096 ^ (k + 1) := by
                rw [hm, ← hq, Nat.pow_succ]
                exact Nat.mul_le_mul hq4 (by omega)
              have f3 : 4096 ^ (k + 1) ≤ 4096 ^ 4 := Nat.pow_le_pow_right (by omega) (by omega)
              obtain ⟨u, hu⟩ : ∃ u, u = Sh.prod (ns ++ [d]) := ⟨_, rfl⟩
              rw [← hu] at f4
              have f5 : (q : Int) * (d : Int) = (u : Int) := by rw [hu, hm, hq, Int.natCast_mul]
              have HP := Lib.hid (And.intro hu (And.intro hp' f4))
              have f6 : u ≤ 281474976710656 := Nat.le_trans f4 (Nat.le_trans f3 (by decide))
              clear hq hy hc HX HO hp hu hp' hm hq4 f3 f4
              go_wp2
              go_round
              case rel => exact ⟨k + 1, u, ns ++ [d], by omega, by congr 1, rfl, HP.out.1, HP.out.2.1, HP.out.2.2⟩
              case measure => simp [intOf]; omega
        · have hkl : k = ds.length := by omega
          rw [hkl] at hp
          have hm := HO.out.more (by omega) (by omega) hp
          rw [← hq] at hm
          have e3 : decide (4096 < (q : Int)) = true := by simp; omega
          clear HX HO hp hq hq4
          go_wp2
          go_ret2
          exact ⟨rfl, rfl⟩

set_option maxHeartbeats 1000000 in
theorem behind_any (ns : List Nat) (hle : Hid (∀ k, Sh.prod (ns.take k) ≤ 4096)) (hl : ns.length ≤ 4) (x : Option Addr) (n cap : Nat) (w : World) (B : Nat) (hx : Reads .i64 w B x (Sh.ints ns)) (hn : ns.length = n) :
    Calls Try.prog 20 #[.slice x n cap] w fun e w' => e = .returned (.int .i64 (Sh.prod ns : Nat)) ∧ w = w' := by
  subst hn
  have HX := Lib.hid hx; clear hx
  go_enter Try.func20, Try.ntmps20
  go_wp2
  go_loop [3, 8] (fun p i => ∃ k q : Nat, k ≤ ns.length ∧ i = .int .i64 (k : Int) ∧ p = .int .i64 (q : Int) ∧ q = Sh.prod (ns.take k)) (fun _ i => ns.length - (intOf i).toNat)
  case atStart => exact ⟨0, 1, Nat.zero_le _, rfl, rfl, rfl⟩
  case round =>
    obtain ⟨k, q, hk, rfl, rfl, hq⟩ := hrel
    by_cases hlt : k < ns.length
    · obtain ⟨b, off, rfl, hb, hc⟩ := HX.out (by rw [Sh.ints_len]; omega)
      have c1 := hc k (by rw [Sh.ints_len]; exact hlt)
      rw [Sh.ints_get] at c1
      obtain ⟨d, hd⟩ : ∃ d, d = ns.getD k 0 := ⟨_, rfl⟩
      obtain ⟨u, hu⟩ : ∃ u, u = Sh.prod (ns.take (k + 1)) := ⟨_, rfl⟩
      have f4 : u ≤ 4096 := by rw [hu]; exact hle.out _
      have f5 : (q : Int) * (d : Int) = (u : Int) := by rw [hq, hd, hu, ← Sh.prod_take ns k hlt, Int.natCast_mul]
      have HU := Lib.hid hu
      rw [← hd] at c1
      clear hq hu hd hc HX hle
      go_wp2
      go_round
      case rel => exact ⟨k + 1, u, by omega, by congr 1, rfl, HU.out⟩
      case measure => simp [intOf]; omega
    · have HQ : Hid ((q : Int) = ((Sh.prod ns : Nat) : Int)) := Lib.hid (by rw [hq, List.take_of_length_le (by omega)])
      clear HX hq hle
      go_wp2
      go_ret
      exact ⟨ret_i HQ.out, rfl⟩

end Go.Proofs.Ytpaaggmepaflcaa
