/-
  What the document's own answers of layer 2 come to (brackenref02), and brackenref01.Same: the same numbers and lists as power's.
-/
import Derived.Test.YtceccconfnlggaaRef
import Derived.Test.YtceccconfnlggaaAhead
namespace Go.Proofs.Ytceccconfnlggaa
open Go.RowKit

theorem rpow_le (k : Nat) : ∀ (p a n : Int) (w : World), 0 ≤ a → a < 18446744073709551616 → 0 ≤ n → n < 18446744073709551616 → n < ((2 ^ k : Nat) : Int) →
    Calls Try.prog 16 #[.int .u64 p, .int .u64 a, .int .u64 n] w fun e w' => e = .returned (.int .u64 (Fp.pw p a n.toNat)) ∧ w = w' := by
  induction k with
  | zero =>
    intro p a n w a0 a1 n0 n1 hk
    obtain rfl : n = 0 := by simp at hk; omega
    have HE : Hid (Fp.red p 1 = Fp.pw p a 0) := Lib.hid (Fp.pw_zero p a).symm
    go_enter Try.func16, Try.ntmps16
    go_wp2_with (go_at_call 22; refine (rreduce_any _ _ _ (by omega) (by omega)).mono ?_; rintro e w' ⟨rfl, rfl⟩)
    go_ret
    exact ⟨ret_u64 HE.out, rfl⟩
  | succ k ih =>
    intro p a n w a0 a1 n0 n1 hk
    have IH := Lib.hid ih; clear ih
    by_cases hz : n = 0
    · subst hz
      have HE : Hid (Fp.red p 1 = Fp.pw p a 0) := Lib.hid (Fp.pw_zero p a).symm
      go_enter Try.func16, Try.ntmps16
      go_wp2_with (go_at_call 22; refine (rreduce_any _ _ _ (by omega) (by omega)).mono ?_; rintro e w' ⟨rfl, rfl⟩)
      go_ret
      exact ⟨ret_u64 HE.out, rfl⟩
    · have hz' : (n == 0) = false := beq_eq_false_iff_ne.2 hz
      have hk2 : n / 2 < ((2 ^ k : Nat) : Int) := by rw [Nat.pow_succ] at hk; omega
      have HK := Lib.hid hk2; clear hk hk2
      obtain ⟨x0, x1, _⟩ := Fp.pw_bd p a (n / 2).toNat
      obtain ⟨y0, y1, _⟩ := Fp.mul_bd p (Fp.pw p a (n / 2).toNat) (Fp.pw p a (n / 2).toNat)
      have e1 : Fp.mul p (Fp.pw p a (n / 2).toNat) (Fp.pw p a (n / 2).toNat) = Fp.pw p a ((n / 2).toNat + (n / 2).toNat) := (Fp.pw_add _ _ _ _).symm
      by_cases hodd : n % 2 = 1
      · have HE : Hid (Fp.mul p (Fp.mul p (Fp.pw p a (n / 2).toNat) (Fp.pw p a (n / 2).toNat)) a = Fp.pw p a n.toNat) := Lib.hid (by
          rw [e1, ← Fp.pw_succ]; congr 1; omega)
        have ho : (n % 2 == 1) = true := by rw [hodd]; rfl
        clear e1 hodd hz
        obtain ⟨h2, hh2⟩ : ∃ h2, h2 = Fp.pw p a (n / 2).toNat := ⟨_, rfl⟩
        rw [← hh2] at x0 x1 y0 y1 HE
        have HH := Lib.hid hh2; clear hh2
        go_enter Try.func16, Try.ntmps16
        go_wp2_with fail
        refine (IH.out p a (n / 2) _ a0 a1 (by omega) (by omega) HK.out).mono ?_
        rintro e w' ⟨rfl, rfl⟩
        rw [← HH.out]
        go_wp2_with (go_at_call 25; refine (rmul_any _ _ _ _ (by omega) (by omega) (by omega) (by omega)).mono ?_; rintro e w' ⟨rfl, rfl⟩)
        go_ret
        exact ⟨ret_u64 HE.out, rfl⟩
      · have HE : Hid (Fp.mul p (Fp.pw p a (n / 2).toNat) (Fp.pw p a (n / 2).toNat) = Fp.pw p a n.toNat) := Lib.hid (by
          rw [e1]; congr 1; omega)
        have ho : (n % 2 == 1) = false := beq_eq_false_iff_ne.2 hodd
        clear e1 hodd hz
        obtain ⟨h2, hh2⟩ : ∃ h2, h2 = Fp.pw p a (n / 2).toNat := ⟨_, rfl⟩
        rw [← hh2] at x0 x1 y0 y1 HE
        have HH := Lib.hid hh2; clear hh2
        go_enter Try.func16, Try.ntmps16
        go_wp2_with fail
        refine (IH.out p a (n / 2) _ a0 a1 (by omega) (by omega) HK.out).mono ?_
        rintro e w' ⟨rfl, rfl⟩
        rw [← HH.out]
        go_wp2_with (go_at_call 25; refine (rmul_any _ _ _ _ (by omega) (by omega) (by omega) (by omega)).mono ?_; rintro e w' ⟨rfl, rfl⟩)
        go_ret
        exact ⟨ret_u64 HE.out, rfl⟩

theorem rpow_any (p a n : Int) (w : World) (a0 : 0 ≤ a) (a1 : a < 18446744073709551616) (n0 : 0 ≤ n) (n1 : n < 18446744073709551616) :
    Calls Try.prog 16 #[.int .u64 p, .int .u64 a, .int .u64 n] w fun e w' => e = .returned (.int .u64 (Fp.pw p a n.toNat)) ∧ w = w' :=
  rpow_le 64 p a n w a0 a1 n0 n1 (by simpa using n1)

theorem rinv_noprime (p a : Int) (w : World) (h : Fp.kn p = false) :
    Calls Try.prog 10 #[.int .u64 p, .int .u64 a] w fun e w' => e = .returned (.tuple #[.int .u64 0, .int .i64 2]) ∧ w = w' := by
  have H := Lib.hid h; clear h
  go_enter Try.func10, Try.ntmps10
  go_wp2_with (go_at_call 21; refine (rknown_no p _ H.out).mono ?_; rintro e w' ⟨rfl, rfl⟩)
  go_ret2
  exact ⟨rfl, rfl⟩

theorem rinv_zero (p a : Int) (w : World) (h : Fp.kn p = true) (a0 : 0 ≤ a) (a1 : a < 18446744073709551616) (hz : Fp.red p a = 0) :
    Calls Try.prog 10 #[.int .u64 p, .int .u64 a] w fun e w' => e = .returned (.tuple #[.int .u64 0, .int .i64 9]) ∧ w = w' := by
  have H := Lib.hid h; clear h
  have t : (Fp.red p a == 0) = true := by rw [hz]; rfl
  clear hz
  go_enter Try.func10, Try.ntmps10
  go_wp2_with (first
    | (go_at_call 21; refine (rknown_yes p _ H.out).mono ?_; rintro e w' ⟨rfl, rfl⟩)
    | (go_at_call 22; refine (rreduce_any _ _ _ (by omega) (by omega)).mono ?_; rintro e w' ⟨rfl, rfl⟩))
  go_ret2
  exact ⟨rfl, rfl⟩

theorem rinv_yes (p a : Int) (w : World) (h : Fp.kn p = true) (a0 : 0 ≤ a) (a1 : a < 18446744073709551616) (hz : Fp.red p a ≠ 0) :
    Calls Try.prog 10 #[.int .u64 p, .int .u64 a] w fun e w' => e = .returned (.tuple #[.int .u64 (Fp.inv p a), .int .i64 0]) ∧ w = w' := by
  obtain ⟨p1, p2⟩ := Fp.kn_bd h
  have hn := Lib.hid (inv_num (a := a) h)
  have H := Lib.hid h; clear h
  have t : (Fp.red p a == 0) = false := beq_eq_false_iff_ne.2 hz
  clear hz
  go_enter Try.func10, Try.ntmps10
  go_wp2_with (first
    | (go_at_call 21; refine (rknown_yes p _ H.out).mono ?_; rintro e w' ⟨rfl, rfl⟩)
    | (go_at_call 22; refine (rreduce_any _ _ _ (by omega) (by omega)).mono ?_; rintro e w' ⟨rfl, rfl⟩)
    | (go_at_call 16; refine (rpow_any _ _ _ _ (by omega) (by omega) (by omega) (by omega)).mono ?_; rintro e w' ⟨rfl, rfl⟩))
  go_ret2
  exact ⟨tup_ret (congrArg (Value.int .u64) hn.out) rfl, rfl⟩

theorem rpowers_noprime (p a many : Int) (w : World) (h : Fp.kn p = false) :
    Calls Try.prog 14 #[.int .u64 p, .int .u64 a, .int .i64 many] w (RetQ (.tuple #[.slice none 0 0, .int .i64 2]) w) := by
  have H := Lib.hid h; clear h
  go_enter Try.func14, Try.ntmps14
  go_wp2_with (go_at_call 21; refine (rknown_no p _ H.out).mono ?_; rintro e w' ⟨rfl, rfl⟩)
  go_ret2
  exact ⟨rfl, 0, rfl⟩

theorem rpowers_bad (p a many : Int) (w : World) (h : Fp.kn p = true) (hm : many < 0 ∨ 65536 < many) :
    Calls Try.prog 14 #[.int .u64 p, .int .u64 a, .int .i64 many] w (RetQ (.tuple #[.slice none 0 0, .int .i64 1]) w) := by
  have H := Lib.hid h; clear h
  by_cases h0 : many < 0
  · go_enter Try.func14, Try.ntmps14
    go_wp2_with (go_at_call 21; refine (rknown_yes p _ H.out).mono ?_; rintro e w' ⟨rfl, rfl⟩)
    go_ret2
    exact ⟨rfl, 0, rfl⟩
  · have h1 : 65536 < many := by omega
    clear hm
    go_enter Try.func14, Try.ntmps14
    go_wp2_with (go_at_call 21; refine (rknown_yes p _ H.out).mono ?_; rintro e w' ⟨rfl, rfl⟩)
    go_ret2
    exact ⟨rfl, 0, rfl⟩

set_option maxHeartbeats 1000000 in
theorem rpowers_yes (p a : Int) (n : Nat) (w : World) (h : Fp.kn p = true) (a0 : 0 ≤ a) (a1 : a < 18446744073709551616) (hn : n ≤ 65536) :
    Calls Try.prog 14 #[.int .u64 p, .int .u64 a, .int .i64 n] w (ListRet w (pws p a n)) := by
  have H := Lib.hid h; clear h
  obtain ⟨i0, hi, hz0, hz1, hz2⟩ := info_parts info_u64
  go_enter Try.func14, Try.ntmps14
  go_wp2_with (first
    | (go_at_call 21; refine (rknown_yes p _ H.out).mono ?_; rintro e w' ⟨rfl, rfl⟩)
    | (go_at_call 22; refine (rreduce_any _ _ _ (by omega) (by omega)).mono ?_; rintro e w' ⟨rfl, rfl⟩))
  go_loopw [8, 9, 22] (fun v x i wr => ∃ (k : Nat) (o : Value), k ≤ n ∧ i = .int .i64 k ∧ x = .int .u64 (Fp.pw p a k) ∧ o = v ∧ Owns .u64 22 wr w.heap.size o (pws p a k) ∧ Below w.heap.size w wr) (fun _ _ i _ => n - (intOf i).toNat)
  case atStart => exact ⟨0, _, Nat.zero_le _, rfl, by rw [Fp.pw_zero], rfl, Owns.nil, Below.refl _ _⟩
  case round =>
    obtain ⟨k, o, hk, rfl, rfl, rfl, hO, hB⟩ := hrel
    obtain ⟨x0, x1, _⟩ := Fp.pw_bd p a k
    by_cases hlt : k < n
    · have HS := Lib.hid (Fp.pw_succ p a k)
      have hL := pws_len p a k
      have hO' : wr.ownsRow w.heap.size 22 1 o (pws p a k).length ((pws p a k).map (Value.int .u64)) := hO
      have HL := Lib.hid hL; clear hL
      go_wp2_with (first
        | (at_builtin; refine wpList_append_own _ rfl _ _ 23 rfl w.heap.size 22 i0 (.int .u64 0) 1 8 Try.underlying23 hi hz0 hz1 hz2 rfl (by decide) _ _ _ rfl (hO'.alloc _) ⟨wr.heap.size, 0, none⟩ 1 1 [.int .u64 (Fp.pw p a k)] rfl rfl (cell_one_new _ _ _) (one_int _ _) (by rw [HL.out]; unfold maxLen; omega) (by rw [HL.out]; omega) (by have := hB.size; simp; omega) ?_; intro v' w3 hown' hgrow3 hnil3)
        | (go_at_call 25; refine (rmul_any _ _ _ _ (by omega) (by omega) (by omega) (by omega)).mono ?_; rintro e w' ⟨rfl, rfl⟩))
      go_roundw
      case rel =>
        refine ⟨k + 1, v', by omega, by go_num, by rw [HS.out], rfl, ?_, ?_⟩
        · unfold pws; rw [range_snoc]; exact Owns.push hown'
        · exact (hB.alloc hB.size _).grown hgrow3 (Nat.le_trans hB.size (by simp)) hO.ownBlock
      case measure => simp [intOf]; omega
    · obtain rfl : k = n := by omega
      have hR : ListRet w (pws p a k) (.returned (.tuple #[o, .int .i64 0])) wr := ⟨_, rfl, hO, hB⟩
      clear hO hB hi hz0 hz1 hz2
      go_wp2
      go_ret2
      exact hR

theorem rall_noprime (p : Int) (x : Option Addr) (n cap : Nat) (w : World) (h : Fp.kn p = false) :
    Calls Try.prog 12 #[.int .u64 p, .slice x n cap] w fun e w' => e = .returned (.tuple #[.slice none 0 0, .int .i64 2]) ∧ w = w' := by
  have H := Lib.hid h; clear h
  go_enter Try.func12, Try.ntmps12
  go_wp2_with (go_at_call 21; refine (rknown_no p _ H.out).mono ?_; rintro e w' ⟨rfl, rfl⟩)
  go_ret2
  exact ⟨rfl, rfl⟩

theorem rall_long (p : Int) (x : Option Addr) (n cap : Nat) (w : World) (h : Fp.kn p = true) (hn : 65536 < n) (hn' : n ≤ 140737488355328) :
    Calls Try.prog 12 #[.int .u64 p, .slice x n cap] w fun e w' => e = .returned (.tuple #[.slice none 0 0, .int .i64 1]) ∧ w = w' := by
  have H := Lib.hid h; clear h
  go_enter Try.func12, Try.ntmps12
  go_wp2_with (go_at_call 21; refine (rknown_yes p _ H.out).mono ?_; rintro e w' ⟨rfl, rfl⟩)
  go_ret2
  exact ⟨rfl, rfl⟩

/-- The first k of xs, undone. -/
def invs (p : Int) (xs : List Int) (k : Nat) : List Int := (List.range k).map fun j => Fp.inv p (xs.getD j 0)
theorem invs_len (p : Int) (xs : List Int) (k : Nat) : (invs p xs k).length = k := by simp [invs]
theorem invs_all (p : Int) (xs : List Int) : invs p xs xs.length = xs.map (Fp.inv p) := by
  unfold invs
  apply List.ext_getElem?
  intro j
  by_cases hj : j < xs.length
  · simp [hj]
  · simp [hj]
/-- What brackenref02.All returns for a known prime and no list that is too long. -/
def AllRet (p : Int) (xs : List Int) (w : World) (e : Ending) (w' : World) : Prop :=
  (Fp.pre p xs xs.length = 0 ∧ e = .returned (.tuple #[.slice none 0 0, .int .i64 9]) ∧ Below w.heap.size w w') ∨ (Fp.pre p xs xs.length ≠ 0 ∧ ListRet w (xs.map (Fp.inv p)) e w')

set_option maxHeartbeats 1000000 in
theorem rall_yes (p : Int) (x : Option Addr) (n cap : Nat) (xs : List Int) (w : World) (h : Fp.kn p = true) (hx : Reads .u64 w w.heap.size x xs) (hn : xs.length = n) (hw : Words xs) (hl : n ≤ 65536) :
    Calls Try.prog 12 #[.int .u64 p, .slice x n cap] w (AllRet p xs w) := by
  subst hn
  have hpz := Lib.hid (Fp.pre_zero h xs xs.length)
  have H := Lib.hid h; clear h
  have HX := Lib.hid hx; clear hx
  have HW := Lib.hid hw; clear hw
  have hdl : decide (65536 < (xs.length : Int)) = false := by simp; omega
  obtain ⟨i0, hi, hz0, hz1, hz2⟩ := info_parts info_u64
  go_enter Try.func12, Try.ntmps12
  go_wp2_with (go_at_call 21; refine (rknown_yes p _ H.out).mono ?_; rintro e w' ⟨rfl, rfl⟩)
  go_loopw [6, 19] (fun v i wr => ∃ (k : Nat) (o : Value), k ≤ xs.length ∧ i = .int .i64 k ∧ o = v ∧ Owns .u64 22 wr w.heap.size o (invs p xs k) ∧ Below w.heap.size w wr ∧ Hid (∀ j, j < k → Fp.red p (xs.getD j 0) ≠ 0)) (fun _ i _ => xs.length - (intOf i).toNat)
  case atStart => exact ⟨0, _, Nat.zero_le _, rfl, rfl, Owns.nil, Below.refl _ _, Lib.hid (fun j hj => by omega)⟩
  case round =>
    obtain ⟨k, o, hk, rfl, rfl, hO, hB, HA⟩ := hrel
    by_cases hlt : k < xs.length
    · obtain ⟨b, off, rfl, hb, hc⟩ := (HX.out.below hB) (by omega)
      have c1 := hc k hlt
      obtain ⟨u0, u1⟩ := HW.out k
      obtain ⟨u, hu⟩ : ∃ u, u = xs.getD k 0 := ⟨_, rfl⟩
      rw [← hu] at c1 u0 u1
      by_cases hz : Fp.red p u = 0
      · have hR : AllRet p xs w (.returned (.tuple #[.slice none 0 0, .int .i64 9])) wr := .inl ⟨hpz.out.2 ⟨k, hlt, by rw [← hu]; exact hz⟩, rfl, hB⟩
        have HZ := Lib.hid hz
        clear hz hu hc HX hO hB hi hz0 hz1 hz2
        go_wp2_with (go_at_call 10; refine (rinv_zero _ _ _ H.out u0 u1 HZ.out).mono ?_; rintro e w' ⟨rfl, rfl⟩)
        go_ret2
        exact hR
      · have HS : Hid (invs p xs (k + 1) = invs p xs k ++ [Fp.inv p u]) := Lib.hid (by unfold invs; rw [range_snoc, hu])
        have HA' : Hid (∀ j, j < k + 1 → Fp.red p (xs.getD j 0) ≠ 0) := Lib.hid (fun j hj => by
          by_cases e : j = k
          · rw [e, ← hu]; exact hz
          · exact HA.out j (by omega))
        have HZ := Lib.hid hz
        have HL := Lib.hid (invs_len p xs k)
        have hO' : wr.ownsRow w.heap.size 22 1 o (invs p xs k).length ((invs p xs k).map (Value.int .u64)) := hO
        clear hz hu hc HX
        go_wp2_with (first
          | (go_at_call 10; refine (rinv_yes _ _ _ H.out u0 u1 HZ.out).mono ?_; rintro e w' ⟨rfl, rfl⟩)
          | (at_builtin; refine wpList_append_own _ rfl _ _ 23 rfl w.heap.size 22 i0 (.int .u64 0) 1 8 Try.underlying23 hi hz0 hz1 hz2 rfl (by decide) _ _ _ rfl (hO'.alloc _) ⟨wr.heap.size, 0, none⟩ 1 1 [.int .u64 (Fp.inv p u)] rfl rfl (cell_one_new _ _ _) (one_int _ _) (by rw [HL.out]; unfold maxLen; omega) (by rw [HL.out]; omega) (by have := hB.size; simp; omega) ?_; intro v' w3 hown' hgrow3 hnil3))
        go_roundw
        case rel =>
          refine ⟨k + 1, v', by omega, by go_num, rfl, ?_, ?_, HA'⟩
          · rw [HS.out]; exact Owns.push hown'
          · exact (hB.alloc hB.size _).grown hgrow3 (Nat.le_trans hB.size (by simp)) hO.ownBlock
        case measure => simp [intOf]; omega
    · obtain rfl : k = xs.length := by omega
      have hR : AllRet p xs w (.returned (.tuple #[o, .int .i64 0])) wr := .inr ⟨fun e => by obtain ⟨j, hj, e'⟩ := hpz.out.1 e; exact HA.out j hj e', _, rfl, by rw [← invs_all]; exact hO, hB⟩
      clear hO hB hi hz0 hz1 hz2 HX
      go_wp2
      go_ret2
      exact hR

/-! brackenref01.Same of two slices: are they the same list? -/
set_option maxHeartbeats 1000000 in
theorem same_any (x y : Option Addr) (n m cap cap' : Nat) (xs ys : List Int) (w : World) (B : Nat) (hx : Reads .u64 w B x xs) (hy : Reads .u64 w B y ys) (hn : xs.length = n) (hm : ys.length = m) (hl : n ≤ 140737488355328) (hl' : m ≤ 140737488355328) :
    Calls Try.prog 17 #[.slice x n cap, .slice y m cap'] w (RetQ (.bool (decide (xs = ys))) w) := by
  subst hn
  subst hm
  have HX := Lib.hid hx; clear hx
  have HY := Lib.hid hy; clear hy
  by_cases hnm : xs.length = ys.length
  · have t : ((xs.length : Int) != (ys.length : Int)) = false := by rw [hnm]; simp
    have HN := Lib.hid hnm; clear hnm
    go_enter Try.func17, Try.ntmps17
    go_wp2
    go_loopw [13] (fun i wr => ∃ k q : Nat, k ≤ xs.length ∧ i = .int .i64 k ∧ wr = w.drewN q ∧ Hid (∀ j, j < k → xs.getD j 0 = ys.getD j 0)) (fun i _ => xs.length - (intOf i).toNat)
    case atStart => exact ⟨0, 0, Nat.zero_le _, rfl, rfl, Lib.hid (fun j hj => by omega)⟩
    case round =>
      obtain ⟨k, q, hk, rfl, rfl, HA⟩ := hrel
      by_cases hlt : k < xs.length
      · have hlt' : k < ys.length := by have := HN.out; omega
        obtain ⟨b, off, rfl, hb, hc⟩ := HX.out (by omega)
        obtain ⟨b', off', rfl, hb', hc'⟩ := HY.out (by omega)
        have c1 := hc k hlt
        have c2 := hc' k hlt'
        obtain ⟨u, hu⟩ : ∃ u, u = xs.getD k 0 := ⟨_, rfl⟩
        obtain ⟨v, hv⟩ : ∃ v, v = ys.getD k 0 := ⟨_, rfl⟩
        rw [← hu] at c1
        rw [← hv] at c2
        by_cases he : u = v
        · have t2 : (u != v) = false := by rw [he]; simp
          have HA' : Hid (∀ j, j < k + 1 → xs.getD j 0 = ys.getD j 0) := Lib.hid (fun j hj => by
            by_cases e : j = k
            · rw [e, ← hu, ← hv]; exact he
            · exact HA.out j (by omega))
          clear he hu hv hc hc' HX HY
          go_wp2
          go_quiet (fail)
          go_wp2
          go_roundw
          case rel => exact ⟨k + 1, _, by omega, by go_num, rfl, HA'⟩
          case measure => simp [intOf]; omega
        · have t2 : (u != v) = true := by rw [bne_iff_ne]; exact he
          have HE : Hid (decide (xs = ys) = false) := Lib.hid (decide_eq_false (fun e => he (by rw [hu, hv, e])))
          clear he hu hv hc hc' HX HY
          go_wp2
          go_quiet (fail)
          go_wp2
          go_ret
          exact ⟨ret_bool HE.out.symm, q + nq, by rw [World.drewN_drewN]⟩
      · have HE : Hid (decide (xs = ys) = true) := Lib.hid (decide_eq_true (by
          apply List.ext_getElem HN.out
          intro j h1 h2
          have := HA.out j (by omega)
          simpa [h1, h2] using this))
        clear HX HY
        go_wp2
        go_ret
        exact ⟨ret_bool HE.out.symm, _, rfl⟩
  · have t : ((xs.length : Int) != (ys.length : Int)) = true := by rw [bne_iff_ne]; omega
    have HE : Hid (decide (xs = ys) = false) := Lib.hid (decide_eq_false (fun e => hnm (by rw [e])))
    clear hnm
    go_enter Try.func17, Try.ntmps17
    go_wp2
    go_ret
    exact ⟨ret_bool HE.out.symm, 0, rfl⟩

end Go.Proofs.Ytceccconfnlggaa
