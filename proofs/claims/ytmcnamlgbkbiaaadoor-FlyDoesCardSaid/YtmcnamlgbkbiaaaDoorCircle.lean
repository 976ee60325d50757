/-
  What the small methods of fly's circle come to: a sum of words, a difference, a word times a point.
-/
import Derived.Test.YtmcnamlgbkbiaaaDoorMathFlyDo
import Derived.Test.YtmcnamlgbkbiaaaDoorMul
import Derived.Test.YtmcnamlgbkbiaaaDoorSince
namespace Go.Proofs.YtmcnamlgbkbiaaaDoor
open Go.RowKit Fly

/-- A callee's contract, met behind draws. -/
theorem quiet_at {P : Program} {f : FuncId} {args : Array Value} {w : World} {a : Nat} {v : Value} (h : Calls P f args (w.drewN a) (RetQ v (w.drewN a))) :
    Calls P f args (w.drewN a) fun e w'' => e = .returned v ∧ ∃ n, w'' = w.drewN n :=
  h.mono fun _ _ ⟨he, m, hm⟩ => ⟨he, a + m, by rw [hm, World.drewN_drewN]⟩

/-- The circle in memory. -/
theorem cir_p (w : World) (t : TypeId) (p : Int) (s : Value) : (w.alloc (.cells #[.int .u64 p, s] t)).cell? ⟨w.heap.size, 0, none⟩ = some (.int .u64 p) := by simp
theorem cir_l (w : World) (t : TypeId) (p : Int) (s : Value) : (w.alloc (.cells #[.int .u64 p, s] t)).cell? ⟨w.heap.size, 1, none⟩ = some s := by simp

set_option maxHeartbeats 1000000 in
theorem cless_any (p a b : Int) (y : Option Addr) (m c : Nat) (w : World) (a0 : 0 ≤ a) (a1 : a < 18446744073709551616) (b0 : 0 ≤ b) (b1 : b < 18446744073709551616) :
    Calls Tryd.prog 61 #[.agg #[.int .u64 p, .slice y m c], .int .u64 a, .int .u64 b] w (RetB (.int .u64 (Fp.sub p a b)) w) := by
  go_enter Tryd.func61, Tryd.ntmps61
  go_wp2_with (go_at_call 65; refine (sub_any _ _ _ _ (by omega) (by omega) (by omega) (by omega)).mono ?_; rintro e w' ⟨rfl, nd, rfl⟩)
  go_ret
  exact ⟨rfl, below_draws (below_al (Below.refl _ _) _) _⟩

set_option maxHeartbeats 1000000 in
theorem ctimes_any (p i a : Int) (k : Nat) (y : Option Addr) (m c : Nat) (ps : List Int) (w : World) (hi : i = (k : Int)) (hy : Reads .u64 w w.heap.size y ps) (hm : ps.length = m) (hk : k < m) (hw : Words ps) (hl : m ≤ maxLen) (a0 : 0 ≤ a) (a1 : a < 18446744073709551616) :
    Calls Tryd.prog 62 #[.agg #[.int .u64 p, .slice y m c], .int .i64 i, .int .u64 a] w (RetB (.int .u64 (Fp.mul p (ps.getD k 0) a)) w) := by
  subst hi
  subst hm
  obtain ⟨b, off, rfl, hb, hc⟩ := hy (by omega)
  have hdk : decide (k < ps.length) = true := by simpa using hk
  have hc1 := hc k hk
  obtain ⟨y0, y1⟩ := hw k
  generalize ps.getD k 0 = u at hc1 y0 y1 ⊢
  have hcell : (w.alloc (.cells #[.int .u64 p, .slice (some ⟨b, off, none⟩) ps.length c] 48)).cell? ⟨b, off + k, none⟩ = some (.int .u64 u) := ((below_al (Below.refl _ w) _).cell (p := ⟨b, off + k, none⟩) hb).trans hc1
  have hp := cir_p w 48 p (.slice (some ⟨b, off, none⟩) ps.length c)
  have hq := cir_l w 48 p (.slice (some ⟨b, off, none⟩) ps.length c)
  have HB := Lib.hid (below_al (Below.refl _ w) (.cells #[.int .u64 p, .slice (some ⟨b, off, none⟩) ps.length c] 48))
  have hlen : (ps.length : Int) ≤ 9223372036854775807 := by unfold maxLen at hl; omega
  clear hc hc1 hy hb hw hl
  go_enter Tryd.func62, Tryd.ntmps62
  go_wp2
  obtain ⟨W, hW⟩ : ∃ W, W = w.alloc (.cells #[.int .u64 p, .slice (some ⟨b, off, none⟩) ps.length c] 48) := ⟨_, rfl⟩
  rw [← hW] at hcell hp hq HB ⊢
  clear hW
  go_quiet (first | (go_at_call 19; exact quiet_at (mul_any _ _ _ _ (by omega) (by omega) (by omega) (by omega))))
  go_wp2
  go_ret
  exact ⟨rfl, below_draws HB.out _⟩

set_option maxHeartbeats 2000000 in
theorem cirsum_any (p : Int) (y : Option Addr) (m c : Nat) (x : Option Addr) (n cap : Nat) (xs : List Int) (w : World) (h : Fp.kn p = true) (hx : Reads .u64 w w.heap.size x xs) (hn : xs.length = n) (hw : Words xs) (hl : n ≤ maxLen) :
    Calls Tryd.prog 60 #[.agg #[.int .u64 p, .slice y m c], .slice x n cap] w (RetB (.int .u64 (smL p xs)) w) := by
  subst hn
  have H := Lib.hid h
  obtain ⟨p1, p2⟩ := Fp.kn_bd h
  have hlen : (xs.length : Int) ≤ 9223372036854775807 := by unfold maxLen at hl; omega
  have HX : Hid (Reads .u64 (w.alloc (.cells #[.int .u64 p, .slice y m c] 48)) w.heap.size x xs) := Lib.hid (hx.below (below_al (Below.refl _ w) _))
  have hp := cir_p w 48 p (.slice y m c)
  have HB := Lib.hid (below_al (Below.refl _ w) (.cells #[.int .u64 p, .slice y m c] 48))
  have HS : Hid (∀ k, Fp.add p (Fp.sum (el xs) k % p) (xs.getD k 0) = Fp.sum (el xs) (k + 1) % p) := Lib.hid (fun k => more h _ k Fp.eqm.rfl)
  have HD : Hid (∀ k, 0 ≤ Fp.sum (el xs) k % p ∧ Fp.sum (el xs) k % p < p) := Lib.hid (fun k => ⟨Fp.md_lo _ (Fp.kn_pos h), Fp.md_hi _ (Fp.kn_pos h)⟩)
  have HW := Lib.hid hw
  have HE : Hid (Fp.sum (el xs) xs.length % p = smL p xs) := Lib.hid rfl
  have H0 : Hid (Fp.sum (el xs) 0 % p = 0) := Lib.hid (by simp [Fp.sum])
  generalize smL p xs = res at HE ⊢
  generalize (fun k => Fp.sum (el xs) k % p) = f at *
  clear hx hw h hl
  go_enter Tryd.func60, Tryd.ntmps60
  go_wp2
  obtain ⟨W, hW⟩ : ∃ W, W = w.alloc (.cells #[.int .u64 p, .slice y m c] 48) := ⟨_, rfl⟩
  rw [← hW] at HX hp HB ⊢
  clear hW
  go_loopw [5, 10] (fun s i wr => ∃ (k q : Nat) (o : Int), k ≤ xs.length ∧ i = .int .i64 (k : Int) ∧ s = .int .u64 o ∧ Hid (o = Fp.sum (el xs) k % p) ∧ wr = W.drewN q) (fun _ i _ => xs.length - (intOf i).toNat)
  case atStart => exact ⟨0, 0, 0, Nat.zero_le _, rfl, rfl, Lib.hid H0.out.symm, rfl⟩
  case round =>
    obtain ⟨k, q, o, hk, rfl, rfl, HO, rfl⟩ := hrel
    by_cases hlt : k < xs.length
    · have hdk : decide (k < xs.length) = true := by simpa using hlt
      obtain ⟨b, off, rfl, hb, hcx⟩ := HX.out (by omega)
      have hx1 := hcx k hlt
      obtain ⟨y0, y1⟩ := HW.out k
      have o01 := HD.out k
      rw [← HO.out] at o01
      obtain ⟨o0, o1⟩ := o01
      have HN : Hid (Fp.add p o (xs.getD k 0) = Fp.sum (el xs) (k + 1) % p) := Lib.hid (by rw [HO.out]; exact HS.out k)
      generalize xs.getD k 0 = u at hx1 y0 y1 HN
      clear hcx HX
      go_wp2_with (go_at_call 20; refine (add_any _ _ _ _ (by omega) (by omega) (by omega) (by omega)).mono ?_; rintro e w' ⟨rfl, nd, rfl⟩)
      go_roundw
      case rel => exact ⟨k + 1, _, _, by omega, by go_num, rfl, Lib.hid HN.out, rfl⟩
      case measure => simp [intOf]; omega
    · obtain rfl : k = xs.length := by omega
      have hdk : decide (xs.length < xs.length) = false := by simp
      go_wp2
      go_ret
      exact ⟨ret_u64 (HO.out.trans HE.out), below_draws HB.out _⟩

end Go.Proofs.YtmcnamlgbkbiaaaDoor
