/-
  A function value that tells which power a word goes by, and what dft.sums makes of words by it.
-/
import Derived.Test.YtmcnamlgbkbiaaaDoorLine
import Derived.Test.YtmcnamlgbkbiaaaDoorPowers
import Derived.Shelf.Abstract
namespace Go.Proofs.YtmcnamlgbkbiaaaDoor
open Go.RowKit Go.Shelf

/-- The function value v tells g at all places below n, wherever all that lay in w lies as it was. -/
def Tells (w : World) (v : Value) (n : Nat) (g : Nat → Nat → Int) : Prop :=
  ∃ (fid : FuncId) (lb : Array Value), v = .func (.func fid) #[] lb ∧ (∀ args W, (callFunc fid args).run Tryd.prog W = .ok (.enter fid args) W) ∧
    ∀ W, Below w.heap.size w W → ∀ j k : Nat, j < n → k < n → Calls Tryd.prog fid (#[.int .i64 (j : Int), .int .i64 (k : Int)] ++ lb) W (RetQ (.int .u64 (g j k)) W)
theorem Tells.later {w w' : World} {v : Value} {n : Nat} {g : Nat → Nat → Int} (h : Tells w v n g) (hb : Below w.heap.size w w') : Tells w' v n g := by
  obtain ⟨fid, lb, e, he, hc⟩ := h
  exact ⟨fid, lb, e, he, fun W hW => hc W (hb.trans (hW.mono hb.size))⟩

/-- The word at place k of the sums. -/
def summed (p : Int) (ws : List Int) (g : Nat → Nat → Int) (k : Nat) : Int := Fp.sum (fun j => ws.getD j 0 * g j k) ws.length % p

namespace Fp
theorem add_mul_sum {p : Int} (h : kn p = true) (f : Nat → Int) (a b : Int) (m : Nat) (hf : f m = a * b) : add p (sum f m % p) (mul p a b) = sum f (m + 1) % p := by
  rw [add_kn h, mul_kn _ _ h, sum, hf, ← Int.add_emod]
theorem mod_bd {p : Int} (h : kn p = true) (a : Int) : 0 ≤ a % p ∧ a % p < p ∧ a % p < 18446744073709551616 := by
  have := kn_bd h
  have h1 := Int.emod_nonneg a (show p ≠ 0 by omega)
  have h2 := Int.emod_lt_of_pos a (show 0 < p by omega)
  omega
end Fp

/-- What sums returns: a new list at block b. -/
def SumsRet (w : World) (n : Nat) (f : Nat → Int) (e : Ending) (w' : World) : Prop :=
  ∃ b, e = .returned (.slice (some ⟨b, 0, none⟩) n n) ∧ Half .u64 22 w' w.heap.size b n f (fun _ => 0) n ∧ Below w.heap.size w w'

set_option maxHeartbeats 2000000 in
theorem sums_any (p : Int) (x : Option Addr) (n cap : Nat) (ws : List Int) (v : Value) (g : Nat → Nat → Int) (w : World) (h : Fp.kn p = true) (hx : Reads .u64 w w.heap.size x ws) (hn : ws.length = n) (hw : Words ws) (hl : n ≤ 65536)
    (hT : Tells w v n g) (hg : ∀ j k, 0 ≤ g j k ∧ g j k < 18446744073709551616) :
    Calls Tryd.prog 40 #[.int .u64 p, .slice x n cap, v] w (SumsRet w n (summed p ws g)) := by
  subst hn
  obtain ⟨fid, lb, rfl, hE, hC⟩ := hT
  have H := Lib.hid h; clear h
  have HX := Lib.hid hx; clear hx
  have HW := Lib.hid hw; clear hw
  have HC := Lib.hid hC; clear hC
  have HGB := Lib.hid hg; clear hg
  obtain ⟨i0, hi, hz0, hz1, hz2⟩ := info_parts info_u64
  have HZ2 := Lib.hid hz2; clear hz2
  go_enter Tryd.func40, Tryd.ntmps40
  go_wp2_with (at_make; refine wpList_make_full _ rfl _ _ 23 rfl w.heap.size 22 i0 (.int .u64 0) 1 Tryd.underlying23 hi hz0 hz1 .i64 .i64 _ _ ws.length rfl rfl rfl rfl (by rw [HZ2.out]; omega) (by unfold maxLen; omega) (Nat.le_refl _) ?_; intro w1 hown hgrow)
  have hst := Half.start (f := summed p ws g) hown
  have hbl := (Below.refl w.heap.size w).grown hgrow (Nat.le_refl _) (fun k e => by cases e)
  clear hown hgrow hi hz0 hz1
  go_loopw [17] (fun i wr => ∃ k : Nat, k ≤ ws.length ∧ i = .int .i64 (k : Int) ∧ Half .u64 22 wr w.heap.size w.heap.size ws.length (summed p ws g) (fun _ => 0) k ∧ Below w.heap.size w wr) (fun i _ => ws.length - (intOf i).toNat)
  case atStart => exact ⟨0, Nat.zero_le _, rfl, hst, hbl⟩
  case round =>
    obtain ⟨k, hk, rfl, hP, hB⟩ := hrel
    clear hst hbl
    by_cases hlt : k < ws.length
    · have hdk : decide (k < ws.length) = true := by simpa using hlt
      have HP := Lib.hid hP; clear hP
      have HB := Lib.hid hB; clear hB
      go_wp2
      go_loopw [9, 22] (fun s i wi => ∃ m q : Nat, m ≤ ws.length ∧ i = .int .i64 (m : Int) ∧ s = .int .u64 (Fp.sum (fun j => ws.getD j 0 * g j k) m % p) ∧ wi = wr.drewN q) (fun _ i _ => ws.length - (intOf i).toNat)
      case atStart => exact ⟨0, 0, Nat.zero_le _, rfl, by simp [Fp.sum], rfl⟩
      case round =>
        obtain ⟨m, q, hm, rfl, rfl, rfl⟩ := hrel
        by_cases hlm : m < ws.length
        · have hdm : decide (m < ws.length) = true := by simpa using hlm
          obtain ⟨b, off, rfl, hb, hcx⟩ := HX.out (by omega)
          have hx1 := (HB.out.cell (p := ⟨b, off + m, none⟩) hb).trans (hcx m hlm)
          obtain ⟨y0, y1⟩ := HW.out m
          have HS : Hid (Fp.add p (Fp.sum (fun j => ws.getD j 0 * g j k) m % p) (Fp.mul p (ws.getD m 0) (g m k)) = Fp.sum (fun j => ws.getD j 0 * g j k) (m + 1) % p) := Lib.hid (Fp.add_mul_sum H.out _ _ _ _ rfl)
          obtain ⟨z0, z1⟩ := HGB.out m k
          obtain ⟨s0, s1, s2⟩ := Fp.mod_bd H.out (Fp.sum (fun j => ws.getD j 0 * g j k) m)
          obtain ⟨u, hu⟩ : ∃ u, u = ws.getD m 0 := ⟨_, rfl⟩
          obtain ⟨gv, hgv⟩ : ∃ gv, gv = g m k := ⟨_, rfl⟩
          obtain ⟨sv, hsv⟩ : ∃ sv, sv = Fp.sum (fun j => ws.getD j 0 * g j k) m % p := ⟨_, rfl⟩
          have HC1 := Lib.hid (fun W hW => HC.out W hW m k hlm hlt)
          rw [← hu] at hx1 y0 y1 HS
          rw [← hgv] at HS HC1 z0 z1
          rw [← hsv] at HS s0 s1 s2
          rw [← hsv]
          obtain ⟨t0, t1, -⟩ := Fp.mul_bd p u gv
          clear hu hgv hsv hcx
          go_wp2_with (first
            | (go_at_fn fid; refine (HC1.out _ (below_draws HB.out _)).mono ?_; rintro e w' ⟨rfl, n1, rfl⟩)
            | (go_at_call 19; refine (mul_any _ _ _ _ (by omega) (by omega) (by omega) (by omega)).mono ?_; rintro e w' ⟨rfl, n2, rfl⟩)
            | (go_at_call 20; refine (add_any _ _ _ _ (by omega) (by omega) (by omega) (by omega)).mono ?_; rintro e w' ⟨rfl, n3, rfl⟩))
          go_roundw
          case rel => exact ⟨m + 1, _, by omega, by go_num, by rw [HS.out], rfl⟩
          case measure => simp [intOf]; omega
        · obtain rfl : m = ws.length := by omega
          have hP := HP.out
          have hs := hP.step
          have hsB := HB.out.setCell (p := ⟨w.heap.size, k, none⟩) (Nat.le_refl _) (.int .u64 (summed p ws g k))
          have hc := hP.cellNext hlt
          have hf := hP.frozen k
          have hg := hP.lt.2
          have e1 : Fp.sum (fun j => ws.getD j 0 * g j k) ws.length % p = summed p ws g k := rfl
          rw [e1]
          generalize summed p ws g k = sv at hs hsB ⊢
          clear hP e1
          go_wp2
          go_roundw
          case rel => exact ⟨k + 1, by omega, by go_num, hs.draws _, below_draws hsB _⟩
          case measure => simp [intOf]; omega
    · obtain rfl : k = ws.length := by omega
      have hR : SumsRet w ws.length (summed p ws g) (.returned (.slice (some ⟨w.heap.size, 0, none⟩) ws.length ws.length)) wr := ⟨_, rfl, hP, hB⟩
      clear hP hB
      go_wp2
      go_ret
      exact hR

end Go.Proofs.YtmcnamlgbkbiaaaDoor
