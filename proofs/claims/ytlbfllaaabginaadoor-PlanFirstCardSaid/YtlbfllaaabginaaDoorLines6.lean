/-
  Several texts in one: Line, Sums, PowersOf, Dft, Wrap, MathLine.
-/
import Derived.Test.YtlbfllaaabginaaDoorRows2
import Derived.Test.YtlbfllaaabginaaDoorRoots
import Derived.Test.YtlbfllaaabginaaDoorGround
import Derived.Shelf.Abstract
import Derived.Laws.EntriesVeiled

/-!   A line of layer 6: what Check tells of it, the program's and the document's (dft.Check, brackenref06.Check), over every input.
-/

namespace Go.Proofs.YtlbfllaaabginaaDoor
open Go.RowKit

namespace Fp
theorem isIn_iff {p : Int} {f : Nat → Int} (h : kn p = true) (n : Nat) : isIn p f n = true ↔ ∀ j, j < n → f j < p := by
  constructor
  · intro e j hj
    rcases Int.lt_or_le (f j) p with hlt | hge
    · exact hlt
    · rw [isIn_at (by omega) n hj] at e; cases e
  · exact isIn_yes h n
theorem od_bd (neg : Bool) {n : Nat} (h1 : 1 ≤ n) (h2 : n ≤ 4096) : 1 ≤ od neg n ∧ od neg n ≤ 8192 := by
  unfold od; split <;> omega
end Fp

/-- What is wrong with the words xs of a line. -/
def lineE (p : Int) (xs : List Int) (neg : Bool) : Int :=
  if Fp.kn p = false then 2 else if Fac.sm (xs.length : Int) = false then 4 else if (p - 1) % ((Fp.od neg xs.length : Nat) : Int) ≠ 0 then 5 else if Fp.isIn p (fun j => xs.getD j 0) xs.length = false then 7 else 0
/-- There is nothing wrong with them. -/
structure Line (p : Int) (xs : List Int) (neg : Bool) : Prop where
  kn : Fp.kn p = true
  sm : Fac.sm (xs.length : Int) = true
  dvd : (p - 1) % ((Fp.od neg xs.length : Nat) : Int) = 0
  lt : ∀ j, j < xs.length → xs.getD j 0 < p
theorem Line.len {p : Int} {xs : List Int} {neg : Bool} (h : Line p xs neg) : 1 ≤ xs.length ∧ xs.length ≤ 4096 := by
  obtain ⟨h1, h2, _⟩ := Fac.sm_of h.sm
  omega
theorem lineE_cases (p : Int) (xs : List Int) (neg : Bool) :
    lineE p xs neg = 2 ∧ Fp.kn p = false ∨ lineE p xs neg = 4 ∧ Fp.kn p = true ∧ Fac.sm (xs.length : Int) = false ∨
    lineE p xs neg = 5 ∧ Fp.kn p = true ∧ Fac.sm (xs.length : Int) = true ∧ (p - 1) % ((Fp.od neg xs.length : Nat) : Int) ≠ 0 ∨
    lineE p xs neg = 7 ∧ Fp.kn p = true ∧ Fac.sm (xs.length : Int) = true ∧ (p - 1) % ((Fp.od neg xs.length : Nat) : Int) = 0 ∧ Fp.isIn p (fun j => xs.getD j 0) xs.length = false ∨
    lineE p xs neg = 0 ∧ Line p xs neg := by
  unfold lineE
  cases h : Fp.kn p
  · simp
  · cases h1 : Fac.sm (xs.length : Int)
    · simp
    · by_cases h2 : (p - 1) % ((Fp.od neg xs.length : Nat) : Int) = 0
      · cases h3 : Fp.isIn p (fun j => xs.getD j 0) xs.length
        · simp [h2]
        · right; right; right; right
          exact ⟨by simp [h2], h, h1, h2, (Fp.isIn_iff h _).1 h3⟩
      · simp [h2]
theorem lineE_zero {p : Int} {xs : List Int} {neg : Bool} (h : lineE p xs neg = 0) : Line p xs neg := by
  rcases lineE_cases p xs neg with ⟨e, _⟩ | ⟨e, _⟩ | ⟨e, _⟩ | ⟨e, _⟩ | ⟨_, h⟩
  · omega
  · omega
  · omega
  · omega
  · exact h
theorem Line.zero {p : Int} {xs : List Int} {neg : Bool} (h : Line p xs neg) : lineE p xs neg = 0 := by
  unfold lineE
  rw [h.kn, h.sm, h.dvd, (Fp.isIn_iff h.kn _).2 h.lt]
  simp
theorem lineE_bd (p : Int) (xs : List Int) (neg : Bool) : 0 ≤ lineE p xs neg ∧ lineE p xs neg ≤ 7 := by
  rcases lineE_cases p xs neg with ⟨e, _⟩ | ⟨e, _⟩ | ⟨e, _⟩ | ⟨e, _⟩ | ⟨e, _⟩ <;> omega
/-- Another line of as many words of p. -/
theorem Line.other {p : Int} {xs ys : List Int} {neg : Bool} (h : Line p xs neg) (hl : ys.length = xs.length) (hy : ∀ j, j < ys.length → ys.getD j 0 < p) : Line p ys neg :=
  ⟨h.kn, by rw [hl]; exact h.sm, by rw [hl]; exact h.dvd, hy⟩
theorem Line.rootE {p : Int} {xs : List Int} {neg : Bool} (h : Line p xs neg) : rootE p ((Fp.od neg xs.length : Nat) : Int) = 0 := by
  obtain ⟨h1, h2⟩ := h.len
  obtain ⟨o1, o2⟩ := Fp.od_bd neg h1 h2
  unfold Go.Proofs.YtlbfllaaabginaaDoor.rootE
  rw [if_neg (by simp [h.kn]), if_neg (by omega), if_neg (by simp [h.dvd])]
theorem rootE_no {p : Int} {n : Nat} {neg : Bool} (h : Fp.kn p = true) (h1 : 1 ≤ n) (h2 : n ≤ 4096) (hd : (p - 1) % ((Fp.od neg n : Nat) : Int) ≠ 0) : rootE p ((Fp.od neg n : Nat) : Int) = 5 := by
  obtain ⟨o1, o2⟩ := Fp.od_bd neg h1 h2
  unfold rootE
  rw [if_neg (by simp [h]), if_neg (by omega), if_pos hd]
theorem rootE_yes {p : Int} {n : Nat} {neg : Bool} (h : Fp.kn p = true) (h1 : 1 ≤ n) (h2 : n ≤ 4096) (hd : (p - 1) % ((Fp.od neg n : Nat) : Int) = 0) : rootE p ((Fp.od neg n : Nat) : Int) = 0 := by
  obtain ⟨o1, o2⟩ := Fp.od_bd neg h1 h2
  unfold rootE
  rw [if_neg (by simp [h]), if_neg (by omega), if_neg (by simp [hd])]

theorem orderOf_any (n : Nat) (neg : Bool) (w : World) (hn : n ≤ 4096) :
    Calls Tryd.prog 106 #[.int .i64 (n : Int), .bool neg] w fun e w' => e = .returned (.int .i64 ((Fp.od neg n : Nat) : Int)) ∧ w = w' := by
  cases neg
  · go_enter Tryd.func106, Tryd.ntmps106
    go_wp2
    go_ret
    exact ⟨rfl, rfl⟩
  · have hz : (2 : Int) * (n : Int) = ((Fp.od true n : Nat) : Int) := by simp [Fp.od]
    have hb : Fp.od true n ≤ 8192 := by simp [Fp.od]; omega
    generalize Fp.od true n = u at hz hb ⊢
    go_enter Tryd.func106, Tryd.ntmps106
    go_wp2
    go_ret
    exact ⟨rfl, rfl⟩

set_option maxHeartbeats 1000000 in
theorem lcheck_any (p : Int) (x : Option Addr) (n cap : Nat) (xs : List Int) (neg : Bool) (w : World) (hG : Gl w) (hx : Reads .u64 w w.heap.size x xs) (hn : xs.length = n) (hl : n ≤ maxLen) :
    Calls Tryd.prog 105 #[.int .u64 p, .slice x n cap, .bool neg] w (RetB (.int .i64 (lineE p xs neg)) w) := by
  subst hn
  have hl' : (xs.length : Int) ≤ 9223372036854775807 := by unfold maxLen at hl; omega
  have HL := Lib.hid hl; clear hl
  have HS := Lib.hid (smooth_any (xs.length : Int) w)
  rcases lineE_cases p xs neg with ⟨hE, h⟩ | ⟨hE, h, h1⟩ | ⟨hE, h, h1, h2⟩ | ⟨hE, h, h1, h2, h3⟩ | ⟨hE, h⟩
  · rw [hE]
    have H := Lib.hid h
    clear h hE
    go_enter Tryd.func105, Tryd.ntmps105
    go_wp2_with (go_at_call 60; refine (known_no _ _ H.out).mono ?_; rintro e w' ⟨rfl, rfl⟩)
    go_ret
    exact ⟨rfl, Below.refl _ _⟩
  · rw [hE]
    have H := Lib.hid h
    rw [h1] at HS
    clear h h1 hE
    go_enter Tryd.func105, Tryd.ntmps105
    go_wp2_with (first
      | (go_at_call 60; refine (known_yes _ _ H.out).mono ?_; rintro e w' ⟨rfl, rfl⟩)
      | (go_at_call 61; refine HS.out.mono ?_; rintro e w1 ⟨rfl, hB⟩))
    go_ret
    exact ⟨rfl, hB⟩
  · rw [hE]
    obtain ⟨s1, s2, _⟩ := Fac.sm_of h1
    have hR := rootE_no (neg := neg) h (show 1 ≤ xs.length by omega) (by omega) h2
    have HR := Lib.hid (fun W (hG' : Gl W) => root_any p ((Fp.od neg xs.length : Nat) : Int) W hG' (by have := Fp.od_bd neg (show 1 ≤ xs.length by omega) (by omega); omega))
    unfold rootN at HR
    rw [hR, if_neg (by omega)] at HR
    have HO := Lib.hid (fun W => orderOf_any xs.length neg W (by omega))
    have H := Lib.hid h
    have HG := Lib.hid hG
    rw [h1] at HS
    clear h h1 h2 hE hR hG
    go_enter Tryd.func105, Tryd.ntmps105
    go_wp2_with (first
      | (go_at_call 60; refine (known_yes _ _ H.out).mono ?_; rintro e w' ⟨rfl, rfl⟩)
      | (go_at_call 61; refine HS.out.mono ?_; rintro e w1 ⟨rfl, hB⟩)
      | (go_at_call 106; refine (HO.out _).mono ?_; rintro e w' ⟨rfl, rfl⟩)
      | (go_at_call 62; refine (HR.out _ (HG.out.below HG.out.lt hB)).mono ?_; rintro e w2 ⟨rfl, hB2⟩))
    go_ret
    exact ⟨rfl, hB.trans (hB2.mono hB.size)⟩
  · rw [hE]
    obtain ⟨s1, s2, _⟩ := Fac.sm_of h1
    obtain ⟨b, off, rfl, hb, hc⟩ := hx (by omega)
    have hR := rootE_yes (neg := neg) h (show 1 ≤ xs.length by omega) (by omega) h2
    have HR := Lib.hid (fun W (hG' : Gl W) => root_any p ((Fp.od neg xs.length : Nat) : Int) W hG' (by have := Fp.od_bd neg (show 1 ≤ xs.length by omega) (by omega); omega))
    rw [hR] at HR
    have HO := Lib.hid (fun W => orderOf_any xs.length neg W (by omega))
    have HI : Hid (∀ W, Below w.heap.size w W → Calls Tryd.prog 45 #[.int .u64 p, .slice (some ⟨b, off, none⟩) xs.length cap] W fun e w' => e = .returned (.bool false) ∧ W = w') := Lib.hid (fun W hW => by
      rw [← h3]
      exact in_row p b off xs.length cap _ W hl' (fun j hj => (hW.cell (p := ⟨b, off + j, none⟩) hb).trans (hc j hj)))
    have H := Lib.hid h
    have HG := Lib.hid hG
    rw [h1] at HS
    generalize rootN p ((Fp.od neg xs.length : Nat) : Int) = rn at HR
    clear h h1 h2 h3 hE hR hG hc
    go_enter Tryd.func105, Tryd.ntmps105
    go_wp2_with (first
      | (go_at_call 60; refine (known_yes _ _ H.out).mono ?_; rintro e w' ⟨rfl, rfl⟩)
      | (go_at_call 61; refine HS.out.mono ?_; rintro e w1 ⟨rfl, hB⟩)
      | (go_at_call 106; refine (HO.out _).mono ?_; rintro e w' ⟨rfl, rfl⟩)
      | (go_at_call 62; refine (HR.out _ (HG.out.below HG.out.lt hB)).mono ?_; rintro e w2 ⟨rfl, hB2⟩)
      | (go_at_call 45; refine (HI.out _ (hB.trans (hB2.mono hB.size))).mono ?_; rintro e w' ⟨rfl, rfl⟩))
    go_ret
    exact ⟨rfl, hB.trans (hB2.mono hB.size)⟩
  · rw [hE]
    obtain ⟨s1, s2⟩ := h.len
    obtain ⟨b, off, rfl, hb, hc⟩ := hx (by omega)
    have hR := h.rootE
    have HR := Lib.hid (fun W (hG' : Gl W) => root_any p ((Fp.od neg xs.length : Nat) : Int) W hG' (by have := Fp.od_bd neg (show 1 ≤ xs.length by omega) (by omega); omega))
    rw [hR] at HR
    have HO := Lib.hid (fun W => orderOf_any xs.length neg W (by omega))
    have h3 := (Fp.isIn_iff h.kn _).2 h.lt
    have HI : Hid (∀ W, Below w.heap.size w W → Calls Tryd.prog 45 #[.int .u64 p, .slice (some ⟨b, off, none⟩) xs.length cap] W fun e w' => e = .returned (.bool true) ∧ W = w') := Lib.hid (fun W hW => by
      rw [← h3]
      exact in_row p b off xs.length cap _ W hl' (fun j hj => (hW.cell (p := ⟨b, off + j, none⟩) hb).trans (hc j hj)))
    have H := Lib.hid h.kn
    have HG := Lib.hid hG
    rw [h.sm] at HS
    generalize rootN p ((Fp.od neg xs.length : Nat) : Int) = rn at HR
    clear h h3 hE hR hG hc
    go_enter Tryd.func105, Tryd.ntmps105
    go_wp2_with (first
      | (go_at_call 60; refine (known_yes _ _ H.out).mono ?_; rintro e w' ⟨rfl, rfl⟩)
      | (go_at_call 61; refine HS.out.mono ?_; rintro e w1 ⟨rfl, hB⟩)
      | (go_at_call 106; refine (HO.out _).mono ?_; rintro e w' ⟨rfl, rfl⟩)
      | (go_at_call 62; refine (HR.out _ (HG.out.below HG.out.lt hB)).mono ?_; rintro e w2 ⟨rfl, hB2⟩)
      | (go_at_call 45; refine (HI.out _ (hB.trans (hB2.mono hB.size))).mono ?_; rintro e w' ⟨rfl, rfl⟩))
    go_ret
    exact ⟨rfl, hB.trans (hB2.mono hB.size)⟩

end Go.Proofs.YtlbfllaaabginaaDoor

/-!   A function value that tells which power a word goes by, and what dft.sums makes of words by it.
-/

namespace Go.Proofs.YtlbfllaaabginaaDoor
open Go.RowKit Go.Shelf

/-- The function value v tells g at all places below n, wherever all that lay in w lies as it was. -/
def Tells (w : World) (v : Value) (n : Nat) (g : Nat → Nat → Int) : Prop :=
  ∃ (fid : FuncId) (lb : Array Value), v = .func (.func fid) #[] lb ∧ (∀ args W, (callFunc fid args).run Tryd.prog W = .ok (.enter fid args) W) ∧
    ∀ W, Below w.heap.size w W → ∀ j k : Nat, j < n → k < n → Calls Tryd.prog fid (#[.int .i64 (j : Int), .int .i64 (k : Int)] ++ lb) W (RetQ (.int .u64 (g j k)) W)
theorem Tells.later {w w' : World} {v : Value} {n : Nat} {g : Nat → Nat → Int} (h : Tells w v n g) (hb : Below w.heap.size w w') : Tells w' v n g := by
  obtain ⟨fid, lb, e, he, hc⟩ := h
  exact ⟨fid, lb, e, he, fun W hW => hc W (hb.trans (hW.mono hb.size))⟩

/-- The word at place k of the sums. -/
def summed (p : Int) (ws : List Int) (g : Nat → Nat → Int) (k : Nat) : Int := Fp.sum (fun j => ws.getD j 0 * g j k) ws.length % p

namespace Fp
theorem add_mul_sum {p : Int} (h : kn p = true) (f : Nat → Int) (a b : Int) (m : Nat) (hf : f m = a * b) : add p (sum f m % p) (mul p a b) = sum f (m + 1) % p := by
  rw [add_kn h, mul_kn _ _ h, sum, hf, ← Int.add_emod]
theorem mod_bd {p : Int} (h : kn p = true) (a : Int) : 0 ≤ a % p ∧ a % p < p ∧ a % p < 18446744073709551616 := by
  have := kn_bd h
  have h1 := Int.emod_nonneg a (show p ≠ 0 by omega)
  have h2 := Int.emod_lt_of_pos a (show 0 < p by omega)
  omega
end Fp

/-- What sums returns: a new list at block b. -/
def SumsRet (w : World) (n : Nat) (f : Nat → Int) (e : Ending) (w' : World) : Prop :=
  ∃ b, e = .returned (.slice (some ⟨b, 0, none⟩) n n) ∧ Half .u64 22 w' w.heap.size b n f (fun _ => 0) n ∧ Below w.heap.size w w'

set_option maxHeartbeats 2000000 in
theorem sums_any (p : Int) (x : Option Addr) (n cap : Nat) (ws : List Int) (v : Value) (g : Nat → Nat → Int) (w : World) (h : Fp.kn p = true) (hx : Reads .u64 w w.heap.size x ws) (hn : ws.length = n) (hw : Words ws) (hl : n ≤ 65536)
    (hT : Tells w v n g) (hg : ∀ j k, 0 ≤ g j k ∧ g j k < 18446744073709551616) :
    Calls Tryd.prog 108 #[.int .u64 p, .slice x n cap, v] w (SumsRet w n (summed p ws g)) := by
  subst hn
  obtain ⟨fid, lb, rfl, hE, hC⟩ := hT
  have H := Lib.hid h; clear h
  have HX := Lib.hid hx; clear hx
  have HW := Lib.hid hw; clear hw
  have HC := Lib.hid hC; clear hC
  have HGB := Lib.hid hg; clear hg
  obtain ⟨i0, hi, hz0, hz1, hz2⟩ := info_parts info_u64
  have HZ2 := Lib.hid hz2; clear hz2
  go_enter Tryd.func108, Tryd.ntmps108
  go_wp2_with (at_make; refine wpList_make_full _ rfl _ _ 37 rfl w.heap.size 22 i0 (.int .u64 0) 1 Tryd.underlying37 hi hz0 hz1 .i64 .i64 _ _ ws.length rfl rfl rfl rfl (by rw [HZ2.out]; omega) (by unfold maxLen; omega) (Nat.le_refl _) ?_; intro w1 hown hgrow)
  have hst := Half.start (f := summed p ws g) hown
  have hbl := (Below.refl w.heap.size w).grown hgrow (Nat.le_refl _) (fun k e => by cases e)
  clear hown hgrow hi hz0 hz1
  go_loopw [17] (fun i wr => ∃ k : Nat, k ≤ ws.length ∧ i = .int .i64 (k : Int) ∧ Half .u64 22 wr w.heap.size w.heap.size ws.length (summed p ws g) (fun _ => 0) k ∧ Below w.heap.size w wr) (fun i _ => ws.length - (intOf i).toNat)
  case atStart => exact ⟨0, Nat.zero_le _, rfl, hst, hbl⟩
  case round =>
    obtain ⟨k, hk, rfl, hP, hB⟩ := hrel
    clear hst hbl
    by_cases hlt : k < ws.length
    · have hdk : decide (k < ws.length) = true := by simpa using hlt
      have HP := Lib.hid hP; clear hP
      have HB := Lib.hid hB; clear hB
      go_wp2
      go_loopw [9, 22] (fun s i wi => ∃ m q : Nat, m ≤ ws.length ∧ i = .int .i64 (m : Int) ∧ s = .int .u64 (Fp.sum (fun j => ws.getD j 0 * g j k) m % p) ∧ wi = wr.drewN q) (fun _ i _ => ws.length - (intOf i).toNat)
      case atStart => exact ⟨0, 0, Nat.zero_le _, rfl, by simp [Fp.sum], rfl⟩
      case round =>
        obtain ⟨m, q, hm, rfl, rfl, rfl⟩ := hrel
        by_cases hlm : m < ws.length
        · have hdm : decide (m < ws.length) = true := by simpa using hlm
          obtain ⟨b, off, rfl, hb, hcx⟩ := HX.out (by omega)
          have hx1 := (HB.out.cell (p := ⟨b, off + m, none⟩) hb).trans (hcx m hlm)
          obtain ⟨y0, y1⟩ := HW.out m
          have HS : Hid (Fp.add p (Fp.sum (fun j => ws.getD j 0 * g j k) m % p) (Fp.mul p (ws.getD m 0) (g m k)) = Fp.sum (fun j => ws.getD j 0 * g j k) (m + 1) % p) := Lib.hid (Fp.add_mul_sum H.out _ _ _ _ rfl)
          obtain ⟨z0, z1⟩ := HGB.out m k
          obtain ⟨s0, s1, s2⟩ := Fp.mod_bd H.out (Fp.sum (fun j => ws.getD j 0 * g j k) m)
          obtain ⟨u, hu⟩ : ∃ u, u = ws.getD m 0 := ⟨_, rfl⟩
          obtain ⟨gv, hgv⟩ : ∃ gv, gv = g m k := ⟨_, rfl⟩
          obtain ⟨sv, hsv⟩ : ∃ sv, sv = Fp.sum (fun j => ws.getD j 0 * g j k) m % p := ⟨_, rfl⟩
          have HC1 := Lib.hid (fun W hW => HC.out W hW m k hlm hlt)
          rw [← hu] at hx1 y0 y1 HS
          rw [← hgv] at HS HC1 z0 z1
          rw [← hsv] at HS s0 s1 s2
          rw [← hsv]
          obtain ⟨t0, t1, -⟩ := Fp.mul_bd p u gv
          clear hu hgv hsv hcx
          go_wp2_with (first
            | (go_at_fn fid; refine (HC1.out _ (below_draws HB.out _)).mono ?_; rintro e w' ⟨rfl, n1, rfl⟩)
            | (go_at_call 56; refine (mul_any _ _ _ _ (by omega) (by omega) (by omega) (by omega)).mono ?_; rintro e w' ⟨rfl, n2, rfl⟩)
            | (go_at_call 120; refine (add_any _ _ _ _ (by omega) (by omega) (by omega) (by omega)).mono ?_; rintro e w' ⟨rfl, n3, rfl⟩))
          go_roundw
          case rel => exact ⟨m + 1, _, by omega, by go_num, by rw [HS.out], rfl⟩
          case measure => simp [intOf]; omega
        · obtain rfl : m = ws.length := by omega
          have hP := HP.out
          have hs := hP.step
          have hsB := HB.out.setCell (p := ⟨w.heap.size, k, none⟩) (Nat.le_refl _) (.int .u64 (summed p ws g k))
          have hc := hP.cellNext hlt
          have hf := hP.frozen k
          have hg := hP.lt.2
          have e1 : Fp.sum (fun j => ws.getD j 0 * g j k) ws.length % p = summed p ws g k := rfl
          rw [e1]
          generalize summed p ws g k = sv at hs hsB ⊢
          clear hP e1
          go_wp2
          go_roundw
          case rel => exact ⟨k + 1, by omega, by go_num, hs.draws _, below_draws hsB _⟩
          case measure => simp [intOf]; omega
    · obtain rfl : k = ws.length := by omega
      have hR : SumsRet w ws.length (summed p ws g) (.returned (.slice (some ⟨w.heap.size, 0, none⟩) ws.length ws.length)) wr := ⟨_, rfl, hP, hB⟩
      clear hP hB
      go_wp2
      go_ret
      exact hR

end Go.Proofs.YtlbfllaaabginaaDoor

/-!   The closures of package dft that tell which power a word goes by, and dft.powersOf, which makes them.
-/

namespace Go.Proofs.YtlbfllaaabginaaDoor
open Go.RowKit Go.Shelf

theorem pws_get (p a : Int) (n i : Nat) (hi : i < n) : (pws p a n).getD i 0 = Fp.pw p a i := by simp [pws, hi]

/-- What the closure reads: the table of powers, and how many there are. -/
def Table (W : World) (Bp Bo : Nat) (p r : Int) (o : Nat) : Prop :=
  ∃ g cap, W.cell? ⟨Bp, 0, none⟩ = some (.slice (some ⟨g, 0, none⟩) o cap) ∧ W.cell? ⟨Bo, 0, none⟩ = some (.int .i64 (o : Int)) ∧ ∀ i, i < o → W.cell? ⟨g, i, none⟩ = some (.int .u64 (Fp.pw p r i))

set_option maxHeartbeats 1000000 in
theorem powersOf1_any (Bp Bo : Nat) (p r : Int) (n j k : Nat) (W : World) (hT : Table W Bp Bo p r (2 * n)) (h1 : 1 ≤ n) (h2 : n ≤ 4096) (hj : j < n) (hk : k < n) :
    Calls Tryd.prog 118 #[.int .i64 (j : Int), .int .i64 (k : Int), .pointer (some ⟨Bp, 0, none⟩), .pointer (some ⟨Bo, 0, none⟩)] W (RetQ (.int .u64 (Fp.pw p r (Fp.ex true j k % (2 * n)))) W) := by
  obtain ⟨g, cap, c1, c2, c3⟩ := hT
  obtain ⟨o, ho⟩ : ∃ o, o = 2 * n := ⟨_, rfl⟩
  rw [← ho] at c1 c2 c3 ⊢
  obtain ⟨u, hu⟩ : ∃ u, u = Fp.ex true j k := ⟨_, rfl⟩
  obtain ⟨a, ha⟩ : ∃ a : Nat, (2 : Int) * (k : Int) = (a : Int) := ⟨2 * k, by omega⟩
  obtain ⟨b, hb⟩ : ∃ b : Nat, (a : Int) + 1 = (b : Int) := ⟨a + 1, by omega⟩
  have hz : (j : Int) * (b : Int) = (u : Int) := by rw [hu, ← hb, ← ha]; simp [Fp.ex]
  have hab : a ≤ 8192 ∧ b ≤ 8193 := by omega
  obtain ⟨hab1, hab2⟩ := hab
  have hub : u ≤ 4096 * 8192 := by
    rw [hu]
    simp only [Fp.ex, if_true]
    exact Nat.mul_le_mul (by omega) (by omega)
  obtain ⟨i, hi⟩ : ∃ i, i = u % o := ⟨_, rfl⟩
  have hlt : i < o := by rw [hi]; exact Nat.mod_lt _ (by omega)
  have hcm : (u : Int) % (o : Int) = (i : Int) := by rw [hi]; exact cast_mod u o
  have c4 := c3 i hlt
  rw [← hu, ← hi]
  have ho0 : (o : Int) ≠ 0 := by omega
  have hob : o ≤ 8192 := by omega
  clear c3 hu hi ho
  go_enter Tryd.func118, Tryd.ntmps118
  go_wp2
  go_quiet (fail)
  go_wp2
  go_ret
  exact ⟨rfl, _, rfl⟩

set_option maxHeartbeats 1000000 in
theorem powersOf2_any (Bp Bo : Nat) (p r : Int) (n j k : Nat) (W : World) (hT : Table W Bp Bo p r n) (h1 : 1 ≤ n) (h2 : n ≤ 4096) (hj : j < n) (hk : k < n) :
    Calls Tryd.prog 119 #[.int .i64 (j : Int), .int .i64 (k : Int), .pointer (some ⟨Bp, 0, none⟩), .pointer (some ⟨Bo, 0, none⟩)] W (RetQ (.int .u64 (Fp.pw p r (Fp.ex false j k % n))) W) := by
  obtain ⟨g, cap, c1, c2, c3⟩ := hT
  obtain ⟨u, hu⟩ : ∃ u, u = Fp.ex false j k := ⟨_, rfl⟩
  have hz : (j : Int) * (k : Int) = (u : Int) := by rw [hu]; simp [Fp.ex]
  have hub : u ≤ 4096 * 4096 := by
    rw [hu]
    simp only [Fp.ex, Bool.false_eq_true, if_false]
    exact Nat.mul_le_mul (by omega) (by omega)
  obtain ⟨i, hi⟩ : ∃ i, i = u % n := ⟨_, rfl⟩
  have hlt : i < n := by rw [hi]; exact Nat.mod_lt _ (by omega)
  have hcm : (u : Int) % (n : Int) = (i : Int) := by rw [hi]; exact cast_mod u n
  have c4 := c3 i hlt
  rw [← hu, ← hi]
  have ho0 : (n : Int) ≠ 0 := by omega
  clear c3 hu hi
  go_enter Tryd.func119, Tryd.ntmps119
  go_wp2
  go_quiet (fail)
  go_wp2
  go_ret
  exact ⟨rfl, _, rfl⟩

/-- The power that word j goes by in sum k, out of a table of all powers. -/
def gof (p r : Int) (neg : Bool) (n : Nat) (j k : Nat) : Int := Fp.pw p r (Fp.ex neg j k % Fp.od neg n)
theorem gof_bd (p r : Int) (neg : Bool) (n j k : Nat) : 0 ≤ gof p r neg n j k ∧ gof p r neg n j k < 18446744073709551616 := by
  obtain ⟨h1, h2, _⟩ := Fp.pw_bd p r (Fp.ex neg j k % Fp.od neg n)
  exact ⟨h1, by unfold gof; omega⟩
/-- What powersOf returns: a function value that tells them. -/
def TellRet (w : World) (n : Nat) (g : Nat → Nat → Int) (e : Ending) (w' : World) : Prop := ∃ v, e = .returned v ∧ Tells w' v n g ∧ Below w.heap.size w w'

theorem Table.keep {W W' : World} {Bp Bo : Nat} {p r : Int} {o B : Nat} (h : Table W Bp Bo p r o) (h1 : 1 ≤ o) (hB : W.heap.size ≤ B) (hb : Below B W W') : Table W' Bp Bo p r o := by
  obtain ⟨g, cap, c1, c2, c3⟩ := h
  have l1 := World.block_lt_of_cell? _ _ c1
  have l2 := World.block_lt_of_cell? _ _ c2
  have l3 := World.block_lt_of_cell? _ _ (c3 0 (by omega))
  exact ⟨g, cap, (hb.cell (Nat.lt_of_lt_of_le l1 hB)).trans c1, (hb.cell (Nat.lt_of_lt_of_le l2 hB)).trans c2, fun i hi => (hb.cell (p := ⟨g, i, none⟩) (Nat.lt_of_lt_of_le l3 hB)).trans (c3 i hi)⟩

theorem table_made {w w2 : World} {p r : Int} {o cap g : Nat} (ho : 1 ≤ o) (hB : Below (w.heap.size + 1) (w.alloc (.cells #[.int .i64 (o : Int)] 3)) w2) (hR : Reads .u64 w2 w2.heap.size (some ⟨g, 0, none⟩) (pws p r o)) :
    Table (w2.alloc (.cells #[.slice (some ⟨g, 0, none⟩) o cap] 37)) w2.heap.size w.heap.size p r o := by
  have b0 := Boxed.new w 3 (.int .i64 (o : Int))
  have b1 := Boxed.new w2 37 (.slice (some ⟨g, 0, none⟩) o cap)
  have hs : w.heap.size < w2.heap.size := by have := hB.size; simp at this; omega
  have hb : Below w2.heap.size w2 (w2.alloc (.cells #[.slice (some ⟨g, 0, none⟩) o cap] 37)) := (Below.refl _ w2).alloc (Nat.le_refl _) _
  refine ⟨g, cap, b1.cell, ?_, fun i hi => ?_⟩
  · exact (hb.cell (p := ⟨w.heap.size, 0, none⟩) hs).trans ((hB.cell (p := ⟨w.heap.size, 0, none⟩) (by show w.heap.size < _; omega)).trans b0.cell)
  · obtain ⟨b, off, e, hlt, hc⟩ := hR (by rw [pws_len]; omega)
    cases e
    have := hc i (by rw [pws_len]; exact hi)
    rw [pws_get _ _ _ _ hi, Nat.zero_add] at this
    exact (hb.cell (p := ⟨g, i, none⟩) hlt).trans this

set_option maxHeartbeats 1000000 in
theorem powersOf_any (p r : Int) (n : Nat) (neg : Bool) (w : World) (h : Fp.kn p = true) (r0 : 0 ≤ r) (r1 : r < 18446744073709551616) (h1 : 1 ≤ n) (h2 : n ≤ 4096) :
    Calls Tryd.prog 107 #[.int .u64 p, .int .u64 r, .int .i64 (n : Int), .bool neg] w (TellRet w n (gof p r neg n)) := by
  have H := Lib.hid h; clear h
  have HO := Lib.hid (fun W => orderOf_any n neg W h2)
  obtain ⟨o1, o2⟩ := Fp.od_bd neg h1 h2
  have hs : (w.alloc (.cells #[.int .i64 ((Fp.od neg n : Nat) : Int)] 3)).heap.size = w.heap.size + 1 := by simp
  have HB0 : Hid (Below w.heap.size w (w.alloc (.cells #[.int .i64 ((Fp.od neg n : Nat) : Int)] 3))) := Lib.hid ((Below.refl _ w).alloc (Nat.le_refl _) _)
  have HR := Lib.hid (powers_yes p r (Fp.od neg n) (w.alloc (.cells #[.int .i64 ((Fp.od neg n : Nat) : Int)] 3)) H.out r0 r1 (by omega))
  have HT : Hid (∀ cap g w2, Below (w.heap.size + 1) (w.alloc (.cells #[.int .i64 ((Fp.od neg n : Nat) : Int)] 3)) w2 → Reads .u64 w2 w2.heap.size (some ⟨g, 0, none⟩) (pws p r (Fp.od neg n)) → Table (w2.alloc (.cells #[.slice (some ⟨g, 0, none⟩) (Fp.od neg n) cap] 37)) w2.heap.size w.heap.size p r (Fp.od neg n)) := Lib.hid (fun cap g w2 => table_made o1)
  have HF : Hid (∀ Bp Bo W, Table W Bp Bo p r (Fp.od neg n) → Tells W (.func (.func (if neg = true then 118 else 119)) #[] #[.pointer (some ⟨Bp, 0, none⟩), .pointer (some ⟨Bo, 0, none⟩)]) n (gof p r neg n)) := Lib.hid (fun Bp Bo W hT => by
    cases neg with
    | false => exact ⟨119, _, rfl, enters_of Tryd.func119 (by kernel_rfl) rfl, fun W' hW j k hj hk => powersOf2_any Bp Bo p r n j k W' (hT.keep o1 (Nat.le_refl _) hW) h1 h2 hj hk⟩
    | true => exact ⟨118, _, rfl, enters_of Tryd.func118 (by kernel_rfl) rfl, fun W' hW j k hj hk => powersOf1_any Bp Bo p r n j k W' (hT.keep o1 (Nat.le_refl _) hW) h1 h2 hj hk⟩)
  generalize hod : Fp.od neg n = o at HO HR HT HF o1 o2 HB0
  obtain ⟨w1, hw1⟩ : ∃ w1, w1 = w.alloc (.cells #[.int .i64 (o : Int)] 3) := ⟨_, rfl⟩
  clear hs hod
  cases neg
  · go_enter Tryd.func107, Tryd.ntmps107
    go_wp2_with (first
      | (go_at_call 106; refine (HO.out _).mono ?_; rintro e w' ⟨rfl, rfl⟩)
      | (go_at_call 83; refine HR.out.mono ?_; rintro e w2 ⟨v, rfl, hO, hB⟩; obtain ⟨x, cap, rfl, hc1, hc2, hRd, hX⟩ := hO.form; rw [pws_len] at hX hc1; obtain ⟨g, rfl, hg1, hg2⟩ := hX (by omega); rw [pws_len]; have HK := Lib.hid (And.intro hRd hB); clear hRd hB hO hX))
    go_ret
    have hT := HT.out cap g w2 (by have := HK.out.2; simpa using this) HK.out.1
    refine ⟨_, rfl, HF.out _ _ _ hT, ?_⟩
    have hB2 := HB0.out.trans (HK.out.2.mono HB0.out.size)
    exact hB2.alloc hB2.size _
  · go_enter Tryd.func107, Tryd.ntmps107
    go_wp2_with (first
      | (go_at_call 106; refine (HO.out _).mono ?_; rintro e w' ⟨rfl, rfl⟩)
      | (go_at_call 83; refine HR.out.mono ?_; rintro e w2 ⟨v, rfl, hO, hB⟩; obtain ⟨x, cap, rfl, hc1, hc2, hRd, hX⟩ := hO.form; rw [pws_len] at hX hc1; obtain ⟨g, rfl, hg1, hg2⟩ := hX (by omega); rw [pws_len]; have HK := Lib.hid (And.intro hRd hB); clear hRd hB hO hX))
    go_ret
    have hT := HT.out cap g w2 (by have := HK.out.2; simpa using this) HK.out.1
    refine ⟨_, rfl, HF.out _ _ _ hT, ?_⟩
    have hB2 := HB0.out.trans (HK.out.2.mono HB0.out.size)
    exact hB2.alloc hB2.size _

end Go.Proofs.YtlbfllaaabginaaDoor

/-!   What Forward and Inverse of package dft come to, over every input: the sums of XMathDft.
-/

namespace Go.Proofs.YtlbfllaaabginaaDoor
open Go.RowKit Go.Shelf

/-- A list's words by their places. -/
def nth (xs : List Int) (j : Nat) : Int := xs.getD j 0
/-- The root of a line, and what undoes it. -/
def rtl (p : Int) (neg : Bool) (n : Nat) : Int := Fp.rt p (Fp.od neg n)
def bkl (p : Int) (neg : Bool) (n : Nat) : Int := Fp.inv p (rtl p neg n)
/-- A line transformed, and back, word by word. -/
def fwdN (p : Int) (xs : List Int) (neg : Bool) (k : Nat) : Int := Fp.fw (rtl p neg xs.length) neg xs.length (nth xs) k % p
def bwdN (p : Int) (xs : List Int) (neg : Bool) (j : Nat) : Int := Fp.mul p (Fp.bw (bkl p neg xs.length) neg xs.length (nth xs) j % p) (Fp.inv p xs.length)
def fwd (p : Int) (xs : List Int) (neg : Bool) : List Int := if lineE p xs neg = 0 then (List.range xs.length).map (fwdN p xs neg) else []
def bwd (p : Int) (xs : List Int) (neg : Bool) : List Int := if lineE p xs neg = 0 then (List.range xs.length).map (bwdN p xs neg) else []

/-- A list in memory of its own, and an error's number. -/
def LineRet (w : World) (xs : List Int) (er : Int) (e : Ending) (w' : World) : Prop := ∃ v, e = .returned (.tuple #[v, .int .i64 er]) ∧ Owns .u64 22 w' w.heap.size v xs ∧ Below w.heap.size w w'

theorem Line.turns {p : Int} {xs : List Int} {neg : Bool} (h : Line p xs neg) : Fp.Turns p (rtl p neg xs.length) (bkl p neg xs.length) (Fp.od neg xs.length) := by
  obtain ⟨h1, h2⟩ := h.len
  obtain ⟨o1, o2⟩ := Fp.od_bd neg h1 h2
  have hd := rt_dvd h.kn (n := ((Fp.od neg xs.length : Nat) : Int)) (by omega) h.dvd
  rw [Int.toNat_natCast] at hd
  exact Fp.rt_turns h.kn hd (by omega)

namespace Fp
theorem turns_mod {p w v : Int} {N : Nat} (h : Turns p w v N) (m : Nat) : eqm p (pw p w (m % N)) (w ^ m) := by
  rw [pw_kn _ _ h.kn]
  refine (eqm_md p _).trans ?_
  have e : w ^ m = w ^ (N * (m / N)) * w ^ (m % N) := by rw [← Int.pow_add, Nat.div_add_mod]
  rw [e]
  have := ((h.pw (N * (m / N))).2 (Nat.dvd_mul_right _ _)).mul (eqm.rfl (p := p) (a := w ^ (m % N)))
  rw [Int.one_mul] at this
  exact this.symm
end Fp
theorem summed_fw {p : Int} {xs : List Int} {neg : Bool} {r v : Int} (h : Fp.Turns p r v (Fp.od neg xs.length)) (k : Nat) :
    summed p xs (gof p r neg xs.length) k = Fp.fw r neg xs.length (nth xs) k % p :=
  Fp.sum_mod fun _ _ => Fp.eqm.rfl.mul (Fp.turns_mod h _)
theorem summed_bw {p : Int} {xs : List Int} {neg : Bool} {r v : Int} (h : Fp.Turns p r v (Fp.od neg xs.length)) (j : Nat) :
    summed p xs (fun k j => gof p r neg xs.length j k) j = Fp.bw r neg xs.length (nth xs) j % p :=
  Fp.sum_mod fun _ _ => Fp.eqm.rfl.mul (Fp.turns_mod h _)

theorem ne_of_bne {a : Int} (h : a ≠ 0) : (a != 0) = true := by rw [bne_iff_ne]; exact h

set_option maxHeartbeats 1000000 in
theorem forward_any (p : Int) (x : Option Addr) (n cap : Nat) (xs : List Int) (neg : Bool) (w : World) (hG : Gl w) (hx : Reads .u64 w w.heap.size x xs) (hn : xs.length = n) (hw : Words xs) (hl : n ≤ maxLen) :
    Calls Tryd.prog 96 #[.int .u64 p, .slice x n cap, .bool neg] w (LineRet w (fwd p xs neg) (lineE p xs neg)) := by
  subst hn
  have HCk := Lib.hid (lcheck_any p x xs.length cap xs neg w hG hx rfl hl)
  by_cases hE : lineE p xs neg = 0
  · have h := lineE_zero hE
    unfold fwd
    rw [hE, if_pos rfl]
    rw [hE] at HCk
    obtain ⟨h1, h2⟩ := h.len
    obtain ⟨o1, o2⟩ := Fp.od_bd neg h1 h2
    have HO := Lib.hid (fun W => orderOf_any xs.length neg W h2)
    have HR := Lib.hid (fun W (hG' : Gl W) => root_any p ((Fp.od neg xs.length : Nat) : Int) W hG' (by omega))
    unfold rootN at HR
    rw [h.rootE, if_pos rfl, Int.toNat_natCast] at HR
    obtain ⟨r0, r1, -⟩ := Fp.rt_bd p (Fp.od neg xs.length)
    have HP := Lib.hid (fun W => powersOf_any p (Fp.rt p (Fp.od neg xs.length)) xs.length neg W h.kn r0 (by omega) h1 h2)
    have HS := Lib.hid (fun W v (hx : Reads .u64 W W.heap.size x xs) (hT : Tells W v xs.length (gof p (Fp.rt p (Fp.od neg xs.length)) neg xs.length)) => sums_any p x xs.length cap xs v _ W h.kn hx rfl hw (by omega) hT (gof_bd _ _ _ _))
    have HF : Hid (∀ k, summed p xs (gof p (Fp.rt p (Fp.od neg xs.length)) neg xs.length) k = fwdN p xs neg k) := Lib.hid (fun k => summed_fw h.turns k)
    have HG := Lib.hid hG
    have HX := Lib.hid hx
    have hle : xs.length ≤ 4096 := h2
    generalize Fp.rt p (Fp.od neg xs.length) = r at HR HP HS HF
    generalize Fp.od neg xs.length = o at HO HR
    clear hE h hG hx hw hl h1 h2 r0 r1 o1 o2
    go_enter Tryd.func96, Tryd.ntmps96
    go_wp2_with (first
      | (go_at_call 105; refine HCk.out.mono ?_; rintro e w1 ⟨rfl, hB1⟩)
      | (go_at_call 106; refine (HO.out _).mono ?_; rintro e w' ⟨rfl, rfl⟩)
      | (go_at_call 62; refine (HR.out _ (HG.out.below HG.out.lt hB1)).mono ?_; rintro e w2 ⟨rfl, hB2⟩)
      | (go_at_call 107; refine (HP.out _).mono ?_; rintro e w3 ⟨v, rfl, hT, hB3⟩; have HB : Hid (Below w.heap.size w w3) := Lib.hid ((hB1.trans (hB2.mono hB1.size)).trans (hB3.mono (Nat.le_trans hB1.size hB2.size))); have HT := Lib.hid hT; clear hT)
      | (go_at_call 108; refine (HS.out _ _ ((HX.out.below HB.out).more HB.out.size) HT.out).mono ?_; rintro e w4 ⟨b, rfl, hH, hB4⟩))
    go_ret2
    have hA := hH.all
    rw [List.map_congr_left (fun k _ => HF.out k)] at hA
    exact ⟨_, rfl, hA.mono HB.out.size, HB.out.trans (hB4.mono HB.out.size)⟩
  · unfold fwd
    rw [if_neg hE]
    have t := ne_of_bne hE
    clear hE hG hx hw hl
    go_enter Tryd.func96, Tryd.ntmps96
    go_wp2_with (go_at_call 105; refine HCk.out.mono ?_; rintro e w1 ⟨rfl, hB1⟩)
    go_ret2
    exact ⟨_, rfl, Owns.nil, hB1⟩

theorem Tells.form {w : World} {v : Value} {n : Nat} {g : Nat → Nat → Int} (h : Tells w v n g) : ∃ fid lb, v = .func (.func fid) #[] lb := by
  obtain ⟨a, b, c, _⟩ := h
  exact ⟨a, b, c⟩

/-- The closure that takes word and sum the other way round. -/
theorem inverse1_any {w : World} {v : Value} {n : Nat} {g : Nat → Nat → Int} (hT : Tells w v n g) (B : Nat) (W : World) (hB : Below w.heap.size w W) (hc : W.cell? ⟨B, 0, none⟩ = some v) (j k : Nat) (hj : j < n) (hk : k < n) :
    Calls Tryd.prog 109 #[.int .i64 (k : Int), .int .i64 (j : Int), .pointer (some ⟨B, 0, none⟩)] W (RetQ (.int .u64 (g j k)) W) := by
  obtain ⟨fid, lb, rfl, hE, hC⟩ := hT
  have HC := Lib.hid (hC W hB j k hj hk)
  clear hC
  go_enter Tryd.func109, Tryd.ntmps109
  go_wp2_with (go_at_fn fid; refine HC.out.mono ?_; rintro e w' ⟨rfl, n1, rfl⟩)
  go_ret
  exact ⟨rfl, _, rfl⟩

theorem tells_turned {w : World} {v : Value} {n : Nat} {g : Nat → Nat → Int} (hT : Tells w v n g) :
    Tells (w.alloc (.cells #[v] 131)) (.func (.func 109) #[] #[.pointer (some ⟨w.heap.size, 0, none⟩)]) n (fun k j => g j k) := by
  have hb0 : Below w.heap.size w (w.alloc (.cells #[v] 131)) := (Below.refl _ w).alloc (Nat.le_refl _) _
  refine ⟨109, _, rfl, enters_of Tryd.func109 (by kernel_rfl) rfl, fun W hW k j hk hj => ?_⟩
  have hs : w.heap.size < (w.alloc (.cells #[v] 131)).heap.size := by simp
  refine inverse1_any hT w.heap.size W (hb0.trans (hW.mono hb0.size)) ?_ j k hj hk
  exact (hW.cell (p := ⟨w.heap.size, 0, none⟩) hs).trans (Boxed.new w 131 v).cell

theorem Half.again {k : IntKind} {e : TypeId} {wr : World} {base g n : Nat} {f f0 f1 : Nat → Int} (h : Half k e wr base g n f f0 n) : Half k e wr base g n f1 f 0 := by
  unfold Half at *
  rw [mixed_all] at h
  rw [mixed_zero]
  exact h

set_option maxHeartbeats 2000000 in
theorem inverse_any (p : Int) (x : Option Addr) (n cap : Nat) (xs : List Int) (neg : Bool) (w : World) (hG : Gl w) (hx : Reads .u64 w w.heap.size x xs) (hn : xs.length = n) (hw : Words xs) (hl : n ≤ maxLen) :
    Calls Tryd.prog 95 #[.int .u64 p, .slice x n cap, .bool neg] w (LineRet w (bwd p xs neg) (lineE p xs neg)) := by
  subst hn
  have HCk := Lib.hid (lcheck_any p x xs.length cap xs neg w hG hx rfl hl)
  by_cases hE : lineE p xs neg = 0
  · have h := lineE_zero hE
    unfold bwd
    rw [hE, if_pos rfl]
    rw [hE] at HCk
    obtain ⟨h1, h2⟩ := h.len
    obtain ⟨o1, o2⟩ := Fp.od_bd neg h1 h2
    obtain ⟨p1, p2⟩ := Fp.kn_bd h.kn
    have HO := Lib.hid (fun W => orderOf_any xs.length neg W h2)
    have HR := Lib.hid (fun W (hG' : Gl W) => back_any p ((Fp.od neg xs.length : Nat) : Int) W hG' (by omega))
    unfold backN at HR
    rw [h.rootE, if_pos rfl, Int.toNat_natCast] at HR
    obtain ⟨r0, r1, -⟩ := Fp.inv_bd p (Fp.rt p (Fp.od neg xs.length))
    have HP := Lib.hid (fun W => powersOf_any p (Fp.inv p (Fp.rt p (Fp.od neg xs.length))) xs.length neg W h.kn r0 (by omega) h1 h2)
    have HS := Lib.hid (fun W v (hx : Reads .u64 W W.heap.size x xs) (hT : Tells W v xs.length (fun k j => gof p (Fp.inv p (Fp.rt p (Fp.od neg xs.length))) neg xs.length j k)) => sums_any p x xs.length cap xs v _ W h.kn hx rfl hw (by omega) hT (fun j k => gof_bd _ _ _ _ k j))
    have HF : Hid (∀ j, summed p xs (fun k j => gof p (Fp.inv p (Fp.rt p (Fp.od neg xs.length))) neg xs.length j k) j = Fp.bw (bkl p neg xs.length) neg xs.length (nth xs) j % p) := Lib.hid (fun j => summed_bw h.turns.flip j)
    have hz : Fp.red p (xs.length : Int) ≠ 0 := by
      have : Fp.red p (xs.length : Int) = (xs.length : Int) % p := by unfold Fp.red; rw [if_pos h.kn]
      rw [this, Int.emod_eq_of_lt (by omega) (by omega)]
      omega
    have HI := Lib.hid (fun W => inv_yes p (xs.length : Int) W h.kn (by omega) (by omega) hz)
    obtain ⟨v0, v1, -⟩ := Fp.inv_bd p (xs.length : Int)
    have HG := Lib.hid hG
    have HX := Lib.hid hx
    have HK := Lib.hid h.kn
    have hle : xs.length ≤ 4096 := h2
    have HN : Hid (∀ j, bwdN p xs neg j = Fp.mul p (summed p xs (fun k j => gof p (Fp.inv p (Fp.rt p (Fp.od neg xs.length))) neg xs.length j k) j) (Fp.inv p xs.length)) := Lib.hid (fun j => by rw [HF.out]; rfl)
    have HM : Hid (∀ j, 0 ≤ summed p xs (fun k j => gof p (Fp.inv p (Fp.rt p (Fp.od neg xs.length))) neg xs.length j k) j ∧ summed p xs (fun k j => gof p (Fp.inv p (Fp.rt p (Fp.od neg xs.length))) neg xs.length j k) j < 18446744073709551616) := Lib.hid (fun j => by rw [HF.out]; obtain ⟨a, _, b⟩ := Fp.mod_bd HK.out (Fp.bw (bkl p neg xs.length) neg xs.length (nth xs) j); exact ⟨a, b⟩)
    generalize summed p xs (fun k j => gof p (Fp.inv p (Fp.rt p (Fp.od neg xs.length))) neg xs.length j k) = sm at HS HN HM
    generalize Fp.inv p (Fp.rt p (Fp.od neg xs.length)) = r at HR HP HS
    generalize Fp.inv p (xs.length : Int) = iv at HI HN v0 v1
    generalize Fp.od neg xs.length = o at HO HR
    clear hE h hG hx hw hl h1 h2 r0 r1 o1 o2 HF hz
    go_enter Tryd.func95, Tryd.ntmps95
    go_wp2_with (first
      | (go_at_call 105; refine HCk.out.mono ?_; rintro e w1 ⟨rfl, hB1⟩)
      | (go_at_call 106; refine (HO.out _).mono ?_; rintro e w' ⟨rfl, rfl⟩)
      | (go_at_call 103; refine (HR.out _ (HG.out.below HG.out.lt hB1)).mono ?_; rintro e w2 ⟨rfl, hB2⟩)
      | (go_at_call 84; refine (HI.out _).mono ?_; rintro e w' ⟨rfl, nd, rfl⟩)
      | (go_at_call 107; refine (HP.out _).mono ?_; rintro e w3 ⟨v, rfl, hT, hB3⟩; obtain ⟨fid, lb, rfl⟩ := hT.form; have HB : Hid (Below w.heap.size w w3) := Lib.hid ((hB1.trans ((below_draws hB2 nd).mono hB1.size)).trans (hB3.mono (Nat.le_trans hB1.size hB2.size))); have HT := Lib.hid (tells_turned hT); have HB3 : Hid (Below w.heap.size w (w3.alloc (.cells #[.func (.func fid) #[] lb] 131))) := Lib.hid (HB.out.alloc HB.out.size _); clear hT)
      | (go_at_call 108; refine (HS.out _ _ ((HX.out.below HB3.out).more HB3.out.size) HT.out).mono ?_; rintro e w4 ⟨b, rfl, hH, hB4⟩))
    have hA : Half .u64 22 w4 w.heap.size b xs.length (bwdN p xs neg) sm 0 := Half.again (Owns.mono hH HB3.out.size)
    have hB5 := HB3.out.trans (hB4.mono HB3.out.size)
    clear hH hB4 HB HT HB3 hB1 hB2 hB3
    go_loopw [53] (fun i wr => ∃ k : Nat, k ≤ xs.length ∧ i = .int .i64 (k : Int) ∧ Half .u64 22 wr w.heap.size b xs.length (bwdN p xs neg) sm k ∧ Below w.heap.size w wr) (fun i _ => xs.length - (intOf i).toNat)
    case atStart => exact ⟨0, Nat.zero_le _, rfl, hA, hB5⟩
    case round =>
      obtain ⟨k, hk, rfl, hP, hB⟩ := hrel
      clear hA hB5
      by_cases hlt : k < xs.length
      · have hs := hP.step
        have hsB := hB.setCell (p := ⟨b, k, none⟩) hP.lt.1 (.int .u64 (bwdN p xs neg k))
        have hc := hP.cellNext hlt
        have hf := hP.frozen k
        have hg := hP.lt.2
        obtain ⟨s0, s1⟩ := HM.out k
        rw [HN.out k] at hs hsB
        obtain ⟨sv, hsv⟩ : ∃ sv, sv = sm k := ⟨_, rfl⟩
        rw [← hsv] at hs hsB hc s0 s1
        clear hP hB hsv
        have HSS := Lib.hid (And.intro hs hsB)
        clear hs hsB
        go_wp2_with (go_at_call 56; refine (mul_any _ _ _ _ (by omega) (by omega) (by omega) (by omega)).mono ?_; rintro e w' ⟨rfl, nd, rfl⟩)
        go_roundw
        case rel => exact ⟨k + 1, by omega, by go_num, HSS.out.1.draws _, below_draws HSS.out.2 _⟩
        case measure => simp [intOf]; omega
      · obtain rfl : k = xs.length := by omega
        have hR : LineRet w ((List.range xs.length).map (bwdN p xs neg)) 0 (.returned (.tuple #[.slice (some ⟨b, 0, none⟩) xs.length xs.length, .int .i64 0])) wr := ⟨_, rfl, hP.all, hB⟩
        clear hP hB
        go_wp2
        go_ret2
        exact hR
  · unfold bwd
    rw [if_neg hE]
    have t := ne_of_bne hE
    clear hE hG hx hw hl
    go_enter Tryd.func95, Tryd.ntmps95
    go_wp2_with (go_at_call 105; refine HCk.out.mono ?_; rintro e w1 ⟨rfl, hB1⟩)
    go_ret2
    exact ⟨_, rfl, Owns.nil, hB1⟩

end Go.Proofs.YtlbfllaaabginaaDoor

/-!   What dft.Wrap comes to, over every input: the product that goes around of XMathDft.
-/

namespace Go.Proofs.YtlbfllaaabginaaDoor
open Go.RowKit Go.Shelf

/-- A row of n places at block g that holds f. -/
def RowAt (k : IntKind) (e : TypeId) (wr : World) (base g n : Nat) (f : Nat → Int) : Prop := Owns k e wr base (.slice (some ⟨g, 0, none⟩) n n) ((List.range n).map f)
section
variable {k : IntKind} {e : TypeId} {wr : World} {base g n : Nat} {f f' : Nat → Int}
theorem RowAt.half (h : RowAt k e wr base g n f) (f1 : Nat → Int) : Half k e wr base g n f1 f 0 := by unfold Half; rw [mixed_zero]; exact h
theorem RowAt.cell (h : RowAt k e wr base g n f) (j : Nat) (hj : j < n) : wr.cell? ⟨g, j, none⟩ = some (.int k (f j)) := by
  have := (h.half f).cell j hj
  rwa [if_neg (by omega)] at this
theorem RowAt.frozen (h : RowAt k e wr base g n f) (j : Nat) : wr.frozen? ⟨g, j, none⟩ = false := (h.half f).frozen j
theorem RowAt.lt (h : RowAt k e wr base g n f) : base ≤ g ∧ g < wr.heap.size := (h.half f).lt
theorem RowAt.draws (h : RowAt k e wr base g n f) (m : Nat) : RowAt k e (wr.drewN m) base g n f := h
theorem RowAt.congr (h : RowAt k e wr base g n f) (hf : ∀ t, t < n → f t = f' t) : RowAt k e wr base g n f' := by
  unfold RowAt at *
  rwa [List.map_congr_left (fun t ht => hf t (List.mem_range.1 ht))] at h
theorem RowAt.set (h : RowAt k e wr base g n f) (t0 : Nat) (hf : ∀ t, t < n → t ≠ t0 → f' t = f t) : RowAt k e (wr.setCell ⟨g, t0, none⟩ (.int k (f' t0))) base g n f' := by
  have := (World.ownsRow.stored (h.half f).own t0 (.int k (f' t0))).1
  rw [map_set, mixed_zero] at this
  have e1 : ((List.range n).map f).set t0 (f' t0) = (List.range n).map f' := by
    apply List.ext_getElem?
    intro j
    rw [List.getElem?_set]
    by_cases hj : j < n
    · by_cases e : t0 = j
      · subst e; simp [hj]
      · simp [hj, e, hf j hj (Ne.symm e)]
    · by_cases e : t0 = j
      · subst e; simp [hj]
      · simp [hj, e]
  rw [e1] at this
  unfold RowAt Owns
  rw [List.length_map, List.length_range]
  exact this
theorem RowAt.start (h : wr.ownsRow base e 1 (.slice (some ⟨g, 0, none⟩) n n) n (madeCells (Value.int k 0).cells (n * 1)).toList) : RowAt k e wr base g n (fun _ => 0) := by
  have := Half.start (f := fun _ => 0) h
  unfold Half at this
  rwa [mixed_zero] at this
theorem RowAt.mono {base' : Nat} (h : RowAt k e wr base g n f) (hb : base' ≤ base) : RowAt k e wr base' g n f := Owns.mono h hb
end

namespace Fp
/-- What word i of a and word j of b bring to place t. -/
def cf (neg : Bool) (n : Nat) (a b : Nat → Int) (i j t : Nat) : Int := if (i + j) % n = t then sg neg n i j * (a i * b j) else 0
/-- Place t when i words of a have been taken with all of b, and the next one with j of b. -/
def acc (p : Int) (neg : Bool) (n : Nat) (a b : Nat → Int) (i j t : Nat) : Int := (sum (fun i' => sum (fun j' => cf neg n a b i' j' t) n) i + sum (fun j' => cf neg n a b i j' t) j) % p
theorem acc_start (p : Int) (neg : Bool) (n : Nat) (a b : Nat → Int) (t : Nat) : acc p neg n a b 0 0 t = 0 := by simp [acc, sum]
theorem acc_turn (p : Int) (neg : Bool) (n : Nat) (a b : Nat → Int) (i t : Nat) : acc p neg n a b i n t = acc p neg n a b (i + 1) 0 t := by simp [acc, sum]
theorem acc_end (p : Int) (neg : Bool) (n : Nat) (a b : Nat → Int) (t : Nat) : acc p neg n a b n 0 t = wr neg n a b t % p := by simp [acc, sum, wr, cf]
theorem acc_else (p : Int) (neg : Bool) (n : Nat) (a b : Nat → Int) (i j t : Nat) (h : (i + j) % n ≠ t) : acc p neg n a b i (j + 1) t = acc p neg n a b i j t := by simp [acc, sum, cf, h]
theorem acc_here (p : Int) (neg : Bool) (n : Nat) (a b : Nat → Int) (i j : Nat) : acc p neg n a b i (j + 1) ((i + j) % n) = (acc p neg n a b i j ((i + j) % n) + sg neg n i j * (a i * b j)) % p := by
  have e : cf neg n a b i j ((i + j) % n) = sg neg n i j * (a i * b j) := by simp [cf]
  show (_ + (_ + cf neg n a b i j ((i + j) % n))) % p = _
  rw [e, ← Int.add_assoc]
  unfold acc
  rw [Int.emod_add_emod]
theorem neg_kn {p : Int} (a : Int) (h : kn p = true) : neg p a = (-a) % p := by unfold neg sub; rw [if_pos h, Int.zero_sub]
theorem acc_plus {p : Int} (h : kn p = true) (ng : Bool) (n : Nat) (a b : Nat → Int) (i j : Nat) (hs : ¬ (ng = true ∧ n ≤ i + j)) : add p (acc p ng n a b i j ((i + j) % n)) (mul p (a i) (b j)) = acc p ng n a b i (j + 1) ((i + j) % n) := by
  have e : sg ng n i j = 1 := by unfold sg; rw [if_neg hs]
  rw [acc_here, e, Int.one_mul, add_kn h, mul_kn _ _ h, Int.add_emod_emod]
theorem acc_minus {p : Int} (h : kn p = true) (ng : Bool) (n : Nat) (a b : Nat → Int) (i j : Nat) (hs : ng = true ∧ n ≤ i + j) : add p (acc p ng n a b i j ((i + j) % n)) (neg p (mul p (a i) (b j))) = acc p ng n a b i (j + 1) ((i + j) % n) := by
  have e : sg ng n i j = -1 := by unfold sg; rw [if_pos hs]
  rw [acc_here, e, add_kn h, neg_kn _ h, mul_kn _ _ h, Int.add_emod_emod]
  have : eqm p (-(a i * b j % p)) (-1 * (a i * b j)) := by
    rw [Int.neg_mul, Int.one_mul]
    exact (eqm_md p _).neg
  exact (eqm.rfl (p := p) (a := acc p ng n a b i j ((i + j) % n))).add this
theorem acc_bd {p : Int} (h : kn p = true) (ng : Bool) (n : Nat) (a b : Nat → Int) (i j t : Nat) : 0 ≤ acc p ng n a b i j t ∧ acc p ng n a b i j t < 18446744073709551616 := by
  obtain ⟨h1, _, h2⟩ := mod_bd h (sum (fun i' => sum (fun j' => cf ng n a b i' j' t) n) i + sum (fun j' => cf ng n a b i j' t) j)
  exact ⟨h1, h2⟩
end Fp

/-- What is wrong with two lines whose product is asked for; and the product, word by word. -/
def wrapE (p : Int) (xs ys : List Int) (neg : Bool) : Int := if lineE p xs neg ≠ 0 then lineE p xs neg else if lineE p ys neg ≠ 0 then lineE p ys neg else if xs.length ≠ ys.length then 6 else 0
def wrpN (p : Int) (xs ys : List Int) (neg : Bool) (t : Nat) : Int := Fp.wr neg xs.length (nth xs) (nth ys) t % p
def wrp (p : Int) (xs ys : List Int) (neg : Bool) : List Int := if wrapE p xs ys neg = 0 then (List.range xs.length).map (wrpN p xs ys neg) else []
theorem wrapE_cases (p : Int) (xs ys : List Int) (neg : Bool) : wrapE p xs ys neg = lineE p xs neg ∧ lineE p xs neg ≠ 0 ∨ wrapE p xs ys neg = lineE p ys neg ∧ lineE p xs neg = 0 ∧ lineE p ys neg ≠ 0 ∨
    wrapE p xs ys neg = 6 ∧ lineE p xs neg = 0 ∧ lineE p ys neg = 0 ∧ xs.length ≠ ys.length ∨ wrapE p xs ys neg = 0 ∧ lineE p xs neg = 0 ∧ lineE p ys neg = 0 ∧ xs.length = ys.length := by
  unfold wrapE
  by_cases h1 : lineE p xs neg = 0
  · by_cases h2 : lineE p ys neg = 0
    · by_cases h3 : xs.length = ys.length
      · simp [h1, h2, h3]
      · simp [h1, h2, h3]
    · simp [h1, h2]
  · simp [h1]
theorem eq_of_bne {a : Int} (h : a = 0) : (a != 0) = false := by rw [h]; rfl

end Go.Proofs.YtlbfllaaabginaaDoor

/-!   Layer 6's laws as facts on lists: back again, sums, products that go around; and the example that each law begins with.
-/

namespace Go.Proofs.YtlbfllaaabginaaDoor
open Go.RowKit Go.Shelf

theorem getD_range (f : Nat → Int) {n k : Nat} (h : k < n) : ((List.range n).map f).getD k 0 = f k := by simp [h]
theorem nth_range (f : Nat → Int) {n k : Nat} (h : k < n) : nth ((List.range n).map f) k = f k := getD_range f h
theorem list_eq_range {xs : List Int} {n : Nat} {f : Nat → Int} (hl : xs.length = n) (hf : ∀ k, k < n → f k = xs.getD k 0) : (List.range n).map f = xs := by
  subst hl
  apply List.ext_getElem (by simp)
  intro k h1 h2
  have := hf k h2
  simp only [List.getElem_map, List.getElem_range]
  rw [this]
  simp [h2]

section
variable {p : Int} {xs ys : List Int} {neg : Bool}
theorem Line.fwd (h : Line p xs neg) : fwd p xs neg = (List.range xs.length).map (fwdN p xs neg) := by unfold Go.Proofs.YtlbfllaaabginaaDoor.fwd; rw [if_pos h.zero]
theorem Line.bwd (h : Line p xs neg) : bwd p xs neg = (List.range xs.length).map (bwdN p xs neg) := by unfold Go.Proofs.YtlbfllaaabginaaDoor.bwd; rw [if_pos h.zero]
theorem fwdN_bd (h : Fp.kn p = true) (k : Nat) : 0 ≤ fwdN p xs neg k ∧ fwdN p xs neg k < p := by obtain ⟨a, b, _⟩ := Fp.mod_bd h (Fp.fw (rtl p neg xs.length) neg xs.length (nth xs) k); exact ⟨a, b⟩
theorem bwdN_bd (h : Fp.kn p = true) (k : Nat) : 0 ≤ bwdN p xs neg k ∧ bwdN p xs neg k < p := by obtain ⟨a, _, b⟩ := Fp.mul_bd p (Fp.bw (bkl p neg xs.length) neg xs.length (nth xs) k % p) (Fp.inv p xs.length); exact ⟨a, b h⟩
theorem wrpN_bd (h : Fp.kn p = true) (k : Nat) : 0 ≤ wrpN p xs ys neg k ∧ wrpN p xs ys neg k < p := by obtain ⟨a, b, _⟩ := Fp.mod_bd h (Fp.wr neg xs.length (nth xs) (nth ys) k); exact ⟨a, b⟩
/-- A list of n numbers of p is a line as another of n. -/
theorem Line.map (h : Line p xs neg) {f : Nat → Int} (hf : ∀ k, 0 ≤ f k ∧ f k < p) : Line p ((List.range xs.length).map f) neg :=
  h.other (by simp) (fun j hj => by rw [getD_range f (by simpa using hj)]; exact (hf j).2)
theorem words_map {n : Nat} {f : Nat → Int} (h : Fp.kn p = true) (hf : ∀ k, 0 ≤ f k ∧ f k < p) : Words ((List.range n).map f) := fun j => by
  obtain ⟨p1, p2⟩ := Fp.kn_bd h
  by_cases hj : j < n
  · rw [getD_range f hj]; have := hf j; omega
  · simp [hj]
theorem Line.fwdLine (h : Line p xs neg) : Line p (Go.Proofs.YtlbfllaaabginaaDoor.fwd p xs neg) neg := by rw [h.fwd]; exact h.map (fwdN_bd h.kn)
theorem Line.bwdLine (h : Line p xs neg) : Line p (Go.Proofs.YtlbfllaaabginaaDoor.bwd p xs neg) neg := by rw [h.bwd]; exact h.map (bwdN_bd h.kn)
theorem Line.fwdLen (h : Line p xs neg) : (Go.Proofs.YtlbfllaaabginaaDoor.fwd p xs neg).length = xs.length := by rw [h.fwd]; simp
theorem Line.bwdLen (h : Line p xs neg) : (Go.Proofs.YtlbfllaaabginaaDoor.bwd p xs neg).length = xs.length := by rw [h.bwd]; simp
theorem Line.fwdWords (h : Line p xs neg) : Words (Go.Proofs.YtlbfllaaabginaaDoor.fwd p xs neg) := by rw [h.fwd]; exact words_map h.kn (fwdN_bd h.kn)
theorem Line.bwdWords (h : Line p xs neg) : Words (Go.Proofs.YtlbfllaaabginaaDoor.bwd p xs neg) := by rw [h.bwd]; exact words_map h.kn (bwdN_bd h.kn)

/-- What undoes the length. -/
theorem Line.inv_len (h : Line p xs neg) : Fp.eqm p ((xs.length : Int) * Fp.inv p xs.length) 1 := by
  obtain ⟨h1, h2⟩ := h.len
  obtain ⟨p1, p2⟩ := Fp.kn_bd h.kn
  have hz : Fp.red p (xs.length : Int) ≠ 0 := by
    have : Fp.red p (xs.length : Int) = (xs.length : Int) % p := by unfold Fp.red; rw [if_pos h.kn]
    rw [this, Int.emod_eq_of_lt (by omega) (by omega)]
    omega
  have := Fp.mul_inv h.kn hz
  rw [Fp.mul_kn _ _ h.kn, Int.mul_comm] at this
  unfold Fp.eqm
  rw [this, Int.emod_eq_of_lt (by omega) (by omega)]
theorem bwdN_eqm (h : Fp.kn p = true) (j : Nat) : Fp.eqm p (bwdN p xs neg j) (Fp.inv p xs.length * Fp.bw (bkl p neg xs.length) neg xs.length (nth xs) j) := by
  unfold bwdN
  rw [Fp.mul_kn _ _ h]
  refine (Fp.eqm_md p _).trans ?_
  rw [Int.mul_comm]
  exact Fp.eqm.rfl.mul (Fp.eqm_md p _)
theorem eq_of_eqm {a b : Int} (h : Fp.eqm p a b) (ha : 0 ≤ a ∧ a < p) (hb : 0 ≤ b ∧ b < p) : a = b := by
  unfold Fp.eqm at h
  rwa [Int.emod_eq_of_lt ha.1 ha.2, Int.emod_eq_of_lt hb.1 hb.2] at h

/-- Back from a transform is what it was. -/
theorem Line.back (h : Line p xs neg) (hw : Words xs) : Go.Proofs.YtlbfllaaabginaaDoor.bwd p (Go.Proofs.YtlbfllaaabginaaDoor.fwd p xs neg) neg = xs := by
  rw [h.fwdLine.bwd, h.fwdLen]
  refine list_eq_range rfl fun j hj => ?_
  refine eq_of_eqm ?_ (bwdN_bd h.kn j) ⟨(hw j).1, h.lt j hj⟩
  refine (bwdN_eqm h.kn j).trans ?_
  rw [h.fwdLen]
  have e1 : Fp.eqm p (Fp.bw (bkl p neg xs.length) neg xs.length (nth (Go.Proofs.YtlbfllaaabginaaDoor.fwd p xs neg)) j) (xs.length * nth xs j) := by
    refine (Fp.bw_mod (fun k hk => ?_) j).trans (Fp.bw_fw h.turns hj)
    rw [h.fwd, nth_range _ hk]
    exact Fp.eqm_md p _
  refine (Fp.eqm.rfl.mul e1).trans ?_
  rw [← Int.mul_assoc, Int.mul_comm (Fp.inv p xs.length)]
  have := h.inv_len.mul (Fp.eqm.rfl (p := p) (a := nth xs j))
  rwa [Int.one_mul] at this
theorem Line.forth (h : Line p xs neg) (hw : Words xs) : Go.Proofs.YtlbfllaaabginaaDoor.fwd p (Go.Proofs.YtlbfllaaabginaaDoor.bwd p xs neg) neg = xs := by
  rw [h.bwdLine.fwd, h.bwdLen]
  refine list_eq_range rfl fun j hj => ?_
  refine eq_of_eqm ?_ (fwdN_bd h.kn j) ⟨(hw j).1, h.lt j hj⟩
  unfold fwdN
  rw [h.bwdLen]
  refine (Fp.eqm_md p _).trans ?_
  have e1 : Fp.eqm p (Fp.fw (rtl p neg xs.length) neg xs.length (nth (Go.Proofs.YtlbfllaaabginaaDoor.bwd p xs neg)) j) (Fp.inv p xs.length * (xs.length * nth xs j)) := by
    refine (Fp.fw_mod (y := fun k => Fp.inv p xs.length * Fp.bw (bkl p neg xs.length) neg xs.length (nth xs) k) (fun k hk => ?_) j).trans ?_
    · rw [h.bwd, nth_range _ hk]
      exact bwdN_eqm h.kn k
    · rw [Fp.fw_mul]
      exact Fp.eqm.rfl.mul (Fp.fw_bw h.turns hj)
  refine e1.trans ?_
  rw [← Int.mul_assoc, Int.mul_comm (Fp.inv p xs.length)]
  have := h.inv_len.mul (Fp.eqm.rfl (p := p) (a := nth xs j))
  rwa [Int.one_mul] at this

/-- A line times a number, and another one to it. -/
def lin (p c : Int) (xs ys : List Int) (k : Nat) : Int := Fp.add p (Fp.mul p c (nth xs k)) (nth ys k)
theorem lin_bd (h : Fp.kn p = true) (c : Int) (k : Nat) : 0 ≤ lin p c xs ys k ∧ lin p c xs ys k < p := by obtain ⟨a, _, b⟩ := Fp.add_bd p (Fp.mul p c (nth xs k)) (nth ys k); exact ⟨a, b h⟩
theorem add_mul_eqm (h : Fp.kn p = true) (c a b : Int) : Fp.eqm p (Fp.add p (Fp.mul p c a) b) (c * a + b) := by
  rw [Fp.add_kn h, Fp.mul_kn _ _ h]
  exact (Fp.eqm_md p _).trans ((Fp.eqm_md p _).add Fp.eqm.rfl)
theorem Line.sumF (h : Line p xs neg) (hl : ys.length = xs.length) (c : Int) (k : Nat) :
    fwdN p ((List.range xs.length).map (lin p c xs ys)) neg k = Fp.add p (Fp.mul p c (fwdN p xs neg k)) (fwdN p ys neg k) := by
  obtain ⟨a1, _, a2⟩ := Fp.add_bd p (Fp.mul p c (fwdN p xs neg k)) (fwdN p ys neg k)
  refine eq_of_eqm ?_ (fwdN_bd h.kn k) ⟨a1, a2 h.kn⟩
  refine Fp.eqm.trans ?_ (add_mul_eqm h.kn _ _ _).symm
  unfold fwdN
  rw [List.length_map, List.length_range, hl]
  refine (Fp.eqm_md p _).trans ?_
  refine (Fp.fw_mod (y := fun j => c * nth xs j + nth ys j) (fun j hj => ?_) k).trans ?_
  · rw [nth_range _ hj]
    exact add_mul_eqm h.kn _ _ _
  · rw [Fp.fw_add (fun j => c * nth xs j), Fp.fw_mul]
    exact (Fp.eqm.rfl.mul (Fp.eqm_md p _).symm).add (Fp.eqm_md p _).symm
theorem Line.sumB (h : Line p xs neg) (hl : ys.length = xs.length) (c : Int) (k : Nat) :
    bwdN p ((List.range xs.length).map (lin p c xs ys)) neg k = Fp.add p (Fp.mul p c (bwdN p xs neg k)) (bwdN p ys neg k) := by
  obtain ⟨a1, _, a2⟩ := Fp.add_bd p (Fp.mul p c (bwdN p xs neg k)) (bwdN p ys neg k)
  refine eq_of_eqm ?_ (bwdN_bd h.kn k) ⟨a1, a2 h.kn⟩
  refine Fp.eqm.trans ?_ (add_mul_eqm h.kn _ _ _).symm
  refine (bwdN_eqm h.kn k).trans ?_
  rw [List.length_map, List.length_range]
  have e1 : Fp.eqm p (Fp.bw (bkl p neg xs.length) neg xs.length (nth ((List.range xs.length).map (lin p c xs ys))) k) (c * Fp.bw (bkl p neg xs.length) neg xs.length (nth xs) k + Fp.bw (bkl p neg xs.length) neg xs.length (nth ys) k) := by
    refine (Fp.bw_mod (y := fun j => c * nth xs j + nth ys j) (fun j hj => ?_) k).trans ?_
    · rw [nth_range _ hj]
      exact add_mul_eqm h.kn _ _ _
    · rw [Fp.bw_add (fun j => c * nth xs j), Fp.bw_mul]
      exact Fp.eqm.rfl
  refine (Fp.eqm.rfl.mul e1).trans ?_
  have e2 := bwdN_eqm (xs := xs) (neg := neg) h.kn k
  have e3 := bwdN_eqm (xs := ys) (neg := neg) h.kn k
  rw [hl] at e3
  refine Fp.eqm.trans (Fp.eqm.of ?_) ((Fp.eqm.rfl.mul e2).add e3).symm
  rw [Int.mul_add, Int.mul_left_comm]

/-- Products that go around. -/
theorem wrapE_zero (h : wrapE p xs ys neg = 0) : Line p xs neg ∧ Line p ys neg ∧ xs.length = ys.length := by
  rcases wrapE_cases p xs ys neg with ⟨e, h1⟩ | ⟨e, h1, h2⟩ | ⟨e, _⟩ | ⟨_, h1, h2, h3⟩
  · exact absurd (e.symm.trans h) h1
  · exact absurd (e.symm.trans h) h2
  · omega
  · exact ⟨lineE_zero h1, lineE_zero h2, h3⟩
theorem wrapE_comm (h : wrapE p xs ys neg = 0) : wrapE p ys xs neg = 0 := by
  obtain ⟨h1, h2, h3⟩ := wrapE_zero h
  unfold wrapE
  rw [h1.zero, h2.zero]
  simp [h3]
theorem wrapE_ne (h : wrapE p xs ys neg ≠ 0) : wrapE p ys xs neg ≠ 0 := fun e => h (wrapE_comm e)
theorem wrp_comm (h : wrapE p xs ys neg = 0) : wrp p xs ys neg = wrp p ys xs neg := by
  obtain ⟨h1, h2, h3⟩ := wrapE_zero h
  unfold wrp
  rw [if_pos h, if_pos (wrapE_comm h), h3]
  refine List.map_congr_left fun t _ => ?_
  unfold wrpN
  rw [h3, Fp.wr_comm]
theorem wrp_is (h : wrapE p xs ys neg = 0) : wrp p xs ys neg = (List.range xs.length).map (wrpN p xs ys neg) := by unfold wrp; rw [if_pos h]
theorem wrp_len (h : wrapE p xs ys neg = 0) : (wrp p xs ys neg).length = xs.length := by rw [wrp_is h]; simp
theorem wrp_line (h : wrapE p xs ys neg = 0) : Line p (wrp p xs ys neg) neg := by
  obtain ⟨h1, _, _⟩ := wrapE_zero h
  rw [wrp_is h]
  exact h1.map (wrpN_bd h1.kn)
theorem wrp_words (h : wrapE p xs ys neg = 0) : Words (wrp p xs ys neg) := by
  obtain ⟨h1, _, _⟩ := wrapE_zero h
  rw [wrp_is h]
  exact words_map h1.kn (wrpN_bd h1.kn)
theorem wrp_fwd (h : wrapE p xs ys neg = 0) (k : Nat) : fwdN p (wrp p xs ys neg) neg k = Fp.mul p (fwdN p xs neg k) (fwdN p ys neg k) := by
  obtain ⟨h1, h2, h3⟩ := wrapE_zero h
  obtain ⟨a1, _, a2⟩ := Fp.mul_bd p (fwdN p xs neg k) (fwdN p ys neg k)
  refine eq_of_eqm ?_ (fwdN_bd h1.kn k) ⟨a1, a2 h1.kn⟩
  rw [Fp.mul_kn _ _ h1.kn]
  refine Fp.eqm.trans ?_ (Fp.eqm_md p _).symm
  unfold fwdN
  rw [wrp_len h]
  refine (Fp.eqm_md p _).trans ?_
  refine (Fp.fw_mod (y := Fp.wr neg xs.length (nth xs) (nth ys)) (fun j hj => ?_) k).trans ?_
  · rw [wrp_is h, nth_range _ hj]
    exact Fp.eqm_md p _
  · refine (Fp.fw_wr h1.turns _ _ k).trans ?_
    rw [← h3]
    exact (Fp.eqm_md p _).symm.mul (Fp.eqm_md p _).symm
end

/-- The chapter's example. -/
theorem line_one : Line 998244353 [1, 0, 0, 0] false := ⟨by decide, by decide, by decide, fun j hj => by
  have : j = 0 ∨ j = 1 ∨ j = 2 ∨ j = 3 := by simp at hj; omega
  rcases this with rfl | rfl | rfl | rfl <;> decide⟩
theorem fwd_one : fwd 998244353 [1, 0, 0, 0] false = [1, 1, 1, 1] := by
  rw [line_one.fwd]
  have hk : ∀ k, fwdN 998244353 [1, 0, 0, 0] false k = 1 := fun k => by
    unfold fwdN
    generalize rtl 998244353 false ([1, 0, 0, 0] : List Int).length = w
    show Fp.fw w false 4 (nth [1, 0, 0, 0]) k % 998244353 = 1
    have : Fp.fw w false 4 (nth [1, 0, 0, 0]) k = 1 := by
      simp [Fp.fw, Fp.sum, nth, Fp.ex]
    rw [this]; decide
  have : (List.range ([1, 0, 0, 0] : List Int).length).map (fwdN 998244353 [1, 0, 0, 0] false) = (List.range 4).map (fun _ => 1) := List.map_congr_left fun k _ => hk k
  rw [this]
  decide

theorem row_reads (w : World) (t : TypeId) (a b c d : Int) : Reads .u64 (w.alloc (.cells #[.int .u64 a, .int .u64 b, .int .u64 c, .int .u64 d] t)) (w.heap.size + 1) (some ⟨w.heap.size, 0, none⟩) [a, b, c, d] := fun _ =>
  ⟨w.heap.size, 0, rfl, Nat.lt_succ_self _, fun j hj => by
    have : j = 0 ∨ j = 1 ∨ j = 2 ∨ j = 3 := by simp at hj; omega
    rcases this with rfl | rfl | rfl | rfl <;> simp⟩
theorem words_four {a b c d : Int} (ha : 0 ≤ a ∧ a < 18446744073709551616) (hb : 0 ≤ b ∧ b < 18446744073709551616) (hc : 0 ≤ c ∧ c < 18446744073709551616) (hd : 0 ≤ d ∧ d < 18446744073709551616) : Words [a, b, c, d] := fun j => by
  rcases j with _ | _ | _ | _ | j <;> simp [ha, hb, hc, hd]

theorem same_yes (x y : Option Addr) (n m cap cap' : Nat) (xs ys : List Int) (w : World) (B : Nat) (hx : Reads .u64 w B x xs) (hy : Reads .u64 w B y ys) (hn : xs.length = n) (hm : ys.length = m) (hl : n ≤ 140737488355328) (hl' : m ≤ 140737488355328) (he : xs = ys) :
    Calls Tryd.prog 22 #[.slice x n cap, .slice y m cap'] w (RetQ (.bool true) w) := by
  have := same_any x y n m cap cap' xs ys w B hx hy hn hm hl hl'
  rwa [decide_eq_true he] at this

end Go.Proofs.YtlbfllaaabginaaDoor
