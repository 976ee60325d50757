/-
  A line of layer 6: what Check tells of it, the program's and the document's (dft.Check, brackenref06.Check), over every input.
-/
import Derived.Test.YtmcnamlgbkbiaaaDoorIn
import Derived.Test.YtmcnamlgbkbiaaaDoorRoot
import Derived.Test.YtmcnamlgbkbiaaaDoorRefRoot
import Derived.Test.YtmcnamlgbkbiaaaDoorSizes
import Derived.Test.YtmcnamlgbkbiaaaDoorRefFac
import Derived.Test.YtmcnamlgbkbiaaaDoorMathDft
namespace Go.Proofs.YtmcnamlgbkbiaaaDoor
open Go.RowKit

namespace Fp
theorem isIn_iff {p : Int} {f : Nat → Int} (h : kn p = true) (n : Nat) : isIn p f n = true ↔ ∀ j, j < n → f j < p := by
  constructor
  · intro e j hj
    rcases Int.lt_or_le (f j) p with hlt | hge
    · exact hlt
    · rw [isIn_at (by omega) n hj] at e; cases e
  · exact isIn_yes h n
theorem od_bd (neg : Bool) {n : Nat} (h1 : 1 ≤ n) (h2 : n ≤ 4096) : 1 ≤ od neg n ∧ od neg n ≤ 8192 := by
  unfold od; split <;> omega
end Fp

/-- What is wrong with the words xs of a line. -/
def lineE (p : Int) (xs : List Int) (neg : Bool) : Int :=
  if Fp.kn p = false then 2 else if Fac.sm (xs.length : Int) = false then 4 else if (p - 1) % ((Fp.od neg xs.length : Nat) : Int) ≠ 0 then 5 else if Fp.isIn p (fun j => xs.getD j 0) xs.length = false then 7 else 0
/-- There is nothing wrong with them. -/
structure Line (p : Int) (xs : List Int) (neg : Bool) : Prop where
  kn : Fp.kn p = true
  sm : Fac.sm (xs.length : Int) = true
  dvd : (p - 1) % ((Fp.od neg xs.length : Nat) : Int) = 0
  lt : ∀ j, j < xs.length → xs.getD j 0 < p
theorem Line.len {p : Int} {xs : List Int} {neg : Bool} (h : Line p xs neg) : 1 ≤ xs.length ∧ xs.length ≤ 4096 := by
  obtain ⟨h1, h2, _⟩ := Fac.sm_of h.sm
  omega
theorem lineE_cases (p : Int) (xs : List Int) (neg : Bool) :
    lineE p xs neg = 2 ∧ Fp.kn p = false ∨ lineE p xs neg = 4 ∧ Fp.kn p = true ∧ Fac.sm (xs.length : Int) = false ∨
    lineE p xs neg = 5 ∧ Fp.kn p = true ∧ Fac.sm (xs.length : Int) = true ∧ (p - 1) % ((Fp.od neg xs.length : Nat) : Int) ≠ 0 ∨
    lineE p xs neg = 7 ∧ Fp.kn p = true ∧ Fac.sm (xs.length : Int) = true ∧ (p - 1) % ((Fp.od neg xs.length : Nat) : Int) = 0 ∧ Fp.isIn p (fun j => xs.getD j 0) xs.length = false ∨
    lineE p xs neg = 0 ∧ Line p xs neg := by
  unfold lineE
  cases h : Fp.kn p
  · simp
  · cases h1 : Fac.sm (xs.length : Int)
    · simp
    · by_cases h2 : (p - 1) % ((Fp.od neg xs.length : Nat) : Int) = 0
      · cases h3 : Fp.isIn p (fun j => xs.getD j 0) xs.length
        · simp [h2]
        · right; right; right; right
          exact ⟨by simp [h2], h, h1, h2, (Fp.isIn_iff h _).1 h3⟩
      · simp [h2]
theorem lineE_zero {p : Int} {xs : List Int} {neg : Bool} (h : lineE p xs neg = 0) : Line p xs neg := by
  rcases lineE_cases p xs neg with ⟨e, _⟩ | ⟨e, _⟩ | ⟨e, _⟩ | ⟨e, _⟩ | ⟨_, h⟩
  · omega
  · omega
  · omega
  · omega
  · exact h
theorem Line.zero {p : Int} {xs : List Int} {neg : Bool} (h : Line p xs neg) : lineE p xs neg = 0 := by
  unfold lineE
  rw [h.kn, h.sm, h.dvd, (Fp.isIn_iff h.kn _).2 h.lt]
  simp
theorem lineE_bd (p : Int) (xs : List Int) (neg : Bool) : 0 ≤ lineE p xs neg ∧ lineE p xs neg ≤ 7 := by
  rcases lineE_cases p xs neg with ⟨e, _⟩ | ⟨e, _⟩ | ⟨e, _⟩ | ⟨e, _⟩ | ⟨e, _⟩ <;> omega
/-- Another line of as many words of p. -/
theorem Line.other {p : Int} {xs ys : List Int} {neg : Bool} (h : Line p xs neg) (hl : ys.length = xs.length) (hy : ∀ j, j < ys.length → ys.getD j 0 < p) : Line p ys neg :=
  ⟨h.kn, by rw [hl]; exact h.sm, by rw [hl]; exact h.dvd, hy⟩
theorem Line.rootE {p : Int} {xs : List Int} {neg : Bool} (h : Line p xs neg) : rootE p ((Fp.od neg xs.length : Nat) : Int) = 0 := by
  obtain ⟨h1, h2⟩ := h.len
  obtain ⟨o1, o2⟩ := Fp.od_bd neg h1 h2
  unfold Go.Proofs.YtmcnamlgbkbiaaaDoor.rootE
  rw [if_neg (by simp [h.kn]), if_neg (by omega), if_neg (by simp [h.dvd])]
theorem rootE_no {p : Int} {n : Nat} {neg : Bool} (h : Fp.kn p = true) (h1 : 1 ≤ n) (h2 : n ≤ 4096) (hd : (p - 1) % ((Fp.od neg n : Nat) : Int) ≠ 0) : rootE p ((Fp.od neg n : Nat) : Int) = 5 := by
  obtain ⟨o1, o2⟩ := Fp.od_bd neg h1 h2
  unfold rootE
  rw [if_neg (by simp [h]), if_neg (by omega), if_pos hd]
theorem rootE_yes {p : Int} {n : Nat} {neg : Bool} (h : Fp.kn p = true) (h1 : 1 ≤ n) (h2 : n ≤ 4096) (hd : (p - 1) % ((Fp.od neg n : Nat) : Int) = 0) : rootE p ((Fp.od neg n : Nat) : Int) = 0 := by
  obtain ⟨o1, o2⟩ := Fp.od_bd neg h1 h2
  unfold rootE
  rw [if_neg (by simp [h]), if_neg (by omega), if_neg (by simp [hd])]

theorem orderOf_any (n : Nat) (neg : Bool) (w : World) (hn : n ≤ 4096) :
    Calls Tryd.prog 39 #[.int .i64 (n : Int), .bool neg] w fun e w' => e = .returned (.int .i64 ((Fp.od neg n : Nat) : Int)) ∧ w = w' := by
  cases neg
  · go_enter Tryd.func39, Tryd.ntmps39
    go_wp2
    go_ret
    exact ⟨rfl, rfl⟩
  · have hz : (2 : Int) * (n : Int) = ((Fp.od true n : Nat) : Int) := by simp [Fp.od]
    have hb : Fp.od true n ≤ 8192 := by simp [Fp.od]; omega
    generalize Fp.od true n = u at hz hb ⊢
    go_enter Tryd.func39, Tryd.ntmps39
    go_wp2
    go_ret
    exact ⟨rfl, rfl⟩

set_option maxHeartbeats 1000000 in
theorem lcheck_any (p : Int) (x : Option Addr) (n cap : Nat) (xs : List Int) (neg : Bool) (w : World) (hG : Gl w) (hx : Reads .u64 w w.heap.size x xs) (hn : xs.length = n) (hl : n ≤ maxLen) :
    Calls Tryd.prog 37 #[.int .u64 p, .slice x n cap, .bool neg] w (RetB (.int .i64 (lineE p xs neg)) w) := by
  subst hn
  have hl' : (xs.length : Int) ≤ 9223372036854775807 := by unfold maxLen at hl; omega
  have HL := Lib.hid hl; clear hl
  have HS := Lib.hid (smooth_any (xs.length : Int) w)
  rcases lineE_cases p xs neg with ⟨hE, h⟩ | ⟨hE, h, h1⟩ | ⟨hE, h, h1, h2⟩ | ⟨hE, h, h1, h2, h3⟩ | ⟨hE, h⟩
  · rw [hE]
    have H := Lib.hid h
    clear h hE
    go_enter Tryd.func37, Tryd.ntmps37
    go_wp2_with (go_at_call 24; refine (known_no _ _ H.out).mono ?_; rintro e w' ⟨rfl, rfl⟩)
    go_ret
    exact ⟨rfl, Below.refl _ _⟩
  · rw [hE]
    have H := Lib.hid h
    rw [h1] at HS
    clear h h1 hE
    go_enter Tryd.func37, Tryd.ntmps37
    go_wp2_with (first
      | (go_at_call 24; refine (known_yes _ _ H.out).mono ?_; rintro e w' ⟨rfl, rfl⟩)
      | (go_at_call 54; refine HS.out.mono ?_; rintro e w1 ⟨rfl, hB⟩))
    go_ret
    exact ⟨rfl, hB⟩
  · rw [hE]
    obtain ⟨s1, s2, _⟩ := Fac.sm_of h1
    have hR := rootE_no (neg := neg) h (show 1 ≤ xs.length by omega) (by omega) h2
    have HR := Lib.hid (fun W (hG' : Gl W) => root_any p ((Fp.od neg xs.length : Nat) : Int) W hG' (by have := Fp.od_bd neg (show 1 ≤ xs.length by omega) (by omega); omega))
    unfold rootN at HR
    rw [hR, if_neg (by omega)] at HR
    have HO := Lib.hid (fun W => orderOf_any xs.length neg W (by omega))
    have H := Lib.hid h
    have HG := Lib.hid hG
    rw [h1] at HS
    clear h h1 h2 hE hR hG
    go_enter Tryd.func37, Tryd.ntmps37
    go_wp2_with (first
      | (go_at_call 24; refine (known_yes _ _ H.out).mono ?_; rintro e w' ⟨rfl, rfl⟩)
      | (go_at_call 54; refine HS.out.mono ?_; rintro e w1 ⟨rfl, hB⟩)
      | (go_at_call 39; refine (HO.out _).mono ?_; rintro e w' ⟨rfl, rfl⟩)
      | (go_at_call 38; refine (HR.out _ (HG.out.below HG.out.lt hB)).mono ?_; rintro e w2 ⟨rfl, hB2⟩))
    go_ret
    exact ⟨rfl, hB.trans (hB2.mono hB.size)⟩
  · rw [hE]
    obtain ⟨s1, s2, _⟩ := Fac.sm_of h1
    obtain ⟨b, off, rfl, hb, hc⟩ := hx (by omega)
    have hR := rootE_yes (neg := neg) h (show 1 ≤ xs.length by omega) (by omega) h2
    have HR := Lib.hid (fun W (hG' : Gl W) => root_any p ((Fp.od neg xs.length : Nat) : Int) W hG' (by have := Fp.od_bd neg (show 1 ≤ xs.length by omega) (by omega); omega))
    rw [hR] at HR
    have HO := Lib.hid (fun W => orderOf_any xs.length neg W (by omega))
    have HI : Hid (∀ W, Below w.heap.size w W → Calls Tryd.prog 18 #[.int .u64 p, .slice (some ⟨b, off, none⟩) xs.length cap] W fun e w' => e = .returned (.bool false) ∧ W = w') := Lib.hid (fun W hW => by
      rw [← h3]
      exact in_row p b off xs.length cap _ W hl' (fun j hj => (hW.cell (p := ⟨b, off + j, none⟩) hb).trans (hc j hj)))
    have H := Lib.hid h
    have HG := Lib.hid hG
    rw [h1] at HS
    generalize rootN p ((Fp.od neg xs.length : Nat) : Int) = rn at HR
    clear h h1 h2 h3 hE hR hG hc
    go_enter Tryd.func37, Tryd.ntmps37
    go_wp2_with (first
      | (go_at_call 24; refine (known_yes _ _ H.out).mono ?_; rintro e w' ⟨rfl, rfl⟩)
      | (go_at_call 54; refine HS.out.mono ?_; rintro e w1 ⟨rfl, hB⟩)
      | (go_at_call 39; refine (HO.out _).mono ?_; rintro e w' ⟨rfl, rfl⟩)
      | (go_at_call 38; refine (HR.out _ (HG.out.below HG.out.lt hB)).mono ?_; rintro e w2 ⟨rfl, hB2⟩)
      | (go_at_call 18; refine (HI.out _ (hB.trans (hB2.mono hB.size))).mono ?_; rintro e w' ⟨rfl, rfl⟩))
    go_ret
    exact ⟨rfl, hB.trans (hB2.mono hB.size)⟩
  · rw [hE]
    obtain ⟨s1, s2⟩ := h.len
    obtain ⟨b, off, rfl, hb, hc⟩ := hx (by omega)
    have hR := h.rootE
    have HR := Lib.hid (fun W (hG' : Gl W) => root_any p ((Fp.od neg xs.length : Nat) : Int) W hG' (by have := Fp.od_bd neg (show 1 ≤ xs.length by omega) (by omega); omega))
    rw [hR] at HR
    have HO := Lib.hid (fun W => orderOf_any xs.length neg W (by omega))
    have h3 := (Fp.isIn_iff h.kn _).2 h.lt
    have HI : Hid (∀ W, Below w.heap.size w W → Calls Tryd.prog 18 #[.int .u64 p, .slice (some ⟨b, off, none⟩) xs.length cap] W fun e w' => e = .returned (.bool true) ∧ W = w') := Lib.hid (fun W hW => by
      rw [← h3]
      exact in_row p b off xs.length cap _ W hl' (fun j hj => (hW.cell (p := ⟨b, off + j, none⟩) hb).trans (hc j hj)))
    have H := Lib.hid h.kn
    have HG := Lib.hid hG
    rw [h.sm] at HS
    generalize rootN p ((Fp.od neg xs.length : Nat) : Int) = rn at HR
    clear h h3 hE hR hG hc
    go_enter Tryd.func37, Tryd.ntmps37
    go_wp2_with (first
      | (go_at_call 24; refine (known_yes _ _ H.out).mono ?_; rintro e w' ⟨rfl, rfl⟩)
      | (go_at_call 54; refine HS.out.mono ?_; rintro e w1 ⟨rfl, hB⟩)
      | (go_at_call 39; refine (HO.out _).mono ?_; rintro e w' ⟨rfl, rfl⟩)
      | (go_at_call 38; refine (HR.out _ (HG.out.below HG.out.lt hB)).mono ?_; rintro e w2 ⟨rfl, hB2⟩)
      | (go_at_call 18; refine (HI.out _ (hB.trans (hB2.mono hB.size))).mono ?_; rintro e w' ⟨rfl, rfl⟩))
    go_ret
    exact ⟨rfl, hB.trans (hB2.mono hB.size)⟩

end Go.Proofs.YtmcnamlgbkbiaaaDoor
