/-
  The walk of the law PowerDoes: it returns true for every words, every slice of words and every number; nothing that was there is written.
-/
import Derived.Test.YtceccconfnlggaaAll
import Derived.Test.YtceccconfnlggaaRefPow
import Derived.Test.YtceccconfnlggaaLawPow
import Derived.Laws.AppendOwnNone
namespace Go.Proofs.Ytceccconfnlggaa
open Go.RowKit

/-! What Inv, All and Powers tell, in one form each. -/
def invN (p a : Int) : Int := if Fp.kn p = false then 0 else if Fp.red p a = 0 then 0 else Fp.inv p a
def invE (p a : Int) : Int := if Fp.kn p = false then 2 else if Fp.red p a = 0 then 9 else 0
def allL (p : Int) (xs : List Int) : List Int := if Fp.kn p = false then [] else if 65536 < xs.length then [] else if Fp.pre p xs xs.length = 0 then [] else xs.map (Fp.inv p)
def allE (p : Int) (xs : List Int) : Int := if Fp.kn p = false then 2 else if 65536 < xs.length then 1 else if Fp.pre p xs xs.length = 0 then 9 else 0
def powL (p a many : Int) : List Int := if Fp.kn p = false then [] else if many < 0 ∨ 65536 < many then [] else pws p a many.toNat
def powE (p many : Int) : Int := if Fp.kn p = false then 2 else if many < 0 ∨ 65536 < many then 1 else 0
/-- A list, in memory of its own, and an error's number. -/
def ListErr (w : World) (xs : List Int) (er : Int) (e : Ending) (w' : World) : Prop :=
  ∃ v, e = .returned (.tuple #[v, .int .i64 er]) ∧ Owns .u64 22 w' w.heap.size v xs ∧ Below w.heap.size w w'
theorem ListErr.none {w w' : World} {er : Int} (hb : Below w.heap.size w w') : ListErr w [] er (.returned (.tuple #[.slice none 0 0, .int .i64 er])) w' := ⟨_, rfl, Owns.nil, hb⟩

theorem inv_any (p a : Int) (w : World) (a0 : 0 ≤ a) (a1 : a < 18446744073709551616) :
    Calls Try.prog 9 #[.int .u64 p, .int .u64 a] w (RetQ (.tuple #[.int .u64 (invN p a), .int .i64 (invE p a)]) w) := by
  unfold invN invE
  cases h : Fp.kn p
  · simp only [if_true]; exact inv_noprime p a w h
  · by_cases hz : Fp.red p a = 0
    · simp only [Bool.true_eq_false, if_false, if_pos hz]; exact inv_zero p a w h a0 a1 hz
    · simp only [Bool.true_eq_false, if_false, if_neg hz]; exact inv_yes p a w h a0 a1 hz

theorem rinv_any (p a : Int) (w : World) (a0 : 0 ≤ a) (a1 : a < 18446744073709551616) :
    Calls Try.prog 10 #[.int .u64 p, .int .u64 a] w (RetQ (.tuple #[.int .u64 (invN p a), .int .i64 (invE p a)]) w) := by
  unfold invN invE
  cases h : Fp.kn p
  · simp only [if_true]; exact (rinv_noprime p a w h).mono fun e w' ⟨he, hw⟩ => ⟨he, 0, hw.symm⟩
  · by_cases hz : Fp.red p a = 0
    · simp only [Bool.true_eq_false, if_false, if_pos hz]; exact (rinv_zero p a w h a0 a1 hz).mono fun e w' ⟨he, hw⟩ => ⟨he, 0, hw.symm⟩
    · simp only [Bool.true_eq_false, if_false, if_neg hz]; exact (rinv_yes p a w h a0 a1 hz).mono fun e w' ⟨he, hw⟩ => ⟨he, 0, hw.symm⟩

theorem all_any (p : Int) (x : Option Addr) (n cap : Nat) (xs : List Int) (w : World) (hx : Reads .u64 w w.heap.size x xs) (hn : xs.length = n) (hw : Words xs) (hn' : n ≤ 140737488355328) :
    Calls Try.prog 11 #[.int .u64 p, .slice x n cap] w (ListErr w (allL p xs) (allE p xs)) := by
  unfold allL allE
  cases h : Fp.kn p
  · simp only [if_true]; exact (all_noprime p x n cap w h).mono fun e w' ⟨he, hb⟩ => he ▸ ListErr.none hb
  · simp only [Bool.true_eq_false, if_false]
    by_cases hl : 65536 < xs.length
    · simp only [if_pos hl]; exact (all_long p x n cap w h (by omega) hn').mono fun e w' ⟨he, hb⟩ => he ▸ ListErr.none hb
    · simp only [if_neg hl]
      by_cases hz : Fp.pre p xs xs.length = 0
      · simp only [if_pos hz]; exact (all_zero p x n cap xs w h hx hn hw (by omega) hz).mono fun e w' ⟨he, hb⟩ => he ▸ ListErr.none hb
      · simp only [if_neg hz]; exact all_yes p x n cap xs w h hx hn hw (by omega) hz

theorem rall_any (p : Int) (x : Option Addr) (n cap : Nat) (xs : List Int) (w : World) (hx : Reads .u64 w w.heap.size x xs) (hn : xs.length = n) (hw : Words xs) (hn' : n ≤ 140737488355328) :
    Calls Try.prog 12 #[.int .u64 p, .slice x n cap] w (ListErr w (allL p xs) (allE p xs)) := by
  unfold allL allE
  cases h : Fp.kn p
  · simp only [if_true]; exact (rall_noprime p x n cap w h).mono fun e w' ⟨he, hb⟩ => he ▸ hb ▸ ListErr.none (Below.refl _ _)
  · simp only [Bool.true_eq_false, if_false]
    by_cases hl : 65536 < xs.length
    · simp only [if_pos hl]; exact (rall_long p x n cap w h (by omega) hn').mono fun e w' ⟨he, hb⟩ => he ▸ hb ▸ ListErr.none (Below.refl _ _)
    · simp only [if_neg hl]
      refine (rall_yes p x n cap xs w h hx hn hw (by omega)).mono ?_
      rintro e w' (⟨hz, he, hb⟩ | ⟨hz, hr⟩)
      · simp only [if_pos hz]; exact he ▸ ListErr.none hb
      · simp only [if_neg hz]; exact hr

theorem powers_any (p a many : Int) (w : World) (a0 : 0 ≤ a) (a1 : a < 18446744073709551616) :
    Calls Try.prog 13 #[.int .u64 p, .int .u64 a, .int .i64 many] w (ListErr w (powL p a many) (powE p many)) := by
  unfold powL powE
  cases h : Fp.kn p
  · simp only [if_true]; exact (powers_noprime p a many w h).mono fun e w' ⟨he, n, hb⟩ => he ▸ hb ▸ ListErr.none (draws_below _ _ _)
  · simp only [Bool.true_eq_false, if_false]
    by_cases hm : many < 0 ∨ 65536 < many
    · simp only [if_pos hm]; exact (powers_bad p a many w h hm).mono fun e w' ⟨he, n, hb⟩ => he ▸ hb ▸ ListErr.none (draws_below _ _ _)
    · simp only [if_neg hm]
      obtain ⟨n, rfl⟩ := Int.eq_ofNat_of_zero_le (show 0 ≤ many by omega)
      exact powers_yes p a n w h a0 a1 (by omega)

theorem rpowers_any (p a many : Int) (w : World) (a0 : 0 ≤ a) (a1 : a < 18446744073709551616) :
    Calls Try.prog 14 #[.int .u64 p, .int .u64 a, .int .i64 many] w (ListErr w (powL p a many) (powE p many)) := by
  unfold powL powE
  cases h : Fp.kn p
  · simp only [if_true]; exact (rpowers_noprime p a many w h).mono fun e w' ⟨he, n, hb⟩ => he ▸ hb ▸ ListErr.none (draws_below _ _ _)
  · simp only [Bool.true_eq_false, if_false]
    by_cases hm : many < 0 ∨ 65536 < many
    · simp only [if_pos hm]; exact (rpowers_bad p a many w h hm).mono fun e w' ⟨he, n, hb⟩ => he ▸ hb ▸ ListErr.none (draws_below _ _ _)
    · simp only [if_neg hm]
      obtain ⟨n, rfl⟩ := Int.eq_ofNat_of_zero_le (show 0 ≤ many by omega)
      exact rpowers_yes p a n w h a0 a1 (by omega)

theorem allL_len (p : Int) (xs : List Int) : (allL p xs).length ≤ xs.length := by
  unfold allL
  split
  · simp
  · split
    · simp
    · split
      · simp
      · simp
theorem powL_len (p a many : Int) : (powL p a many).length ≤ 65536 := by
  unfold powL
  split
  · simp
  · split
    · simp
    · rw [pws_len]; omega
theorem same_self (x y : Option Addr) (n cap cap' : Nat) (xs : List Int) (w : World) (B : Nat) (hx : Reads .u64 w B x xs) (hy : Reads .u64 w B y xs) (hn : xs.length = n) (hl : n ≤ 140737488355328) :
    Calls Try.prog 17 #[.slice x n cap, .slice y n cap'] w (RetQ (.bool true) w) := by
  have := same_any x y n n cap cap' xs xs w B hx hy hn hn hl hl
  rw [decide_eq_true rfl] at this
  exact this

/-- A row of words of the call's own, whatever they are. -/
def OwnsSome (w : World) (base : Nat) (v : Value) (n : Nat) : Prop := ∃ vs : List Value, w.ownsRow base 22 1 v n vs ∧ ∀ j, j < n → ∃ y, vs[j]? = some (.int .u64 y)
theorem OwnsSome.of {w : World} {base : Nat} {v : Value} {xs : List Int} (h : Owns .u64 22 w base v xs) : OwnsSome w base v xs.length := ⟨_, h, fun j hj => ⟨xs[j], by simp [hj]⟩⟩
theorem OwnsSome.cell {w : World} {base g n cap j : Nat} (h : OwnsSome w base (.slice (some ⟨g, 0, none⟩) n cap) n) (hj : j < n) : ∃ y, w.cell? ⟨g, j, none⟩ = some (.int .u64 y) := by
  obtain ⟨vs, h1, h2⟩ := h
  obtain ⟨y, hy⟩ := h2 j hj
  exact ⟨y, (h1.cellAt j (by omega)).trans hy⟩
theorem OwnsSome.frozen {w : World} {base g n cap : Nat} (h : OwnsSome w base (.slice (some ⟨g, 0, none⟩) n cap) n) (j : Nat) : w.frozen? ⟨g, j, none⟩ = false := h.choose_spec.1.frozenAt j
theorem OwnsSome.set {w : World} {base g n cap j : Nat} (h : OwnsSome w base (.slice (some ⟨g, 0, none⟩) n cap) n) (y : Int) : OwnsSome (w.setCell ⟨g, j, none⟩ (.int .u64 y)) base (.slice (some ⟨g, 0, none⟩) n cap) n := by
  obtain ⟨vs, h1, h2⟩ := h
  refine ⟨_, (h1.stored j (.int .u64 y)).1, fun i hi => ?_⟩
  rw [List.getElem?_set]
  by_cases e : j = i
  · subst e
    obtain ⟨z, hz⟩ := h2 j hi
    have hl : j < vs.length := (List.getElem?_eq_some_iff.1 hz).1
    exact ⟨y, by rw [if_pos rfl, if_pos hl]⟩
  · rw [if_neg e]; exact h2 i hi

set_option maxHeartbeats 2000000 in
set_option maxRecDepth 100000 in
theorem does2_main (p a n many : Int) (x : Option Addr) (len cap : Nat) (xs : List Int) (w : World) (a0 : 0 ≤ a) (a1 : a < 18446744073709551616) (n0 : 0 ≤ n) (n1 : n < 18446744073709551616)
    (hsrc : Src .u64 w x len cap xs) (hx : Reads .u64 w w.heap.size x xs) (hw : Words xs) (hl1 : len ≤ 40 ∨ 65536 < len) (hl2 : len ≤ 65540) (hm : many ≤ 300 ∨ 65536 < many) :
    Calls Try.prog 3 #[.int .u64 p, .int .u64 a, .int .u64 n, .slice x len cap, .int .i64 many] w fun e w' => e = .returned (.bool true) ∧ Below w.heap.size w w' := by
  have HN := Lib.hid hsrc.1
  have HSRC := Lib.hid hsrc; clear hsrc
  have HX := Lib.hid hx; clear hx
  have HW := Lib.hid hw; clear hw
  have g1 : (decide (40 < (len : Int)) && decide ((len : Int) ≤ 65536)) = false := by simp; omega
  have g2 : decide (65540 < (len : Int)) = false := by simp; omega
  have g3 : (decide (300 < many) && decide (many ≤ 65536)) = false := by simp; omega
  obtain ⟨i0, hi, hz0, hz1, hz2⟩ := info_parts info_u64
  go_enter Try.func3, Try.ntmps3
  go_wp2_with (first
    | (go_at_call 8; refine (plive_any _).mono ?_; rintro e w' ⟨rfl, nd, rfl⟩)
    | (at_builtin; refine wpList_copy_new rfl _ _ 23 rfl 22 i0 .u64 8 Try.underlying23 hi hz0 hz1 hz2 x len cap xs rfl rfl (HSRC.out.draws _) (by unfold maxLen; omega) (by omega) ?_; intro v0 w1 hO1 hB1))
  all_goals
    clear hi hz0 hz1 hz2
    have hD1 : Below w.heap.size w w1 := below_of_draws hB1
    obtain ⟨x0, c0, rfl, -, -, hR0, -⟩ := hO1.form
    have HR0 := Lib.hid hR0
    clear hB1 hR0 hO1
    refine (inv_any p a _ a0 a1).mono ?_
    rintro e w' ⟨rfl, d1, rfl⟩
    go_wp2_with fail
    refine (rinv_any p a _ a0 a1).mono ?_
    rintro e w' ⟨rfl, d2, rfl⟩
    go_wp2_with fail
    obtain ⟨W1, hW1⟩ : ∃ W1, w1.drewN (d1 + d2) = W1 := ⟨_, rfl⟩
    have hD2 : Below w.heap.size w W1 := hW1 ▸ below_draws hD1 _
    have HR0' : Hid (Reads .u64 W1 W1.heap.size x0 xs) := Lib.hid (hW1 ▸ HR0.out)
    rw [hW1]
    clear hW1 HR0 hD1
    refine (all_any p x len cap xs W1 ((HX.out.below hD2).more hD2.size) HN.out HW.out (by omega)).mono ?_
    rintro e w2 ⟨v1, rfl, hO2, hB2⟩
    obtain ⟨x1, c1, rfl, hc1, hm1, hR1, hg1⟩ := hO2.form
    go_wp2_with fail
    have hD3 : Below W1.heap.size W1 w2 := hB2
    refine (rall_any p x len cap xs w2 ((HX.out.below (hD2.trans (hB2.mono hD2.size))).more (Nat.le_trans hD2.size hB2.size)) HN.out HW.out (by omega)).mono ?_
    rintro e w3 ⟨v2, rfl, hO3, hB3⟩
    obtain ⟨x2, c2, rfl, -, -, hR2, -⟩ := hO3.form
    go_wp2_with fail
    refine (powers_any p a many w3 a0 a1).mono ?_
    rintro e w4 ⟨v3, rfl, hO4, hB4⟩
    obtain ⟨x3, c3, rfl, -, hm3, hR3, -⟩ := hO4.form
    have hl3 := Owns.len_le hO4
    go_wp2_with fail
    refine (rpowers_any p a many w4 a0 a1).mono ?_
    rintro e w5 ⟨v4, rfl, hO5, hB5⟩
    obtain ⟨x4, c4, rfl, -, -, hR4, -⟩ := hO5.form
    have e34 := hB4.trans (hB5.mono hB4.size)
    have e24 := hB3.trans (e34.mono hB3.size)
    have R1 := Lib.hid ((hR1.below e24).more e24.size)
    have R2 := Lib.hid ((hR2.below e34).more e34.size)
    have R3 := Lib.hid ((hR3.below hB5).more hB5.size)
    have R4 := Lib.hid hR4
    have HB : Below W1.heap.size W1 w5 := hB2.trans (e24.mono hB2.size)
    have hOb := OwnsSome.of (hO2.below e24)
    clear hR1 hR2 hR3 hR4 hB2 hB3 hB4 hB5 e34 e24 hO2 hO3 hO4 hO5 hD3
    have k1 := allL_len p xs
    have k2 := powL_len p a many
    have k3 : xs.length ≤ 65540 := by have := HN.out; omega
    go_wp2_with (first
      | (go_at_call 15; refine (pow_any _ _ _ _ (by omega) (by omega) (by omega) (by omega)).mono ?_; rintro e w' ⟨rfl, d3, rfl⟩)
      | (go_at_call 16; refine (rpow_any _ _ _ _ (by omega) (by omega) (by omega) (by omega)).mono ?_; rintro e w' ⟨rfl, rfl⟩))
    refine (same_self x1 x2 _ _ _ (allL p xs) _ w5.heap.size (R1.out.draws _) (R2.out.draws _) rfl (by omega)).mono ?_
    rintro e w' ⟨rfl, d4, rfl⟩
    go_wp2_with fail
    refine (same_self x3 x4 _ _ _ (powL p a many) _ w5.heap.size (by exact R3.out) (by exact R4.out) rfl (by omega)).mono ?_
    rintro e w' ⟨rfl, d5, rfl⟩
    go_wp2_with fail
    have HG := Lib.hid hg1
    have HN' : Hid (len = xs.length) := Lib.hid HN.out.symm
    clear hg1 R1 R2 R3 R4 hc1 hm1 hm3 hl3 k2
    go_loopw [130] (fun i wr => ∃ k : Nat, k ≤ (allL p xs).length ∧ i = .int .i64 k ∧ OwnsSome wr W1.heap.size (.slice x1 (allL p xs).length c1) (allL p xs).length ∧ Below W1.heap.size W1 wr) (fun i _ => (allL p xs).length - (intOf i).toNat)
    case atStart => exact ⟨0, Nat.zero_le _, rfl, hOb, below_draws HB _⟩
    case round =>
      obtain ⟨k, hk, rfl, hO, hW⟩ := hrel
      by_cases hlt : k < (allL p xs).length
      · obtain ⟨g, rfl, hg, -⟩ := HG.out (by omega)
        obtain ⟨y, hc⟩ := hO.cell hlt
        have hf := hO.frozen k
        clear hOb
        go_wp2
        go_roundw
        case rel => exact ⟨k + 1, by omega, by go_num, hO.set _, hW.setCell (p := ⟨g, k, none⟩) hg _⟩
        case measure => simp [intOf]; omega
      · have hfin := (hD2.trans (hW.mono hD2.size))
        have RX : Hid (Reads .u64 wr wr.heap.size x xs) := Lib.hid ((HX.out.below hfin).more hfin.size)
        have R0 : Hid (Reads .u64 wr wr.heap.size x0 xs) := Lib.hid ((HR0'.out.below hW).more hW.size)
        go_wp2_with fail
        rw [HN'.out]
        refine (same_self x x0 _ _ _ xs _ wr.heap.size RX.out R0.out rfl (by omega)).mono ?_
        rintro e w' ⟨rfl, d6, rfl⟩
        go_wp2
        go_ret
        exact ⟨rfl, below_draws hfin _⟩

theorem walk_PowerDoes (p a n : Int) (x : Option Addr) (len cap : Nat) (zs : List Int) (many : Int) (w : World) (_hp : (Lit.int .u64 p).wf = true) (ha : (Lit.int .u64 a).wf = true) (hn : (Lit.int .u64 n).wf = true) (hr : RowIn .u64 w x len cap zs) (_hm : (Lit.int .i64 many).wf = true) :
    Calls Try.prog 3 #[.int .u64 p, .int .u64 a, .int .u64 n, .slice x len cap, .int .i64 many] w fun e w' => e = .returned (.bool true) ∧ Below w.heap.size w w' := by
  obtain ⟨a0, a1⟩ := word_of ha
  obtain ⟨n0, n1⟩ := word_of hn
  obtain ⟨xs, rfl, hl, hc, hx, hR, hW⟩ := hr.reads
  have hS := hr.src
  unfold maxLen at hx
  by_cases h1 : (len ≤ 40 ∨ 65536 < len) ∧ len ≤ 65540 ∧ (many ≤ 300 ∨ 65536 < many)
  · exact does2_main p a n many x len cap _ w a0 a1 n0 n1 hS hR hW h1.1 h1.2.1 h1.2.2
  · have D := Lib.hid (fun n => draws_below w.heap.size w n)
    clear hl hR hW hS hr
    by_cases h2 : 40 < len ∧ len ≤ 65536
    · obtain ⟨h3, h4⟩ := h2
      clear h1
      go_enter Try.func3, Try.ntmps3
      go_wp2_with (go_at_call 8; refine (plive_any _).mono ?_; rintro e w' ⟨rfl, nd, rfl⟩)
      go_ret
      exact ⟨rfl, D.out _⟩
    · by_cases h3 : 65540 < len
      · have h4 : ¬ len ≤ 65536 := by omega
        clear h1 h2
        go_enter Try.func3, Try.ntmps3
        go_wp2_with (go_at_call 8; refine (plive_any _).mono ?_; rintro e w' ⟨rfl, nd, rfl⟩)
        go_ret
        exact ⟨rfl, D.out _⟩
      · have h4 : 300 < many := by omega
        have h5 : many ≤ 65536 := by omega
        have h6 : len ≤ 40 ∨ 65536 < len := by omega
        clear h1 h2
        rcases h6 with h6 | h6
        all_goals
          go_enter Try.func3, Try.ntmps3
          go_wp2_with (go_at_call 8; refine (plive_any _).mono ?_; rintro e w' ⟨rfl, nd, rfl⟩)
          go_ret
          exact ⟨rfl, D.out _⟩

end Go.Proofs.Ytceccconfnlggaa
