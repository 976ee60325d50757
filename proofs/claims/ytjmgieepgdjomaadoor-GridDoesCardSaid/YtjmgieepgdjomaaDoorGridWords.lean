/-
  What grid.checkWords comes to, and the document's words and Few (brackenref07), over every input.
-/
import Derived.Test.YtjmgieepgdjomaaDoorGridRef
import Derived.Test.YtjmgieepgdjomaaDoorLines6
namespace Go.Proofs.YtjmgieepgdjomaaDoor
open Go.RowKit

theorem bne_of_ne {a b : Int} (h : a ≠ b) : (a != b) = true := by rw [bne_iff_ne]; exact h
theorem bne_self' (a : Int) : (a != a) = false := by simp

set_option maxHeartbeats 1000000 in
theorem checkWords_any (p : Int) (x : Option Addr) (n cap : Nat) (xa : List Ax) (y : Option Addr) (m cap' : Nat) (xs : List Int) (w : World) (hG : Gl w) (hx : ReadsA w w.heap.size x xa) (hn : xa.length = n) (hl : n ≤ 8796093022208) (hy : Reads .u64 w w.heap.size y xs) (hm : xs.length = m) (hml : m ≤ maxLen) :
    Calls Tryd.prog 23 #[.int .u64 p, .slice x n cap, .slice y m cap'] w (RetB (.int .i64 (wordsE p xa xs)) w) := by
  have HC := Lib.hid (check7_any p x n cap xa w hG hx hn hl)
  have HD := Lib.hid (fun W (hB : Below w.heap.size w W) => dims_any x n cap xa W ((hx.below hB).more hB.size) hn hl)
  by_cases hE : gridE p xa = 0
  · have hA := gridE_zero hE
    have hml' : (m : Int) ≤ 9223372036854775807 := by unfold maxLen at hml; omega
    have HO := Lib.hid hA.ok
    have HDM := Lib.hid hA.is
    have HDL := Lib.hid (dims_len xa)
    by_cases hp : xs.length = Sh.prod (szs xa)
    · have h1 := hA.ok.here
      have h2 := hA.ok.le
      obtain ⟨b, off, rfl, hb, hc⟩ := hy (by omega)
      have HI : Hid (∀ W, Below w.heap.size w W → Calls Tryd.prog 19 #[.int .u64 p, .slice (some ⟨b, off, none⟩) m cap'] W fun e w' => e = .returned (.bool (Fp.isIn p (fun j => xs.getD j 0) xs.length)) ∧ W = w') := Lib.hid (fun W hW => by
        rw [hm]
        exact in_row p b off m cap' _ W hml' (fun j hj => (hW.cell (p := ⟨b, off + j, none⟩) hb).trans (hc j (by omega))))
      have hne : ((m : Int) != ((Sh.prod (szs xa) : Nat) : Int)) = false := by rw [← hp, hm]; exact bne_self' _
      cases hi : Fp.isIn p (fun j => xs.getD j 0) xs.length
      · rw [wordsE_word hE hp hi]
        rw [hi] at HI
        rw [hE] at HC
        clear hE hA hp hi hc hx hy hm hn h1 h2 hG
        go_enter Tryd.func23, Tryd.ntmps23
        go_wp2_with (first
        | (go_at_call 14; refine HC.out.mono ?_; rintro e w0 ⟨rfl, b0⟩; have B0 := Lib.hid b0; clear b0)
        | (go_at_call 17; refine (HD.out _ B0.out).mono ?_; rintro e w1 ⟨v, rfl, hO, b1⟩; obtain ⟨y1, c, rfl, -, -, hr, -⟩ := hO.form; have R1 := Lib.hid hr; have B1 := Lib.hid (below_then B0.out b1); clear hO hr b1)
        | (go_at_call 30; refine (all_ok (szs xa) HO.out y1 _ c w1 w1.heap.size (by rw [← HDM.out]; exact R1.out) (by rw [HDL.out, szs_len])).mono ?_; rintro e w' ⟨rfl, rfl⟩)
        | (go_at_call 19; refine (HI.out _ B1.out).mono ?_; rintro e w' ⟨rfl, rfl⟩))
        go_ret
        exact ⟨rfl, B1.out⟩
      · rw [wordsE_ok hE hp hi]
        rw [hi] at HI
        rw [hE] at HC
        clear hE hA hp hi hc hx hy hm hn h1 h2 hG
        go_enter Tryd.func23, Tryd.ntmps23
        go_wp2_with (first
        | (go_at_call 14; refine HC.out.mono ?_; rintro e w0 ⟨rfl, b0⟩; have B0 := Lib.hid b0; clear b0)
        | (go_at_call 17; refine (HD.out _ B0.out).mono ?_; rintro e w1 ⟨v, rfl, hO, b1⟩; obtain ⟨y1, c, rfl, -, -, hr, -⟩ := hO.form; have R1 := Lib.hid hr; have B1 := Lib.hid (below_then B0.out b1); clear hO hr b1)
        | (go_at_call 30; refine (all_ok (szs xa) HO.out y1 _ c w1 w1.heap.size (by rw [← HDM.out]; exact R1.out) (by rw [HDL.out, szs_len])).mono ?_; rintro e w' ⟨rfl, rfl⟩)
        | (go_at_call 19; refine (HI.out _ B1.out).mono ?_; rintro e w' ⟨rfl, rfl⟩))
        go_ret
        exact ⟨rfl, B1.out⟩
    · rw [wordsE_len hE hp]
      have hne : (m : Int) ≠ ((Sh.prod (szs xa) : Nat) : Int) := by omega
      have hne : ((m : Int) != ((Sh.prod (szs xa) : Nat) : Int)) = true := bne_of_ne hne
      rw [hE] at HC
      clear hE hA hp hx hy hm hn hG
      go_enter Tryd.func23, Tryd.ntmps23
      go_wp2_with (first
        | (go_at_call 14; refine HC.out.mono ?_; rintro e w0 ⟨rfl, b0⟩; have B0 := Lib.hid b0; clear b0)
        | (go_at_call 17; refine (HD.out _ B0.out).mono ?_; rintro e w1 ⟨v, rfl, hO, b1⟩; obtain ⟨y1, c, rfl, -, -, hr, -⟩ := hO.form; have R1 := Lib.hid hr; have B1 := Lib.hid (below_then B0.out b1); clear hO hr b1)
        | (go_at_call 30; refine (all_ok (szs xa) HO.out y1 _ c w1 w1.heap.size (by rw [← HDM.out]; exact R1.out) (by rw [HDL.out, szs_len])).mono ?_; rintro e w' ⟨rfl, rfl⟩))
      go_ret
      exact ⟨rfl, B1.out⟩
  · rw [wordsE_grid hE]
    have t := ne_of_bne hE
    generalize gridE p xa = er at HC t
    clear hE hx hy hm hn HD hG
    go_enter Tryd.func23, Tryd.ntmps23
    go_wp2_with (go_at_call 14; refine HC.out.mono ?_; rintro e w0 ⟨rfl, b0⟩; have B0 := Lib.hid b0; clear b0)
    go_ret
    exact ⟨rfl, B0.out⟩

set_option maxHeartbeats 1000000 in
theorem rwords_any (p : Int) (x : Option Addr) (n cap : Nat) (xa : List Ax) (y : Option Addr) (m cap' : Nat) (xs : List Int) (w : World) (hx : ReadsA w w.heap.size x xa) (hn : xa.length = n) (hl : n ≤ 8796093022208) (hy : Reads .u64 w w.heap.size y xs) (hm : xs.length = m) (hml : m ≤ maxLen) :
    Calls Tryd.prog 25 #[.int .u64 p, .slice x n cap, .slice y m cap'] w (RetB (.int .i64 (wordsE p xa xs)) w) := by
  have HC := Lib.hid (rcheck7_any p x n cap xa w hx hn hl)
  have HD := Lib.hid (fun W (hB : Below w.heap.size w W) => rdims_any x n cap xa W ((hx.below hB).more hB.size) hn hl)
  by_cases hE : gridE p xa = 0
  · have hA := gridE_zero hE
    have hml' : (m : Int) ≤ 9223372036854775807 := by unfold maxLen at hml; omega
    have HO := Lib.hid hA.ok
    have HDM := Lib.hid hA.is
    have HDL := Lib.hid (dims_len xa)
    by_cases hp : xs.length = Sh.prod (szs xa)
    · have h1 := hA.ok.here
      have h2 := hA.ok.le
      obtain ⟨b, off, rfl, hb, hc⟩ := hy (by omega)
      have HI : Hid (∀ W, Below w.heap.size w W → Calls Tryd.prog 47 #[.int .u64 p, .slice (some ⟨b, off, none⟩) m cap'] W fun e w' => e = .returned (.bool (Fp.isIn p (fun j => xs.getD j 0) xs.length)) ∧ W = w') := Lib.hid (fun W hW => by
        rw [hm]
        exact rin_row p b off m cap' _ W hml' (fun j hj => (hW.cell (p := ⟨b, off + j, none⟩) hb).trans (hc j (by omega))))
      have hne : (((Sh.prod (szs xa) : Nat) : Int) != (m : Int)) = false := by rw [← hp, hm]; exact bne_self' _
      cases hi : Fp.isIn p (fun j => xs.getD j 0) xs.length
      · rw [wordsE_word hE hp hi]
        rw [hi] at HI
        rw [hE] at HC
        clear hE hA hp hi hc hx hy hm hn h1 h2
        go_enter Tryd.func25, Tryd.ntmps25
        go_wp2_with (first
        | (go_at_call 15; refine HC.out.mono ?_; rintro e w0 ⟨rfl, b0⟩; have B0 := Lib.hid b0; clear b0)
        | (go_at_call 18; refine (HD.out _ B0.out).mono ?_; rintro e w1 ⟨v, rfl, hO, b1⟩; obtain ⟨y1, c, rfl, -, -, hr, -⟩ := hO.form; have R1 := Lib.hid hr; have B1 := Lib.hid (below_then B0.out b1); clear hO hr b1)
        | (go_at_call 22; refine (rall_ok (szs xa) HO.out y1 _ c w1 w1.heap.size (by rw [← HDM.out]; exact R1.out) (by rw [HDL.out, szs_len])).mono ?_; rintro e w' ⟨rfl, rfl⟩)
        | (go_at_call 47; refine (HI.out _ B1.out).mono ?_; rintro e w' ⟨rfl, rfl⟩))
        go_ret
        exact ⟨rfl, B1.out⟩
      · rw [wordsE_ok hE hp hi]
        rw [hi] at HI
        rw [hE] at HC
        clear hE hA hp hi hc hx hy hm hn h1 h2
        go_enter Tryd.func25, Tryd.ntmps25
        go_wp2_with (first
        | (go_at_call 15; refine HC.out.mono ?_; rintro e w0 ⟨rfl, b0⟩; have B0 := Lib.hid b0; clear b0)
        | (go_at_call 18; refine (HD.out _ B0.out).mono ?_; rintro e w1 ⟨v, rfl, hO, b1⟩; obtain ⟨y1, c, rfl, -, -, hr, -⟩ := hO.form; have R1 := Lib.hid hr; have B1 := Lib.hid (below_then B0.out b1); clear hO hr b1)
        | (go_at_call 22; refine (rall_ok (szs xa) HO.out y1 _ c w1 w1.heap.size (by rw [← HDM.out]; exact R1.out) (by rw [HDL.out, szs_len])).mono ?_; rintro e w' ⟨rfl, rfl⟩)
        | (go_at_call 47; refine (HI.out _ B1.out).mono ?_; rintro e w' ⟨rfl, rfl⟩))
        go_ret
        exact ⟨rfl, B1.out⟩
    · rw [wordsE_len hE hp]
      have hne : (m : Int) ≠ ((Sh.prod (szs xa) : Nat) : Int) := by omega
      have hne : (((Sh.prod (szs xa) : Nat) : Int) != (m : Int)) = true := bne_of_ne (Ne.symm hne)
      rw [hE] at HC
      clear hE hA hp hx hy hm hn
      go_enter Tryd.func25, Tryd.ntmps25
      go_wp2_with (first
        | (go_at_call 15; refine HC.out.mono ?_; rintro e w0 ⟨rfl, b0⟩; have B0 := Lib.hid b0; clear b0)
        | (go_at_call 18; refine (HD.out _ B0.out).mono ?_; rintro e w1 ⟨v, rfl, hO, b1⟩; obtain ⟨y1, c, rfl, -, -, hr, -⟩ := hO.form; have R1 := Lib.hid hr; have B1 := Lib.hid (below_then B0.out b1); clear hO hr b1)
        | (go_at_call 22; refine (rall_ok (szs xa) HO.out y1 _ c w1 w1.heap.size (by rw [← HDM.out]; exact R1.out) (by rw [HDL.out, szs_len])).mono ?_; rintro e w' ⟨rfl, rfl⟩))
      go_ret
      exact ⟨rfl, B1.out⟩
  · rw [wordsE_grid hE]
    have t := ne_of_bne hE
    generalize gridE p xa = er at HC t
    clear hE hx hy hm hn HD
    go_enter Tryd.func25, Tryd.ntmps25
    go_wp2_with (go_at_call 15; refine HC.out.mono ?_; rintro e w0 ⟨rfl, b0⟩; have B0 := Lib.hid b0; clear b0)
    go_ret
    exact ⟨rfl, B0.out⟩

/-- Whether axes are few enough to be played: one bool, whatever the world. -/
theorem few_any (x : Option Addr) (n cap : Nat) (xa : List Ax) (most : Int) (w : World) (hx : ReadsA w w.heap.size x xa) (hn : xa.length = n) (hl : n ≤ 8796093022208) :
    ∃ b : Bool, Hid (∀ W, Below w.heap.size w W → Calls Tryd.prog 8 #[.slice x n cap, .int .i64 most] W (RetB (.bool b) W)) := by
  have HD := Lib.hid (fun W (hB : Below w.heap.size w W) => rdims_any x n cap xa W ((hx.below hB).more hB.size) hn hl)
  have HDL := Lib.hid (dims_len xa)
  by_cases h10 : n ≤ 10
  · have d1 : decide ((n : Int) ≤ 10) = true := by simp; omega
    rcases dims_or xa with ⟨ho, hd⟩ | hno
    · have HO := Lib.hid ho
      have HDM := Lib.hid hd
      obtain ⟨d, hd2⟩ : ∃ d, decide (((Sh.prod (szs xa) : Nat) : Int) ≤ most) = d := ⟨_, rfl⟩
      refine ⟨d, Lib.hid fun W hW => ?_⟩
      have HW := Lib.hid hW
      clear ho hd hx hn hW
      cases d
      all_goals
        go_enter Tryd.func8, Tryd.ntmps8
        go_wp2_with (first
          | (go_at_call 18; refine (HD.out _ HW.out).mono ?_; rintro e w1 ⟨v, rfl, hO, b1⟩; obtain ⟨y1, c, rfl, -, -, hr, -⟩ := hO.form; have R1 := Lib.hid hr; have B1 := Lib.hid b1; clear hO hr b1)
          | (go_at_call 22; refine (rall_ok (szs xa) HO.out y1 _ c w1 w1.heap.size (by rw [← HDM.out]; exact R1.out) (by rw [HDL.out, szs_len])).mono ?_; rintro e w' ⟨rfl, rfl⟩))
        go_ret
        exact ⟨rfl, B1.out⟩
    · have HN := Lib.hid hno
      refine ⟨true, Lib.hid fun W hW => ?_⟩
      have HW := Lib.hid hW
      clear hx hn hW hno
      go_enter Tryd.func8, Tryd.ntmps8
      go_wp2_with (first
        | (go_at_call 18; refine (HD.out _ HW.out).mono ?_; rintro e w1 ⟨v, rfl, hO, b1⟩; obtain ⟨y1, c, rfl, -, -, hr, -⟩ := hO.form; have R1 := Lib.hid hr; have B1 := Lib.hid b1; clear hO hr b1)
        | (go_at_call 22; refine (rall_no (dims xa) HN.out y1 _ c w1 w1.heap.size R1.out rfl).mono ?_; rintro e w' ⟨rfl, rfl⟩))
      go_ret
      exact ⟨rfl, B1.out⟩
  · have d1 : decide ((n : Int) ≤ 10) = false := by simp; omega
    have hno : Sh.No (dims xa) := fun ns ok e => by
      have := ok.four
      have h2 := congrArg List.length e
      rw [dims_len, Sh.ints_len] at h2
      omega
    have HN := Lib.hid hno
    refine ⟨false, Lib.hid fun W hW => ?_⟩
    have HW := Lib.hid hW
    clear hx hn hW hno
    go_enter Tryd.func8, Tryd.ntmps8
    go_wp2_with (first
      | (go_at_call 18; refine (HD.out _ HW.out).mono ?_; rintro e w1 ⟨v, rfl, hO, b1⟩; obtain ⟨y1, c, rfl, -, -, hr, -⟩ := hO.form; have R1 := Lib.hid hr; have B1 := Lib.hid b1; clear hO hr b1)
      | (go_at_call 22; refine (rall_no (dims xa) HN.out y1 _ c w1 w1.heap.size R1.out rfl).mono ?_; rintro e w' ⟨rfl, rfl⟩))
    go_ret
    exact ⟨rfl, B1.out⟩

end Go.Proofs.YtjmgieepgdjomaaDoor
