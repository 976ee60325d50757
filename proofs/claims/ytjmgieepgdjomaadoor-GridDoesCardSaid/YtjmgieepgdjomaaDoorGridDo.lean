/-
  What grid.Axis and Do come to, over every input.
-/
import Derived.Test.YtjmgieepgdjomaaDoorThrough
namespace Go.Proofs.YtjmgieepgdjomaaDoor
open Go.RowKit Go.Shelf

/-- What Axis tells: an error, and the words. -/
def axE (p : Int) (xa : List Ax) (a : Int) (xs : List Int) : Int := if wordsE p xa xs ≠ 0 then wordsE p xa xs else if a < 0 ∨ (xa.length : Int) ≤ a then 1 else 0
def axL (p : Int) (xa : List Ax) (a : Int) (inv : Bool) (xs : List Int) : List Int := if axE p xa a xs = 0 then thr p xa a.toNat inv xs else []
/-- What Do tells. -/
def doL (p : Int) (xa : List Ax) (inv : Bool) (xs : List Int) : List Int := if wordsE p xa xs = 0 then doTo p xa inv xs xa.length else []
section
variable {p : Int} {xa : List Ax} {a : Int} {xs : List Int}
theorem axE_words (h : wordsE p xa xs ≠ 0) : axE p xa a xs = wordsE p xa xs := by unfold axE; rw [if_pos h]
theorem axE_arg (h : wordsE p xa xs = 0) (ha : a < 0 ∨ (xa.length : Int) ≤ a) : axE p xa a xs = 1 := by unfold axE; rw [if_neg (by simp [h]), if_pos ha]
theorem axE_ok (h : wordsE p xa xs = 0) (ha : ¬ (a < 0 ∨ (xa.length : Int) ≤ a)) : axE p xa a xs = 0 := by unfold axE; rw [if_neg (by simp [h]), if_neg ha]
theorem axE_zero (h : axE p xa a xs = 0) : Grid p xa xs ∧ ∃ k : Nat, a = (k : Int) ∧ k < xa.length := by
  by_cases hw : wordsE p xa xs = 0
  · by_cases ha : a < 0 ∨ (xa.length : Int) ≤ a
    · rw [axE_arg hw ha] at h; omega
    · exact ⟨wordsE_zero hw, a.toNat, by omega, by omega⟩
  · rw [axE_words hw] at h; exact absurd h hw
theorem Grid.axE (h : Grid p xa xs) {k : Nat} (hk : k < xa.length) : axE p xa (k : Int) xs = 0 := axE_ok h.zero (by omega)
theorem Grid.axL (h : Grid p xa xs) {k : Nat} (hk : k < xa.length) (inv : Bool) : Go.Proofs.YtjmgieepgdjomaaDoor.axL p xa (k : Int) inv xs = Go.Proofs.YtjmgieepgdjomaaDoor.thr p xa k inv xs := by
  unfold Go.Proofs.YtjmgieepgdjomaaDoor.axL; rw [if_pos (h.axE hk), Int.toNat_natCast]
theorem axL_no (h : Go.Proofs.YtjmgieepgdjomaaDoor.axE p xa a xs ≠ 0) (inv : Bool) : Go.Proofs.YtjmgieepgdjomaaDoor.axL p xa a inv xs = [] := by unfold Go.Proofs.YtjmgieepgdjomaaDoor.axL; rw [if_neg h]
theorem Grid.doL (h : Grid p xa xs) (inv : Bool) : doL p xa inv xs = Go.Proofs.YtjmgieepgdjomaaDoor.doTo p xa inv xs xa.length := by unfold Go.Proofs.YtjmgieepgdjomaaDoor.doL; rw [if_pos h.zero]
theorem doL_no (h : wordsE p xa xs ≠ 0) (inv : Bool) : Go.Proofs.YtjmgieepgdjomaaDoor.doL p xa inv xs = [] := by unfold Go.Proofs.YtjmgieepgdjomaaDoor.doL; rw [if_neg h]
theorem axE_bd (p : Int) (xa : List Ax) (a : Int) (xs : List Int) : 0 ≤ Go.Proofs.YtjmgieepgdjomaaDoor.axE p xa a xs ∧ Go.Proofs.YtjmgieepgdjomaaDoor.axE p xa a xs ≤ 7 := by
  have := wordsE_bd p xa xs
  unfold Go.Proofs.YtjmgieepgdjomaaDoor.axE
  split
  · omega
  · split <;> omega
end

set_option maxHeartbeats 1000000 in
theorem axis_any (p : Int) (x : Option Addr) (n cap : Nat) (xa : List Ax) (a : Int) (inv : Bool) (y : Option Addr) (m cap' : Nat) (xs : List Int) (w : World) (hG : Gl w) (hx : ReadsA w w.heap.size x xa) (hn : xa.length = n) (hl : n ≤ 8796093022208) (hy : Reads .u64 w w.heap.size y xs) (hm : xs.length = m) (hw : Words xs) (hml : m ≤ maxLen) :
    Calls Tryd.prog 9 #[.int .u64 p, .slice x n cap, .int .i64 a, .bool inv, .slice y m cap'] w (LineRet w (axL p xa a inv xs) (axE p xa a xs)) := by
  have HC := Lib.hid (checkWords_any p x n cap xa y m cap' xs w hG hx hn hl hy hm hml)
  by_cases hE : wordsE p xa xs = 0
  · rw [hE] at HC
    by_cases h0 : a < 0
    · have d1 : decide (a < 0) = true := by simpa using h0
      have e := axE_arg (a := a) hE (.inl h0)
      rw [axL_no (by omega), e]
      clear hE hG hx hy hw hn hm hml e
      go_enter Tryd.func9, Tryd.ntmps9
      go_wp2_with (go_at_call 23; refine HC.out.mono ?_; rintro e w1 ⟨rfl, b1⟩)
      go_ret2
      exact ⟨_, rfl, Owns.nil, b1⟩
    · have d1 : decide (a < 0) = false := by simpa using h0
      by_cases h1 : (n : Int) ≤ a
      · have d2 : decide ((n : Int) ≤ a) = true := by simpa using h1
        have e := axE_arg (a := a) hE (.inr (by omega))
        rw [axL_no (by omega), e]
        clear hE hG hx hy hw hn hm hml e
        go_enter Tryd.func9, Tryd.ntmps9
        go_wp2_with (go_at_call 23; refine HC.out.mono ?_; rintro e w1 ⟨rfl, b1⟩)
        go_ret2
        exact ⟨_, rfl, Owns.nil, b1⟩
      · have d2 : decide ((n : Int) ≤ a) = false := by simpa using h1
        obtain ⟨k, rfl⟩ : ∃ k : Nat, a = (k : Int) := ⟨a.toNat, by omega⟩
        have hGr := wordsE_zero hE
        rw [hGr.axE (by omega), hGr.axL (by omega)]
        have HT := Lib.hid (fun W (hB : Below w.heap.size w W) => through_any p x n cap xa k inv y m cap' xs W (hG.then hB) ((hx.below hB).more hB.size) hn (by omega) ((hy.below hB).more hB.size) hm hw hGr)
        have d2' : decide (n ≤ k) = false := by simp; omega
        generalize thr p xa k inv xs = res at HT ⊢
        clear hE hG hx hy hw hn hm hml hGr h0 h1
        go_enter Tryd.func9, Tryd.ntmps9
        go_wp2_with (first
          | (go_at_call 23; refine HC.out.mono ?_; rintro e w1 ⟨rfl, b1⟩; have B1 := Lib.hid b1; clear b1)
          | (go_at_call 24; refine (HT.out _ B1.out).mono ?_; rintro e w2 ⟨v, rfl, hO, b2⟩))
        go_ret2
        exact ⟨_, rfl, hO.mono B1.out.size, below_then B1.out b2⟩
  · rw [axL_no (by rw [axE_words hE]; exact hE), axE_words hE]
    have t := ne_of_bne hE
    generalize wordsE p xa xs = er at HC t ⊢
    clear hE hG hx hy hw hn hm hml
    go_enter Tryd.func9, Tryd.ntmps9
    go_wp2_with (go_at_call 23; refine HC.out.mono ?_; rintro e w1 ⟨rfl, b1⟩)
    go_ret2
    exact ⟨_, rfl, Owns.nil, b1⟩

set_option maxHeartbeats 1000000 in
theorem do_any (p : Int) (x : Option Addr) (n cap : Nat) (xa : List Ax) (inv : Bool) (y : Option Addr) (m cap' : Nat) (xs : List Int) (w : World) (hG : Gl w) (hx : ReadsA w w.heap.size x xa) (hn : xa.length = n) (hl : n ≤ 8796093022208) (hy : Reads .u64 w w.heap.size y xs) (hm : xs.length = m) (hw : Words xs) (hml : m ≤ maxLen) :
    Calls Tryd.prog 11 #[.int .u64 p, .slice x n cap, .bool inv, .slice y m cap'] w (LineRet w (doL p xa inv xs) (wordsE p xa xs)) := by
  have HC := Lib.hid (checkWords_any p x n cap xa y m cap' xs w hG hx hn hl hy hm hml)
  by_cases hE : wordsE p xa xs = 0
  · have hGr := wordsE_zero hE
    rw [hE] at HC ⊢
    rw [hGr.doL]
    have n1 : 1 ≤ n := by have := hGr.ax.ok.one; rw [szs_len] at this; omega
    have n4 : n ≤ 4 := by have := hGr.ax.ok.four; rw [szs_len] at this; omega
    have HT := Lib.hid (fun W (k : Nat) (hk : k < n) (y' : Option Addr) (c : Nat) (hB : Below w.heap.size w W) (hr : Reads .u64 W W.heap.size y' (doTo p xa inv xs k)) => through_any p x n cap xa k inv y' m c (doTo p xa inv xs k) W (hG.then hB) ((hx.below hB).more hB.size) hn hk hr (by rw [doTo_len]; exact hm) (hGr.doWords hw k) (hGr.doTo k))
    have HL := Lib.hid (fun k => (doTo_len p xa inv xs k).trans hm)
    have HS : Hid (∀ k, thr p xa k inv (doTo p xa inv xs k) = doTo p xa inv xs (k + 1)) := Lib.hid (fun k => rfl)
    have H0 : Hid (doTo p xa inv xs 0 = xs) := Lib.hid rfl
    have HX := Lib.hid (fun W (hB : Below w.heap.size w W) => (hy.below hB).more hB.size)
    rw [hn]
    generalize doTo p xa inv xs = dl at HT HL HS H0 ⊢
    clear hE hG hx hy hw hm hml hGr hn
    go_enter Tryd.func11, Tryd.ntmps11
    go_wp2_with (go_at_call 23; refine HC.out.mono ?_; rintro e w1 ⟨rfl, b1⟩; have B1 := Lib.hid b1; clear b1)
    clear HC
    go_loopw [11, 23] (fun v i wr => ∃ (k : Nat) (y' : Option Addr) (c : Nat), k ≤ n ∧ i = .int .i64 (k : Int) ∧ .slice y' m c = v ∧ Reads .u64 wr wr.heap.size y' (dl k) ∧ (k = 0 ∨ Owns .u64 22 wr w.heap.size (.slice y' m c) (dl k)) ∧ Below w.heap.size w wr) (fun _ i _ => n - (intOf i).toNat)
    case atStart => exact ⟨0, y, cap', Nat.zero_le _, rfl, rfl, by rw [H0.out]; exact HX.out _ B1.out, .inl rfl, B1.out⟩
    case round =>
      obtain ⟨k, y', c, hk, rfl, rfl, hr, ho, hB⟩ := hrel
      by_cases hlt : k < n
      · have HTk := Lib.hid (HT.out wr k hlt y' c hB hr)
        rw [HS.out] at HTk
        have HB := Lib.hid hB
        clear hr ho hB B1 HX H0
        go_wp2_with (go_at_call 24; refine HTk.out.mono ?_; rintro e w2 ⟨v, rfl, hO, b2⟩; obtain ⟨y2, c2, rfl, -, -, hr2, -⟩ := hO.form; rw [HL.out] at hO ⊢; have R2 := Lib.hid hr2; have O2 := Lib.hid hO; have B2 := Lib.hid b2; clear hO hr2 b2)
        go_roundw
        case rel => exact ⟨k + 1, y2, c2, by omega, by go_num, rfl, R2.out, .inr (O2.out.mono HB.out.size), below_then HB.out B2.out⟩
        case measure => simp [intOf]; omega
      · obtain rfl : k = n := by omega
        have hR : LineRet w (dl k) 0 (.returned (.tuple #[.slice y' m c, .int .i64 0])) wr := ⟨_, rfl, by
          rcases ho with h0 | ho
          · omega
          · exact ho, hB⟩
        clear hr ho hB B1 HX H0
        go_wp2
        go_ret2
        exact hR
  · rw [doL_no hE]
    have t := ne_of_bne hE
    generalize wordsE p xa xs = er at HC t ⊢
    clear hE hG hx hy hw hn hm hml
    go_enter Tryd.func11, Tryd.ntmps11
    go_wp2_with (go_at_call 23; refine HC.out.mono ?_; rintro e w1 ⟨rfl, b1⟩)
    go_ret2
    exact ⟨_, rfl, Owns.nil, b1⟩

end Go.Proofs.YtjmgieepgdjomaaDoor
