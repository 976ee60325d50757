/-
  The walk of AgendaNone: what is told is not told again; of none there is no next one; a nil one keeps nothing, and one that was not made by New keeps what is put.
-/
import Derived.Test.YtfkidghillnknaaAgTwo
namespace Go.Proofs.Ytfkidghillnknaa
open Go.RowKit

set_option maxHeartbeats 16000000 in
set_option maxRecDepth 100000 in
theorem none_in (a : Option Addr) (len cap : Nat) (es : List Ev) (t : Int) (w : World) (hI : EventIn w a len cap es) (hl : len ≤ 40) :
    Calls Try.prog 7 #[.slice a len cap, .int .i64 t] w fun e w' => e = .returned (.bool true) ∧ Below w.heap.size w w' := by
  obtain ⟨hn, -, -, hR, hO⟩ := hI
  have HV := Lib.hid (live11_any w)
  have d1 : decide ((40 : Int) < (len : Int)) = false := by simp; omega
  have HE : Hid ((putAll [] es).length = len) := Lib.hid (by rw [putAll_len]; simp [hn])
  have HNn := Lib.hid Next_nil
  have HPn := Lib.hid (Put_nil a len cap)
  have HDn := Lib.hid (Due_nil t)
  have HRn := Lib.hid Rest_nil
  have HLn := Lib.hid Left_nil
  have HN := Lib.hid (fun W (hb : Below w.heap.size w W) => New_ok a len cap es W (hR.since hb) hn hO (by omega))
  have HP := Lib.hid (fun A F W p (hG : AG W F A [] p) (hF : ∀ k, F k → w.heap.size ≤ k) (hb : Below w.heap.size w W) (hp : p = 0) => Put_ok A F [] p a len cap es W hG ((hR.below hb).rdF hF) hn hO (by simp; omega) (by omega))
  generalize putAll [] es = L at HE HN HP
  clear hR hO hn
  go_enter Try.func7, Try.ntmps7
  go_wp2_with (first
    | (go_at_call 9; refine HV.out.mono ?_; rintro e w1 ⟨rfl, hb1⟩; have B1 := Lib.hid hb1; clear hb1 HV)
    | (go_at_call 14; refine (HNn.out w1).mono ?_; clear HNn; rintro e w1' ⟨rfl, rfl⟩)
    | (go_at_call 19; refine (HPn.out w1).mono ?_; clear HPn; rintro e w1' ⟨rfl, rfl⟩)
    | (go_at_call 12; refine (HDn.out w1).mono ?_; clear HDn; rintro e w1' ⟨rfl, rfl⟩)
    | (go_at_call 21; refine (HRn.out w1).mono ?_; clear HRn; rintro e w1' ⟨rfl, rfl⟩)
    | (go_at_call 17; refine (HLn.out w1).mono ?_; clear HLn; rintro e w1' ⟨rfl, rfl⟩)
    | (go_at_call 10; refine (HN.out (w1.alloc agO) (below_al B1.out _)).mono ?_; rintro e w3 ⟨A, rfl, hA3, hG3, hb3⟩; have T3 : Hid (Two w w3 (Nw w1 (w1.alloc agO)) (Nw (w1.alloc agO) w3) w1.heap.size A [] L 0 len) := Lib.hid ⟨below_on (below_al B1.out _) hb3, (AG.new w1).below hb3, hG3, (fun k c d => by have := c.2; have := d.1; omega), (fun k c => by have := c.1; have := B1.out.size; omega), (fun k c => by have := c.1; have := (below_al B1.out agO).size; omega)⟩; have K3 := Lib.hid (Left_any _ _ _ _ w3 T3.out.a); clear hG3 hb3 hA3)
    | (go_at_call 17; refine K3.out.mono ?_; clear K3; rintro e w3' ⟨rfl, rfl⟩; have K4 := Lib.hid (HP.out _ _ w3 0 T3.out.a T3.out.na T3.out.below rfl))
    | (go_at_call 19; refine K4.out.mono ?_; clear K4; rintro e w4 ⟨rfl, hG4, hB4⟩; have T4 := Lib.hid (T3.out.put hG4 hB4); have K5 := Lib.hid (Due_any _ _ _ _ t w4 T4.out.a (by have := HE.out; omega)); clear hG4 hB4)
    | (go_at_call 12; refine K5.out.mono ?_; clear K5; intro e w5 hd; obtain ⟨x5, c5, rfl, hO5, hb5, hT5⟩ := T4.out.due hd; have T5 := Lib.hid hT5.swap; have O5 := Lib.hid hO5; have K6 := Lib.hid (Due_any _ _ _ _ t w5 T5.out.a (by have := HE.out; omega)); clear hd hO5 hb5 hT5)
    | (go_at_call 12; refine K6.out.mono ?_; clear K6; intro e w6 hd; obtain ⟨x6, c6, rfl, hO6, hb6, hT6⟩ := T5.out.due hd; have T6 := Lib.hid hT6; have S6 := Lib.hid (same_told x5 x6 _ _ c5 c6 _ _ w6 _ _ (O5.out.told hb6 T4.out.b.lt) hO6 (by have := HE.out; have := due_len t L; omega) (by have := HE.out; have := due_len t L; omega)); rw [decide_eq_true rfl] at S6; clear hd hO6 hb6 hT6)
    | (go_at_call 16; refine S6.out.mono ?_; clear S6; rintro e w6' ⟨rfl, q6, rfl⟩; have T6' := Lib.hid (T6.out.quiet (draws_below _ _ q6)); have K7 := Lib.hid (Due_any _ _ _ _ t (w6.drewN q6) T6'.out.a (by have := HE.out; have := yet_len t L; omega)); rw [due_yet, yet_yet] at K7)
    | (go_at_call 12; refine K7.out.mono ?_; clear K7; intro e w7 hd; obtain ⟨x7, c7, rfl, -, hb7, hT7⟩ := T6'.out.due hd; have T7 := Lib.hid hT7.swap; have K8 := Lib.hid (Rest_any _ _ _ _ w7 T7.out.a (by have := HE.out; have := yet_len t L; omega)); rw [List.length_nil]; clear hd hb7 hT7)
    | (go_at_call 21; refine K8.out.mono ?_; clear K8; intro e w8 hd; obtain ⟨x8, c8, rfl, hO8, hb8, hT8⟩ := T7.out.due hd; have T8 := Lib.hid hT8.swap; have O8 := Lib.hid hO8; have K9 := Lib.hid (Rest_any _ _ _ _ w8 T8.out.a (by have := HE.out; have := yet_len t L; omega)); clear hd hO8 hb8 hT8)
    | (go_at_call 21; refine K9.out.mono ?_; clear K9; intro e w9 hd; obtain ⟨x9, c9, rfl, hO9, hb9, hT9⟩ := T8.out.due hd; have T9 := Lib.hid hT9; have S9 := Lib.hid (same_told x8 x9 _ _ c8 c9 _ _ w9 _ _ (O8.out.told hb9 T7.out.b.lt) hO9 (by have := HE.out; have := yet_len t L; omega) (by have := HE.out; have := yet_len t L; omega)); rw [decide_eq_true rfl] at S9; clear hd hO9 hb9 hT9)
    | (go_at_call 16; refine S9.out.mono ?_; clear S9; rintro e w9' ⟨rfl, q9, rfl⟩; have T9' := Lib.hid (T9.out.quiet (draws_below _ _ q9)); have K10 := Lib.hid (Next_any _ _ _ _ (w9.drewN q9) T9'.out.a (by simp)); rw [show nxT [] = 0 from rfl, show nxE [] = 9 from rfl] at K10)
    | (go_at_call 14; refine K10.out.mono ?_; clear K10; rintro e w10 ⟨rfl, rfl⟩; have K11 := Lib.hid (Rest_any _ _ _ _ (w9.drewN q9) T9'.out.a (by simp)))
    | (go_at_call 21; refine K11.out.mono ?_; clear K11; intro e w11 hd; obtain ⟨x11, c11, rfl, -, hb11, hT11⟩ := T9'.out.due hd; have T11 := Lib.hid hT11; rw [List.length_nil]; clear hd hb11 hT11))
  go_ret
  exact ⟨rfl, T11.out.below⟩

theorem walk_AgendaNone (a : Option Addr) (len cap : Nat) (es : List Ev) (t : Int) (w : World) (hI : EventIn w a len cap es) (_hlb : len ≤ 2932031007403) (_ht : (Lit.int .i64 t).wf = true) :
    Calls Try.prog 7 #[.slice a len cap, .int .i64 t] w fun e w' => e = .returned (.bool true) ∧ Below w.heap.size w w' := by
  by_cases hl : len ≤ 40
  · exact none_in a len cap es t w hI hl
  · have HV := Lib.hid (live11_any w)
    have d1 : decide ((40 : Int) < (len : Int)) = true := by simp; omega
    clear hI
    go_enter Try.func7, Try.ntmps7
    go_wp2_with (go_at_call 9; refine HV.out.mono ?_; rintro e w1 ⟨rfl, hb1⟩)
    go_ret
    exact ⟨rfl, hb1⟩

end Go.Proofs.Ytfkidghillnknaa
