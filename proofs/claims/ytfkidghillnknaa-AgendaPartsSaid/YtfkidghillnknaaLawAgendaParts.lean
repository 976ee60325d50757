/-
  The walk of AgendaParts: put in two goes they are as put in one; due in two goes they are as in one.
-/
import Derived.Test.YtfkidghillnknaaMathDue
namespace Go.Proofs.Ytfkidghillnknaa
open Go.RowKit

set_option maxHeartbeats 16000000 in
set_option maxRecDepth 100000 in
theorem parts_in (ad : Addr) (len cap : Nat) (es : List Ev) (at' t u : Int) (k : Nat) (w : World) (hI : EventIn w (some ad) len cap es) (hl : len ≤ 40) (ha : 0 ≤ at' ∧ at' < 256) (hk : at' % ((len : Int) + 1) = (k : Int)) (hkl : k ≤ len) :
    Calls Try.prog 6 #[.slice (some ad) len cap, .int .u8 at', .int .i64 t, .int .i64 u] w fun e w' => e = .returned (.bool true) ∧ Below w.heap.size w w' := by
  obtain ⟨hn, hcap, hcm, hR, hO⟩ := hI
  have hc1 := hcap.1
  have hd0 : (len : Int) + 1 ≠ 0 := by omega
  have HV := Lib.hid (live11_any w)
  have d1 : decide ((40 : Int) < (len : Int)) = false := by simp; omega
  have HE : Hid ((putAll [] es).length = len) := Lib.hid (by rw [putAll_len]; simp [hn])
  have HN := Lib.hid (fun W (hb : Below w.heap.size w W) => New_ok (some ad) len cap es W (hR.since hb) hn hO (by omega))
  have HN2 := Lib.hid (fun W c (hb : Below w.heap.size w W) => New_ok (some ad) k c (es.take k) W (by
    intro h0
    obtain ⟨b, off, e, h1, h2⟩ := (hR.since hb) (by simp at h0; omega)
    exact ⟨b, off, e, h1, fun j hj => by simp at hj; have := h2 j (by omega); rwa [show (es.take k).getD j noEv = es.getD j noEv by simp [show j < k by omega]]⟩) (by simp; omega) (fun s hs => hO s (List.mem_of_mem_take hs)) (by omega))

  have hcb : (k : Int) ≤ (cap : Int) := by omega
  obtain ⟨ad2, hif⟩ : ∃ ad2, (if cap = k then some ad else some (ad.add (k * 6))) = some ad2 := by
    by_cases c : cap = k
    · exact ⟨ad, by rw [if_pos c]⟩
    · exact ⟨ad.add (k * 6), by rw [if_neg c]⟩
  have HP := Lib.hid (fun B F W c (hG : AG W F B (putAll [] (es.take k)) k) (hF : ∀ i, F i → w.heap.size ≤ i) (hb : Below w.heap.size w W) => Put_ok B F (putAll [] (es.take k)) k (some ad2) (len - k) c (es.drop k) W hG ((show ReadsE W w.heap.size (some ad2) (es.drop k) from by
    intro h0
    have h0' : k < len := by simp at h0; omega
    obtain ⟨b, off, e, h1, h2⟩ := (hR.below hb) (by omega)
    cases e
    rw [if_neg (by omega)] at hif
    refine ⟨b, off + k * 6, by rw [← hif, Addr.add_lit], h1, fun j hj => ?_⟩
    simp at hj
    have := h2 (k + j) (by omega)
    rw [show (es.drop k).getD j noEv = es.getD (k + j) noEv by simp, show off + k * 6 + j * 6 = off + (k + j) * 6 by omega]
    exact this).rdF hF) (by simp; omega) (fun s hs => hO s (List.mem_of_mem_drop hs)) (by rw [putAll_len]; simp; omega) (by omega))
  rw [putAll_app, List.take_append_drop] at HP
  have kn : ((k : Int)).toNat = k := by omega
  generalize putAll [] es = L at HE HN HP
  have hmm : Hid (min t u ≤ max t u) := Lib.hid (by omega)
  clear hR hO hn hcap
  go_enter Try.func6, Try.ntmps6
  go_wp2_with (first
    | (go_at_call 9; refine HV.out.mono ?_; rintro e w1 ⟨rfl, hb1⟩; have B1 := Lib.hid hb1; clear hb1 HV)
    | (go_at_call 10; refine (HN.out w1 B1.out).mono ?_; clear HN; rintro e w2 ⟨A, rfl, hA2, hG2, hb2⟩; have G2 := Lib.hid (And.intro hG2 hb2); have B2 := Lib.hid (below_on B1.out hb2); clear hA2 hG2 hb2)
    | (go_at_call 10; refine (HN2.out w2 _ B2.out).mono ?_; clear HN2; rintro e w3 ⟨B, rfl, hA3, hG3, hb3⟩; have T3 : Hid (Two w w3 (Nw w2 w3) (Nw w1 w2) B A (putAll [] (es.take k)) L k len) := Lib.hid ⟨below_on B2.out hb3, hG3, G2.out.1.below hb3, (fun i c d => by have := c.1; have := d.2; omega), (fun i c => by have := c.1; have := B2.out.size; omega), (fun i c => by have := c.1; have := B1.out.size; omega)⟩; have K4 := Lib.hid (fun c => HP.out _ _ w3 c T3.out.a T3.out.na T3.out.below); clear hA3 hG3 hb3 HP)
    | (go_at_call 19; refine (K4.out _).mono ?_; clear K4; rintro e w4 ⟨rfl, hG4, hB4⟩; have T4 := Lib.hid (T3.out.put hG4 hB4).swap; have K5 := Lib.hid (Due_any _ _ _ _ (max t u) w4 T4.out.a (by have := HE.out; omega)); clear hG4 hB4)
    | (go_at_call 12; refine K5.out.mono ?_; clear K5; intro e w5 hd; obtain ⟨x5, c5, rfl, hO5, hb5, hT5⟩ := T4.out.due hd; have T5 := Lib.hid hT5.swap; have O5 := Lib.hid (And.intro hO5.toldNow hb5.size); have K6 := Lib.hid (Due_any _ _ _ _ (min t u) w5 T5.out.a (by have := HE.out; omega)); clear hd hO5 hb5 hT5)
    | (go_at_call 12; refine K6.out.mono ?_; clear K6; intro e w6 hd; obtain ⟨x6, c6, rfl, hO6, hb6, hT6⟩ := T5.out.due hd; have T6 := Lib.hid hT6; have P6 := Lib.hid (O5.out.1.but hb6 (fun i c => .inl (T4.out.b.lt i c)) (Nat.le_refl _)); have O6 := Lib.hid (And.intro hO6.toldNow hb6.size); have K7 := Lib.hid (Due_any _ _ _ _ (max t u) w6 T6.out.a (by have := HE.out; have := yet_len (min t u) L; omega)); rw [yet_two hmm.out] at K7; clear hd hO6 hb6 hT6)
    | (go_at_call 12; refine K7.out.mono ?_; clear K7; intro e w7 hd; obtain ⟨x7, c7, rfl, hO7, hb7, hT7⟩ := T6.out.due hd; have T7 := Lib.hid hT7; have P7 := Lib.hid (P6.out.but hb7 (fun i c => .inl (T4.out.b.lt i c)) O6.out.2); have Q7 := Lib.hid (O6.out.1.but hb7 (fun i c => .inl (T5.out.a.lt i c)) (Nat.le_refl _)); have S7 := Lib.hid hO7.src; have Z7 := Lib.hid hb7.size; clear hd hO7 hb7 hT7)
    | (at_builtin; refine wpList_append_ev rfl _ _ rfl w5.heap.size _ (due (min t u) L) rfl Q7.out.1 x7 _ c7 (due (max t u) (yet (min t u) L)) rfl S7.out (by have := HE.out; have := due_len (min t u) L; have := due_len (max t u) (yet (min t u) L); have := yet_len (min t u) L; omega) (by have := O6.out.2; have := Z7.out; omega) ?_; intro v8 w8 hO8 hg8; rw [due_two hmm.out T4.out.a.srd] at hO8; have T8 := Lib.hid (T7.out.but (But.of_grown hg8) (fun i c d => by have := T5.out.a.lt i c; have := Q7.out.1.ownBlock i d; omega) (fun i c d => by have := T5.out.b.lt i c; have := Q7.out.1.ownBlock i d; omega) (fun i d => by have := Q7.out.1.ownBlock i d; have := T5.out.below.size; omega)); have P8 := Lib.hid (P7.out.but (But.of_grown hg8) (fun i d => .inr (Q7.out.1.ownBlock i d)) (by have := O6.out.2; have := Z7.out; omega)); obtain ⟨x8, c8, rfl, -⟩ := hO8.form; have S8 := Lib.hid (same_told x5 x8 _ _ c5 c8 _ _ w8 _ _ P8.out.1 hO8 (by have := HE.out; have := due_len (max t u) L; omega) (by have := HE.out; have := due_len (max t u) L; omega)); rw [decide_eq_true rfl] at S8; clear hO8 hg8)
    | (go_at_call 16; refine S8.out.mono ?_; clear S8; rintro e w9 ⟨rfl, q9, rfl⟩; have T9 := Lib.hid (T8.out.quiet (draws_below _ _ q9)).swap; have K9 := Lib.hid (Left_any _ _ _ _ _ T9.out.a); have K10 := Lib.hid (Left_any _ _ _ _ _ T9.out.b))
    | (go_at_call 17; refine K9.out.mono ?_; clear K9; rintro e w9' ⟨rfl, rfl⟩)
    | (go_at_call 17; refine K10.out.mono ?_; clear K10; rintro e w9' ⟨rfl, rfl⟩; have K11 := Lib.hid (Rest_any _ _ _ _ _ T9.out.a (by have := HE.out; have := yet_len (max t u) L; omega)))
    | (go_at_call 21; refine K11.out.mono ?_; clear K11; intro e w11 hd; obtain ⟨x11, c11, rfl, hO11, hb11, hT11⟩ := T9.out.due hd; have T11 := Lib.hid hT11.swap; have O11 := Lib.hid hO11.toldNow; have K12 := Lib.hid (Rest_any _ _ _ _ w11 T11.out.a (by have := HE.out; have := yet_len (max t u) L; omega)); clear hd hO11 hb11 hT11)
    | (go_at_call 21; refine K12.out.mono ?_; clear K12; intro e w12 hd; obtain ⟨x12, c12, rfl, hO12, hb12, hT12⟩ := T11.out.due hd; have T12 := Lib.hid hT12; have S12 := Lib.hid (same_told x11 x12 _ _ c11 c12 _ _ w12 _ _ (O11.out.but hb12 (fun i c => .inl (T9.out.b.lt i c)) (Nat.le_refl _)).1 hO12 (by have := HE.out; have := yet_len (max t u) L; omega) (by have := HE.out; have := yet_len (max t u) L; omega)); rw [decide_eq_true rfl] at S12; clear hd hO12 hb12 hT12)
    | (go_at_call 16; refine S12.out.mono ?_; clear S12; rintro e w13 ⟨rfl, q13, rfl⟩; have B13 := Lib.hid (T12.out.quiet (draws_below _ _ q13)).below))
  go_ret
  exact ⟨rfl, B13.out⟩

set_option maxHeartbeats 16000000 in
set_option maxRecDepth 100000 in
theorem parts_none (es : List Ev) (at' t u : Int) (w : World) (hI : EventIn w none 0 0 es) (ha : 0 ≤ at' ∧ at' < 256) :
    Calls Try.prog 6 #[.slice none 0 0, .int .u8 at', .int .i64 t, .int .i64 u] w fun e w' => e = .returned (.bool true) ∧ Below w.heap.size w w' := by
  obtain ⟨hn, -, -, hR, hO⟩ := hI
  have HV := Lib.hid (live11_any w)
  have HE : Hid ((putAll [] es).length = 0) := Lib.hid (by rw [putAll_len]; simp [hn])
  have HN := Lib.hid (fun W (hb : Below w.heap.size w W) => New_ok none 0 0 es W (hR.since hb) hn hO (by omega))
  have HN2 := Lib.hid (fun W c (hb : Below w.heap.size w W) => New_ok none 0 c (es.take 0) W (fun h0 => by simp at h0) (by simp) (fun s hs => hO s (List.mem_of_mem_take hs)) (by omega))

  have HP := Lib.hid (fun B F W c (hG : AG W F B (putAll [] (es.take 0)) 0) (hF : ∀ i, F i → w.heap.size ≤ i) (hb : Below w.heap.size w W) => Put_ok B F (putAll [] (es.take 0)) 0 none (0 - 0) c (es.drop 0) W hG ((show ReadsE W w.heap.size none (es.drop 0) from fun h0 => by simp [hn] at h0).rdF hF) (by simp [hn]) (fun s hs => hO s (List.mem_of_mem_drop hs)) (by rw [putAll_len]; simp) (by omega))
  rw [putAll_app, List.take_append_drop] at HP
  generalize putAll [] es = L at HE HN HP
  have hmm : Hid (min t u ≤ max t u) := Lib.hid (by omega)
  clear hR hO hn
  go_enter Try.func6, Try.ntmps6
  go_wp2_with (first
    | (go_at_call 9; refine HV.out.mono ?_; rintro e w1 ⟨rfl, hb1⟩; have B1 := Lib.hid hb1; clear hb1 HV)
    | (go_at_call 10; refine (HN.out w1 B1.out).mono ?_; clear HN; rintro e w2 ⟨A, rfl, hA2, hG2, hb2⟩; have G2 := Lib.hid (And.intro hG2 hb2); have B2 := Lib.hid (below_on B1.out hb2); clear hA2 hG2 hb2)
    | (go_at_call 10; refine (HN2.out w2 _ B2.out).mono ?_; clear HN2; rintro e w3 ⟨B, rfl, hA3, hG3, hb3⟩; have T3 : Hid (Two w w3 (Nw w2 w3) (Nw w1 w2) B A (putAll [] (es.take 0)) L 0 0) := Lib.hid ⟨below_on B2.out hb3, hG3, G2.out.1.below hb3, (fun i c d => by have := c.1; have := d.2; omega), (fun i c => by have := c.1; have := B2.out.size; omega), (fun i c => by have := c.1; have := B1.out.size; omega)⟩; have K4 := Lib.hid (fun c => HP.out _ _ w3 c T3.out.a T3.out.na T3.out.below); clear hA3 hG3 hb3 HP)
    | (go_at_call 19; refine (K4.out _).mono ?_; clear K4; rintro e w4 ⟨rfl, hG4, hB4⟩; have T4 := Lib.hid (T3.out.put hG4 hB4).swap; have K5 := Lib.hid (Due_any _ _ _ _ (max t u) w4 T4.out.a (by have := HE.out; omega)); clear hG4 hB4)
    | (go_at_call 12; refine K5.out.mono ?_; clear K5; intro e w5 hd; obtain ⟨x5, c5, rfl, hO5, hb5, hT5⟩ := T4.out.due hd; have T5 := Lib.hid hT5.swap; have O5 := Lib.hid (And.intro hO5.toldNow hb5.size); have K6 := Lib.hid (Due_any _ _ _ _ (min t u) w5 T5.out.a (by have := HE.out; omega)); clear hd hO5 hb5 hT5)
    | (go_at_call 12; refine K6.out.mono ?_; clear K6; intro e w6 hd; obtain ⟨x6, c6, rfl, hO6, hb6, hT6⟩ := T5.out.due hd; have T6 := Lib.hid hT6; have P6 := Lib.hid (O5.out.1.but hb6 (fun i c => .inl (T4.out.b.lt i c)) (Nat.le_refl _)); have O6 := Lib.hid (And.intro hO6.toldNow hb6.size); have K7 := Lib.hid (Due_any _ _ _ _ (max t u) w6 T6.out.a (by have := HE.out; have := yet_len (min t u) L; omega)); rw [yet_two hmm.out] at K7; clear hd hO6 hb6 hT6)
    | (go_at_call 12; refine K7.out.mono ?_; clear K7; intro e w7 hd; obtain ⟨x7, c7, rfl, hO7, hb7, hT7⟩ := T6.out.due hd; have T7 := Lib.hid hT7; have P7 := Lib.hid (P6.out.but hb7 (fun i c => .inl (T4.out.b.lt i c)) O6.out.2); have Q7 := Lib.hid (O6.out.1.but hb7 (fun i c => .inl (T5.out.a.lt i c)) (Nat.le_refl _)); have S7 := Lib.hid hO7.src; have Z7 := Lib.hid hb7.size; clear hd hO7 hb7 hT7)
    | (at_builtin; refine wpList_append_ev rfl _ _ rfl w5.heap.size _ (due (min t u) L) rfl Q7.out.1 x7 _ c7 (due (max t u) (yet (min t u) L)) rfl S7.out (by have := HE.out; have := due_len (min t u) L; have := due_len (max t u) (yet (min t u) L); have := yet_len (min t u) L; omega) (by have := O6.out.2; have := Z7.out; omega) ?_; intro v8 w8 hO8 hg8; rw [due_two hmm.out T4.out.a.srd] at hO8; have T8 := Lib.hid (T7.out.but (But.of_grown hg8) (fun i c d => by have := T5.out.a.lt i c; have := Q7.out.1.ownBlock i d; omega) (fun i c d => by have := T5.out.b.lt i c; have := Q7.out.1.ownBlock i d; omega) (fun i d => by have := Q7.out.1.ownBlock i d; have := T5.out.below.size; omega)); have P8 := Lib.hid (P7.out.but (But.of_grown hg8) (fun i d => .inr (Q7.out.1.ownBlock i d)) (by have := O6.out.2; have := Z7.out; omega)); obtain ⟨x8, c8, rfl, -⟩ := hO8.form; have S8 := Lib.hid (same_told x5 x8 _ _ c5 c8 _ _ w8 _ _ P8.out.1 hO8 (by have := HE.out; have := due_len (max t u) L; omega) (by have := HE.out; have := due_len (max t u) L; omega)); rw [decide_eq_true rfl] at S8; clear hO8 hg8)
    | (go_at_call 16; refine S8.out.mono ?_; clear S8; rintro e w9 ⟨rfl, q9, rfl⟩; have T9 := Lib.hid (T8.out.quiet (draws_below _ _ q9)).swap; have K9 := Lib.hid (Left_any _ _ _ _ _ T9.out.a); have K10 := Lib.hid (Left_any _ _ _ _ _ T9.out.b))
    | (go_at_call 17; refine K9.out.mono ?_; clear K9; rintro e w9' ⟨rfl, rfl⟩)
    | (go_at_call 17; refine K10.out.mono ?_; clear K10; rintro e w9' ⟨rfl, rfl⟩; have K11 := Lib.hid (Rest_any _ _ _ _ _ T9.out.a (by have := HE.out; have := yet_len (max t u) L; omega)))
    | (go_at_call 21; refine K11.out.mono ?_; clear K11; intro e w11 hd; obtain ⟨x11, c11, rfl, hO11, hb11, hT11⟩ := T9.out.due hd; have T11 := Lib.hid hT11.swap; have O11 := Lib.hid hO11.toldNow; have K12 := Lib.hid (Rest_any _ _ _ _ w11 T11.out.a (by have := HE.out; have := yet_len (max t u) L; omega)); clear hd hO11 hb11 hT11)
    | (go_at_call 21; refine K12.out.mono ?_; clear K12; intro e w12 hd; obtain ⟨x12, c12, rfl, hO12, hb12, hT12⟩ := T11.out.due hd; have T12 := Lib.hid hT12; have S12 := Lib.hid (same_told x11 x12 _ _ c11 c12 _ _ w12 _ _ (O11.out.but hb12 (fun i c => .inl (T9.out.b.lt i c)) (Nat.le_refl _)).1 hO12 (by have := HE.out; have := yet_len (max t u) L; omega) (by have := HE.out; have := yet_len (max t u) L; omega)); rw [decide_eq_true rfl] at S12; clear hd hO12 hb12 hT12)
    | (go_at_call 16; refine S12.out.mono ?_; clear S12; rintro e w13 ⟨rfl, q13, rfl⟩; have B13 := Lib.hid (T12.out.quiet (draws_below _ _ q13)).below))
  go_ret
  exact ⟨rfl, B13.out⟩

theorem walk_AgendaParts (a : Option Addr) (len cap : Nat) (es : List Ev) (at' t u : Int) (w : World) (hI : EventIn w a len cap es) (_hlb : len ≤ 2932031007403) (ha : (Lit.int .u8 at').wf = true) (_ht : (Lit.int .i64 t).wf = true) (_hu : (Lit.int .i64 u).wf = true) :
    Calls Try.prog 6 #[.slice a len cap, .int .u8 at', .int .i64 t, .int .i64 u] w fun e w' => e = .returned (.bool true) ∧ Below w.heap.size w w' := by
  have hb := u8_of ha
  by_cases hl : len ≤ 40
  · cases a with
    | none =>
      obtain ⟨rfl, rfl⟩ := hI.2.1.2 rfl
      exact parts_none es at' t u w hI hb
    | some ad => exact parts_in ad len cap es at' t u (at' % ((len : Int) + 1)).toNat w hI hl hb (by have := Int.emod_nonneg at' (show (len : Int) + 1 ≠ 0 by omega); omega) (by have := Int.emod_lt_of_pos at' (show (0 : Int) < (len : Int) + 1 by omega); omega)
  · have HV := Lib.hid (live11_any w)
    have d1 : decide ((40 : Int) < (len : Int)) = true := by simp; omega
    clear hI
    go_enter Try.func6, Try.ntmps6
    go_wp2_with (go_at_call 9; refine HV.out.mono ?_; rintro e w1 ⟨rfl, hb1⟩)
    go_ret
    exact ⟨rfl, hb1⟩

end Go.Proofs.Ytfkidghillnknaa
