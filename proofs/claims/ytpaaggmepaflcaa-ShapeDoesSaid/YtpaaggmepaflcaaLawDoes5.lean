/-
  The laws of layer 5, walked: ShapeDoes.
-/
import Derived.Test.YtpaaggmepaflcaaLawSha
namespace Go.Proofs.Ytpaaggmepaflcaa
open Go.RowKit

/-- It returns a list, wherever it lies, and an error's number. -/
def RetS (xs : List Int) (er : Int) (w : World) (e : Ending) (w' : World) : Prop := ∃ x cap, e = .returned (.tuple #[.slice x xs.length cap, .int .i64 er]) ∧ Reads .i64 w' w'.heap.size x xs ∧ Below w.heap.size w w'

theorem RetL.lies {xs : List Int} {er : Int} {w w' : World} {e : Ending} (h : RetL xs er w e w') : RetS xs er w e w' := by
  obtain ⟨v, rfl, hO, hB⟩ := h
  obtain ⟨x, cap, rfl, _, _, h3, _⟩ := hO.form
  exact ⟨x, cap, rfl, h3, hB⟩

section
variable {ds : List Int} {x : Option Addr} {len cap : Nat} {w : World}

theorem all_both (hx : Reads .i64 w w.heap.size x ds) (hl : ds.length = len) : ∃ v e : Int, ∀ W, Below w.heap.size w W →
    Calls Try.prog 8 #[.slice x len cap] W (RetN v e W) ∧ Calls Try.prog 9 #[.slice x len cap] W (RetN v e W) := by
  rcases Sh.ok_or ds with ⟨ns, ok, rfl⟩ | no
  · rw [Sh.ints_len] at hl
    exact ⟨_, _, fun W hW => ⟨all_ok ns ok x len cap W w.heap.size (hx.below hW) hl, rall_ok ns ok x len cap W w.heap.size (hx.below hW) hl⟩⟩
  · exact ⟨_, _, fun W hW => ⟨all_no ds no x len cap W w.heap.size (hx.below hW) hl, rall_no ds no x len cap W w.heap.size (hx.below hW) hl⟩⟩

theorem coord_both (hx : Reads .i64 w w.heap.size x ds) (hl : ds.length = len) (hc : len ≤ cap) (i : Int) : ∃ (xs : List Int) (e : Int), xs.length ≤ 4096 ∧ ∀ W, Below w.heap.size w W →
    Calls Try.prog 10 #[.slice x len cap, .int .i64 i] W (RetS xs e W) ∧ Calls Try.prog 11 #[.slice x len cap, .int .i64 i] W (RetS xs e W) := by
  rcases Sh.ok_or ds with ⟨ns, ok, rfl⟩ | no
  · rw [Sh.ints_len] at hl
    by_cases hi : 0 ≤ i ∧ i < (Sh.prod ns : Nat)
    · obtain ⟨k, rfl⟩ : ∃ k : Nat, i = (k : Int) := ⟨i.toNat, by omega⟩
      exact ⟨_, _, by rw [Sh.ints_len, Sh.crd_len]; have := ok.four; omega, fun W hW => ⟨(coord_ok ns ok k (by omega) x len cap W ((hx.below hW).more hW.size) hl).mono fun _ _ h => h.lies, (rcoord_ok ns ok k (by omega) x len cap W ((hx.below hW).more hW.size) hl hc).mono fun _ _ h => h.lies⟩⟩
    · exact ⟨[], 1, by simp, fun W hW => ⟨(coord_arg ns ok i hi x len cap W ((hx.below hW).more hW.size) hl).mono fun _ _ h => h.lies, (rcoord_arg ns ok i hi x len cap W w.heap.size (hx.below hW) hl).mono fun _ _ h => h.lies⟩⟩
  · exact ⟨[], 3, by simp, fun W hW => ⟨(coord_no ds no i x len cap W ((hx.below hW).more hW.size) hl).mono fun _ _ h => h.lies, (rcoord_no ds no i x len cap W w.heap.size (hx.below hW) hl).mono fun _ _ h => h.lies⟩⟩

theorem flat_both {cs : List Int} {y : Option Addr} {m cap' : Nat} (hx : Reads .i64 w w.heap.size x ds) (hl : ds.length = len) (hc : len ≤ cap) (hy : Reads .i64 w w.heap.size y cs) (hm : cs.length = m) : ∃ v e : Int, ∀ W, Below w.heap.size w W →
    Calls Try.prog 12 #[.slice x len cap, .slice y m cap'] W (RetN v e W) ∧ Calls Try.prog 13 #[.slice x len cap, .slice y m cap'] W (RetN v e W) := by
  rcases Sh.ok_or ds with ⟨ns, ok, rfl⟩ | no
  · rw [Sh.ints_len] at hl
    rcases Sh.in_or ns cs with ⟨us, hi, rfl⟩ | ho
    · rw [Sh.ints_len] at hm
      exact ⟨_, _, fun W hW => ⟨flat_ok ns ok us hi y m cap' x len cap W w.heap.size (hx.below hW) hl hc (hy.below hW) hm, rflat_ok ns ok us hi y m cap' x len cap W w.heap.size (hx.below hW) hl hc (hy.below hW) hm⟩⟩
    · by_cases hml : cs.length = ns.length
      · exact ⟨_, _, fun W hW => ⟨flat_arg ns ok cs hml ho y m cap' x len cap W w.heap.size (hx.below hW) hl hc (hy.below hW) hm, rflat_arg ns ok cs hml ho y m cap' x len cap W w.heap.size (hx.below hW) hl hc (hy.below hW) hm⟩⟩
      · exact ⟨_, _, fun W hW => ⟨flat_len ns ok y m cap' (by omega) x len cap W w.heap.size (hx.below hW) hl, rflat_len ns ok y m cap' (by omega) x len cap W w.heap.size (hx.below hW) hl⟩⟩
  · exact ⟨_, _, fun W hW => ⟨flat_no ds no _ x len cap W w.heap.size (hx.below hW) hl, rflat_no ds no _ x len cap W w.heap.size (hx.below hW) hl⟩⟩

theorem inner_both (hx : Reads .i64 w w.heap.size x ds) (hl : ds.length = len) (hc : len ≤ cap) (a : Int) : ∃ v e : Int, ∀ W, Below w.heap.size w W →
    Calls Try.prog 14 #[.slice x len cap, .int .i64 a] W (RetN v e W) ∧ Calls Try.prog 15 #[.slice x len cap, .int .i64 a] W (RetN v e W) := by
  rcases Sh.ok_or ds with ⟨ns, ok, rfl⟩ | no
  · rw [Sh.ints_len] at hl
    by_cases ha : 0 ≤ a ∧ a < (ns.length : Int)
    · obtain ⟨k, rfl⟩ : ∃ k : Nat, a = (k : Int) := ⟨a.toNat, by omega⟩
      exact ⟨_, _, fun W hW => ⟨inner_ok ns ok k (by omega) x len cap W w.heap.size (hx.below hW) hl hc, rinner_ok ns ok k (by omega) x len cap W w.heap.size (hx.below hW) hl hc⟩⟩
    · exact ⟨_, _, fun W hW => ⟨inner_arg ns ok a ha x len cap W w.heap.size (hx.below hW) hl, rinner_arg ns ok a ha x len cap W w.heap.size (hx.below hW) hl⟩⟩
  · exact ⟨_, _, fun W hW => ⟨inner_no ds no a x len cap W w.heap.size (hx.below hW) hl, rinner_no ds no a x len cap W w.heap.size (hx.below hW) hl⟩⟩

theorem line_both (hx : Reads .i64 w w.heap.size x ds) (hl : ds.length = len) (hc : len ≤ cap) (a k : Int) : ∃ (xs : List Int) (e : Int), xs.length ≤ 4096 ∧ ∀ W, Below w.heap.size w W →
    Calls Try.prog 16 #[.slice x len cap, .int .i64 a, .int .i64 k] W (RetS xs e W) ∧ Calls Try.prog 17 #[.slice x len cap, .int .i64 a, .int .i64 k] W (RetS xs e W) := by
  rcases Sh.ok_or ds with ⟨ns, ok, rfl⟩ | no
  · rw [Sh.ints_len] at hl
    by_cases ha : 0 ≤ a ∧ a < (ns.length : Int)
    · obtain ⟨b, rfl⟩ : ∃ b : Nat, a = (b : Int) := ⟨a.toNat, by omega⟩
      by_cases hk : 0 ≤ k ∧ k < ((Sh.prod ns / ns.getD b 0 : Nat) : Int)
      · obtain ⟨j, rfl⟩ : ∃ j : Nat, k = (j : Int) := ⟨k.toNat, by omega⟩
        exact ⟨_, _, by rw [lineOf_len]; exact ok.le_at (by omega), fun W hW => ⟨(line_ok ns ok b j (by omega) (by omega) x len cap W w.heap.size (hx.below hW) hl hc).mono fun _ _ h => h.lies, (rline_ok ns ok b j (by omega) (by omega) x len cap W ((hx.below hW).more hW.size) hl hc).mono fun _ _ h => h.lies⟩⟩
      · exact ⟨[], 1, by simp, fun W hW => ⟨(line_arg ns ok b k (by omega) hk x len cap W w.heap.size (hx.below hW) hl hc).mono fun _ _ h => h.lies, (rline_arg ns ok b k (by omega) hk x len cap W w.heap.size (hx.below hW) hl).mono fun _ _ h => h.lies⟩⟩
    · exact ⟨[], 1, by simp, fun W hW => ⟨(line_axis ns ok a k ha x len cap W w.heap.size (hx.below hW) hl).mono fun _ _ h => h.lies, (rline_axis ns ok a k ha x len cap W w.heap.size (hx.below hW) hl).mono fun _ _ h => h.lies⟩⟩
  · exact ⟨[], 3, by simp, fun W hW => ⟨(line_no ds no a k x len cap W w.heap.size (hx.below hW) hl).mono fun _ _ h => h.lies, (rline_no ds no a k x len cap W w.heap.size (hx.below hW) hl).mono fun _ _ h => h.lies⟩⟩
end

set_option maxRecDepth 100000 in
set_option maxHeartbeats 4000000 in
theorem walk_ShapeDoes (x : Option Addr) (len cap : Nat) (zs : List Int) (y : Option Addr) (m cap' : Nat) (us : List Int) (i a k : Int) (w : World) (hr : RowIn .i64 w x len cap zs) (hq : RowIn .i64 w y m cap' us) (_hi : (Lit.int .i64 i).wf = true) (_ha : (Lit.int .i64 a).wf = true) (_hk : (Lit.int .i64 k).wf = true) :
    Calls Try.prog 3 #[.slice x len cap, .slice y m cap', .int .i64 i, .int .i64 a, .int .i64 k] w fun e w' => e = .returned (.bool true) ∧ Below w.heap.size w w' := by
  obtain ⟨ds, -, hl, hc, hcm, hx, hsrc⟩ := hr.readsI
  obtain ⟨cs, -, hm, hc', hcm', hy, -⟩ := hq.readsI
  clear hr hq
  by_cases hlen : 10 < len
  · have d1 : decide ((10 : Int) < (len : Int)) = true := by simp; omega
    clear hx hy hl hm hsrc
    go_enter Try.func3, Try.ntmps3
    go_wp2_with (go_at_call 7; refine (live5_any _).mono ?_; rintro e w1 ⟨rfl, hb⟩)
    go_ret
    exact ⟨rfl, hb⟩
  by_cases hlen' : 10 < m
  · have d1 : decide ((10 : Int) < (len : Int)) = false := by simp; omega
    have d2 : decide ((10 : Int) < (m : Int)) = true := by simp; omega
    clear hx hy hl hm hsrc
    go_enter Try.func3, Try.ntmps3
    go_wp2_with (go_at_call 7; refine (live5_any _).mono ?_; rintro e w1 ⟨rfl, hb⟩)
    go_ret
    exact ⟨rfl, hb⟩
  have d1 : decide ((10 : Int) < (len : Int)) = false := by simp; omega
  have d2 : decide ((10 : Int) < (m : Int)) = false := by simp; omega
  obtain ⟨v1, e1, h1⟩ := all_both (cap := cap) hx hl
  obtain ⟨P2, e2, l2, h2⟩ := coord_both hx hl hc i
  obtain ⟨v3, e3, h3⟩ := flat_both (cap' := cap') hx hl hc hy hm
  obtain ⟨v4, e4, h4⟩ := inner_both hx hl hc a
  obtain ⟨P5, e5, l5, h5⟩ := line_both hx hl hc a k
  have H1 := Lib.hid h1
  have H2 := Lib.hid h2
  have H3 := Lib.hid h3
  have H4 := Lib.hid h4
  have H5 := Lib.hid h5
  have HX := Lib.hid hx
  have HS := Lib.hid hsrc
  have HL := Lib.hid hl
  have L2 := Lib.hid l2
  have L5 := Lib.hid l5
  obtain ⟨i0, hti, hy0, hy1, hy2⟩ := info_parts info_int
  clear h1 h2 h3 h4 h5 hx hy hsrc hl hm l2 l5
  go_enter Try.func3, Try.ntmps3
  go_wp2_with (first
    | (go_at_call 7; refine (live5_any _).mono ?_; rintro e w1 ⟨rfl, hb1⟩; have HB1 := Lib.hid hb1; clear hb1)
    | (at_builtin; refine wpList_copy_new rfl _ _ 22 rfl 3 i0 .i64 8 Try.underlying22 hti hy0 hy1 hy2 x len cap ds rfl rfl (HS.out.keep HB1.out) (by unfold maxLen; omega) (by omega) ?_; intro vw w2 hO2 hb2; obtain ⟨xw, capw, rfl, _, _, hrw, _⟩ := hO2.form; have HRW := Lib.hid hrw; have HB2 := Lib.hid (below_next HB1.out HB1.out.size hb2); clear hO2 hrw hb2)
    | (go_at_call 8; refine (H1.out w2 HB2.out).1.mono ?_; rintro e w' ⟨rfl, rfl⟩)
    | (go_at_call 9; refine (H1.out _ HB2.out).2.mono ?_; rintro e w' ⟨rfl, rfl⟩)
    | (go_at_call 10; refine (H2.out _ HB2.out).1.mono ?_; rintro e w3 ⟨xp, capp, rfl, hrp, hb3⟩; have HRP := Lib.hid hrp; have HT3 := Lib.hid hb3; have HB3 := Lib.hid (below_next HB2.out HB2.out.size hb3); clear hrp hb3)
    | (go_at_call 11; refine (H2.out _ HB3.out).2.mono ?_; rintro e w4 ⟨xq, capq, rfl, hrq, hb4⟩; have HRQ := Lib.hid hrq; have HT4 := Lib.hid hb4; have HB4 := Lib.hid (below_next HB3.out HB3.out.size hb4); clear hrq hb4)
    | (go_at_call 12; refine (H3.out _ HB4.out).1.mono ?_; rintro e w' ⟨rfl, rfl⟩)
    | (go_at_call 13; refine (H3.out _ HB4.out).2.mono ?_; rintro e w' ⟨rfl, rfl⟩)
    | (go_at_call 14; refine (H4.out _ HB4.out).1.mono ?_; rintro e w' ⟨rfl, rfl⟩)
    | (go_at_call 15; refine (H4.out _ HB4.out).2.mono ?_; rintro e w' ⟨rfl, rfl⟩)
    | (go_at_call 16; refine (H5.out _ HB4.out).1.mono ?_; rintro e w5 ⟨xu, capu, rfl, hru, hb5⟩; have HRU := Lib.hid hru; have HT5 := Lib.hid hb5; have HB5 := Lib.hid (below_next HB4.out HB4.out.size hb5); clear hru hb5)
    | (go_at_call 17; refine (H5.out _ HB5.out).2.mono ?_; rintro e w6 ⟨xv, capv, rfl, hrv, hb6⟩; have HRV := Lib.hid hrv; have HT6 := Lib.hid hb6; have HB6 := Lib.hid (below_next HB5.out HB5.out.size hb6); clear hrv hb6))
  have b56 := HT6.out
  have b46 := HT5.out.trans (b56.mono HT5.out.size)
  have b36 := HT4.out.trans (b46.mono HT4.out.size)
  have b26 := HT3.out.trans (b36.mono HT3.out.size)
  have SP := Lib.hid (sameInts_any xp xq _ _ capp capq P2 P2 w6 w6.heap.size ((HRP.out.below b36).more b36.size) ((HRQ.out.below b46).more b46.size) rfl rfl (by have := L2.out; omega) (by have := L2.out; omega))
  have SU := Lib.hid (fun nn => sameInts_any xu xv _ _ capu capv P5 P5 (w6.drewN nn) w6.heap.size ((HRU.out.below b56).more b56.size) HRV.out rfl rfl (by have := L5.out; omega) (by have := L5.out; omega))
  have SW := Lib.hid (fun nn => sameInts_any x xw _ _ cap capw ds ds (w6.drewN nn) w6.heap.size ((HX.out.below HB6.out).more HB6.out.size) ((HRW.out.below b26).more b26.size) HL.out rfl (by omega) (by have := HL.out; omega))
  clear b56 b46 b36 b26 HT3 HT4 HT5 HT6 HRP HRQ HRU HRV HRW HX HS H1 H2 H3 H4 H5
  rw [decide_eq_true (rfl : P2 = P2)] at SP
  rw [decide_eq_true (rfl : P5 = P5)] at SU
  rw [decide_eq_true (rfl : ds = ds)] at SW
  go_wp2_with (first
    | (go_at_call_of 18 (Value.slice xp P2.length capp); refine SP.out.mono ?_; rintro e w' ⟨rfl, n1, rfl⟩)
    | (go_at_call_of 18 (Value.slice xu P5.length capu); refine (SU.out _).mono ?_; rintro e w' ⟨rfl, n2, rfl⟩)
    | (go_at_call_of 18 (Value.slice x len cap); refine (SW.out _).mono ?_; rintro e w' ⟨rfl, n3, rfl⟩))
  go_ret
  exact ⟨rfl, below_draws HB6.out _⟩

end Go.Proofs.Ytpaaggmepaflcaa
