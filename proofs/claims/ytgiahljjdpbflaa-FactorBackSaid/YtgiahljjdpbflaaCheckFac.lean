/-
  What factor.Check and the document's Check come to, and the example that each law of layer 4 begins with.
-/
import Derived.Test.YtgiahljjdpbflaaRefSta
namespace Go.Proofs.Ytgiahljjdpbflaa
open Go.RowKit

/-- Are these the stages of the size, or why not? -/
def chk (n : Int) (ss : List Fac.Stg) : Int := if Fac.sm n = true then (if ss = stg n.toNat then 0 else 1) else 4
theorem chk_no {n : Int} (h : Fac.sm n = false) (ss : List Fac.Stg) : chk n ss = 4 := by unfold chk; rw [h]; rfl
theorem chk_same {n : Nat} (h : Fac.sm (n : Int) = true) : chk (n : Int) (stg n) = 0 := by unfold chk; rw [if_pos h, if_pos (by simp)]
theorem chk_eq {n : Nat} (h : Fac.sm (n : Int) = true) (ss : List Fac.Stg) (he : ss = stg n) : chk (n : Int) ss = 0 := by rw [he]; exact chk_same h
theorem chk_ne {n : Nat} (h : Fac.sm (n : Int) = true) (ss : List Fac.Stg) (he : ¬ ss = stg n) : chk (n : Int) ss = 1 := by unfold chk; rw [if_pos h, if_neg (by simpa using he)]

set_option maxHeartbeats 1000000 in
theorem check_any (n : Int) (x : Option Addr) (len cap : Nat) (ss : List Fac.Stg) (w : World) (hx : ReadsS w w.heap.size x ss) (hl : ss.length = len) (hm : len ≤ 9223372036854775807) :
    Calls Try.prog 16 #[.int .i64 n, .slice x len cap] w (RetB (.int .i64 (chk n ss)) w) := by
  cases h : Fac.sm n with
  | false =>
    have HR := Lib.hid (stages_no n w h)
    rw [chk_no h ss]
    clear h
    go_enter Try.func16, Try.ntmps16
    go_wp2_with (go_at_call 10; refine HR.out.mono ?_; rintro e w' ⟨rfl, hb⟩)
    go_ret
    exact ⟨rfl, hb⟩
  | true =>
    obtain ⟨h1, h2, _⟩ := Fac.sm_of h
    obtain ⟨m, rfl⟩ : ∃ m : Nat, n = (m : Int) := ⟨n.toNat, by omega⟩
    have HR := Lib.hid (stages_yes m w h)
    have HL := Lib.hid (Fac.rads_len m (by omega) (by omega))
    have HX := Lib.hid hx
    have HF := Lib.hid (stg_len m)
    obtain ⟨S, hS⟩ : ∃ S, S = stg m := ⟨_, rfl⟩
    rw [show Fac.stages m (Fac.rads m) 1 = S from hS.symm] at HR
    rw [← hS] at HF
    by_cases he : ss = S
    · rw [chk_eq h ss (he.trans hS)]
      have de := decide_eq_true he
      clear h hx hS he
      go_enter Try.func16, Try.ntmps16
      go_wp2_with (first
        | (go_at_call 10; refine HR.out.mono ?_; rintro e w' ⟨v, rfl, hO, hb⟩; obtain ⟨y, c, rfl, hc1, hc2, hrd⟩ := hO.form)
        | (go_at_call 22; refine (equalStages_any x y _ _ cap c ss S w' w'.heap.size ((HX.out.below hb).more hb.size) hrd hl rfl hm (by have := HL.out; have := HF.out; omega)).mono ?_; rw [de]; rintro e w'' ⟨rfl, nd, rfl⟩))
      go_ret
      exact ⟨rfl, below_draws hb nd⟩
    · rw [chk_ne h ss (fun e => he (e.trans hS.symm))]
      have de := decide_eq_false he
      clear h hx hS he
      go_enter Try.func16, Try.ntmps16
      go_wp2_with (first
        | (go_at_call 10; refine HR.out.mono ?_; rintro e w' ⟨v, rfl, hO, hb⟩; obtain ⟨y, c, rfl, hc1, hc2, hrd⟩ := hO.form)
        | (go_at_call 22; refine (equalStages_any x y _ _ cap c ss S w' w'.heap.size ((HX.out.below hb).more hb.size) hrd hl rfl hm (by have := HL.out; have := HF.out; omega)).mono ?_; rw [de]; rintro e w'' ⟨rfl, nd, rfl⟩))
      go_ret
      exact ⟨rfl, below_draws hb nd⟩

set_option maxHeartbeats 1000000 in
theorem rcheck_any (n : Int) (x : Option Addr) (len cap : Nat) (ss : List Fac.Stg) (w : World) (hx : ReadsS w w.heap.size x ss) (hl : ss.length = len) (hm : len ≤ 9223372036854775807) :
    Calls Try.prog 17 #[.int .i64 n, .slice x len cap] w (RetB (.int .i64 (chk n ss)) w) := by
  cases h : Fac.sm n with
  | false =>
    have HR := Lib.hid (rstages_no n w h)
    rw [chk_no h ss]
    clear h
    go_enter Try.func17, Try.ntmps17
    go_wp2_with (go_at_call 11; refine HR.out.mono ?_; rintro e w' ⟨rfl, hb⟩)
    go_ret
    exact ⟨rfl, hb⟩
  | true =>
    obtain ⟨h1, h2, _⟩ := Fac.sm_of h
    obtain ⟨m, rfl⟩ : ∃ m : Nat, n = (m : Int) := ⟨n.toNat, by omega⟩
    have HR := Lib.hid (rstages_yes m w h)
    have HL := Lib.hid (Fac.rads_len m (by omega) (by omega))
    have HX := Lib.hid hx
    have HF := Lib.hid (stg_len m)
    obtain ⟨S, hS⟩ : ∃ S, S = stg m := ⟨_, rfl⟩
    rw [← hS] at HF HR
    by_cases he : ss = S
    · rw [chk_eq h ss (he.trans hS)]
      have de := decide_eq_true he.symm
      clear h hx hS he
      go_enter Try.func17, Try.ntmps17
      go_wp2_with (first
        | (go_at_call 11; refine HR.out.mono ?_; rintro e w' ⟨v, rfl, hO, hb⟩; obtain ⟨y, c, rfl, hc1, hc2, hrd⟩ := hO.form)
        | (go_at_call 15; refine (sameStages_any y x _ _ c cap S ss w' w'.heap.size hrd ((HX.out.below hb).more hb.size) rfl hl (by have := HL.out; have := HF.out; omega) hm).mono ?_; rw [de]; rintro e w'' ⟨rfl, nd, rfl⟩))
      go_ret
      exact ⟨rfl, below_draws hb nd⟩
    · rw [chk_ne h ss (fun e => he (e.trans hS.symm))]
      have de := decide_eq_false (fun e => he (Eq.symm e))
      clear h hx hS he
      go_enter Try.func17, Try.ntmps17
      go_wp2_with (first
        | (go_at_call 11; refine HR.out.mono ?_; rintro e w' ⟨v, rfl, hO, hb⟩; obtain ⟨y, c, rfl, hc1, hc2, hrd⟩ := hO.form)
        | (go_at_call 15; refine (sameStages_any y x _ _ c cap S ss w' w'.heap.size hrd ((HX.out.below hb).more hb.size) rfl hl (by have := HL.out; have := HF.out; omega) hm).mono ?_; rw [de]; rintro e w'' ⟨rfl, nd, rfl⟩))
      go_ret
      exact ⟨rfl, below_draws hb nd⟩

theorem sm_120 : Fac.sm 120 = true := by decide
theorem rads_120 : Fac.ints (Fac.rads 120) = [4, 2, 3, 5] := by decide

theorem four_reads (w : World) (t : TypeId) : Reads .i64 (w.alloc (.cells #[.int .i64 4, .int .i64 2, .int .i64 3, .int .i64 5] t)) (w.heap.size + 1) (some ⟨w.heap.size, 0, none⟩) [4, 2, 3, 5] := fun _ =>
  ⟨w.heap.size, 0, rfl, Nat.lt_succ_self _, fun j hj => by
    have : j = 0 ∨ j = 1 ∨ j = 2 ∨ j = 3 := by simp at hj; omega
    rcases this with rfl | rfl | rfl | rfl <;> simp⟩

set_option maxHeartbeats 1000000 in
theorem live4_any (w : World) : Calls Try.prog 7 #[] w (RetB (.bool true) w) := by
  have HR := Lib.hid (radices_yes 120 w sm_120)
  rw [rads_120] at HR
  go_enter Try.func7, Try.ntmps7
  go_wp2_with (first
    | (go_at_call 8; refine HR.out.mono ?_; rintro e w' ⟨v, rfl, hO, hb⟩; obtain ⟨y, c, rfl, hc1, hc2, hrd, _⟩ := hO.form)
    | (go_at_call 14; refine (sameInts_any y _ 4 4 c 4 [4, 2, 3, 5] [4, 2, 3, 5] _ (w'.heap.size + 1) ((hrd.below ((Below.refl _ w').alloc (Nat.le_refl _) _)).more (Nat.le_succ _)) (four_reads w' _) rfl rfl (by omega) (by omega)).mono ?_; rw [decide_eq_true rfl]; rintro e w'' ⟨rfl, nd, rfl⟩))
  go_ret
  exact ⟨rfl, below_draws (below_al hb _) nd⟩

end Go.Proofs.Ytgiahljjdpbflaa
