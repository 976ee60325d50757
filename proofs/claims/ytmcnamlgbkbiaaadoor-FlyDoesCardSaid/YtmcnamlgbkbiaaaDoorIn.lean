/-
  What field.In comes to: true just if p is a known prime and all numbers of the slice are below it; nothing is written.
-/
import Derived.Test.YtmcnamlgbkbiaaaDoorField
namespace Go.Proofs.YtmcnamlgbkbiaaaDoor
open Go.RowKit

namespace Fp
/-- Are the first n numbers of f below p, and p known? -/
def isIn (p : Int) (f : Nat → Int) : Nat → Bool
  | 0 => kn p
  | n + 1 => isIn p f n && decide (f n < p)
theorem isIn_no {p : Int} {f : Nat → Int} (h : kn p = false) : ∀ n, isIn p f n = false
  | 0 => h
  | n + 1 => by rw [isIn, isIn_no h n]; rfl
theorem isIn_yes {p : Int} {f : Nat → Int} (h : kn p = true) : ∀ n, (∀ j, j < n → f j < p) → isIn p f n = true
  | 0, _ => h
  | n + 1, hf => by rw [isIn, isIn_yes h n (fun j hj => hf j (by omega)), decide_eq_true (hf n (by omega))]; rfl
theorem isIn_at {p : Int} {f : Nat → Int} {k : Nat} (hk : ¬ f k < p) : ∀ n, k < n → isIn p f n = false
  | n + 1, hn => by
    rw [isIn]
    by_cases e : k = n
    · subst e; rw [decide_eq_false hk]; simp
    · rw [isIn_at hk n (by omega)]; rfl
end Fp

theorem ret_bool {a b : Bool} (h : a = b) : Ending.returned (.bool a) = .returned (.bool b) := by rw [h]

theorem in_nil (p : Int) (x : Option Addr) (cap : Nat) (w : World) :
    Calls Tryd.prog 18 #[.int .u64 p, .slice x 0 cap] w fun e w' => e = .returned (.bool (Fp.kn p)) ∧ w = w' := by
  cases h : Fp.kn p
  · have H := Lib.hid h; clear h
    go_enter Tryd.func18, Tryd.ntmps18
    go_wp2_with (go_at_call 24; refine (known_no _ _ H.out).mono ?_; rintro e w' ⟨rfl, rfl⟩)
    go_ret
    exact ⟨rfl, rfl⟩
  · have H := Lib.hid h; clear h
    go_enter Tryd.func18, Tryd.ntmps18
    go_wp2_with (go_at_call 24; refine (known_yes _ _ H.out).mono ?_; rintro e w' ⟨rfl, rfl⟩)
    refine wp_loop_rounds 1 ?_
    rw [rounds_succ]
    go_wp2
    go_ret
    exact ⟨rfl, rfl⟩

theorem in_row (p : Int) (b off len cap : Nat) (f : Nat → Int) (w : World) (hl : (len : Int) ≤ 9223372036854775807)
    (hcell : ∀ j, j < len → w.cell? ⟨b, off + j, none⟩ = some (.int .u64 (f j))) :
    Calls Tryd.prog 18 #[.int .u64 p, .slice (some ⟨b, off, none⟩) len cap] w fun e w' => e = .returned (.bool (Fp.isIn p f len)) ∧ w = w' := by
  have HC := Lib.hid hcell; clear hcell
  cases h : Fp.kn p
  · have he := Lib.hid (Fp.isIn_no (f := f) h len)
    have H := Lib.hid h; clear h
    go_enter Tryd.func18, Tryd.ntmps18
    go_wp2_with (go_at_call 24; refine (known_no _ _ H.out).mono ?_; rintro e w' ⟨rfl, rfl⟩)
    go_ret
    exact ⟨ret_bool he.out.symm, rfl⟩
  · have H := Lib.hid h; clear h
    go_enter Tryd.func18, Tryd.ntmps18
    go_wp2_with (go_at_call 24; refine (known_yes _ _ H.out).mono ?_; rintro e w' ⟨rfl, rfl⟩)
    go_loop [12] (fun i => ∃ k : Nat, k ≤ len ∧ i = .int .i64 k ∧ Hid (∀ j, j < k → f j < p)) (fun i => len - (intOf i).toNat)
    case atStart => exact ⟨0, Nat.zero_le _, rfl, Lib.hid (fun j hj => by omega)⟩
    case round =>
      obtain ⟨k, hk, rfl, HA⟩ := hrel
      by_cases hlt : k < len
      · have hc := HC.out k hlt
        by_cases hv : f k < p
        · go_wp2
          go_round
          case rel => exact ⟨k + 1, by omega, by go_num, Lib.hid (fun j hj => by by_cases e : j = k; exact e ▸ hv; exact HA.out j (by omega))⟩
          case measure => simp [intOf]; omega
        · have he := Lib.hid (Fp.isIn_at hv len hlt)
          go_wp2
          go_ret
          exact ⟨ret_bool he.out.symm, rfl⟩
      · have he := Lib.hid (Fp.isIn_yes (f := f) H.out len (fun j hj => HA.out j (by omega)))
        go_wp2
        go_ret
        exact ⟨ret_bool he.out.symm, rfl⟩

end Go.Proofs.YtmcnamlgbkbiaaaDoor
