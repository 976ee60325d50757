/-
  What fly's three functions come to: Points, Do, Weigh. Each radix has a method of its own, told by an array of method expressions.
-/
import Derived.Test.YtmcnamlgbkbiaaaDoorCirFour
import Derived.Test.YtmcnamlgbkbiaaaDoorCirFive
import Derived.Test.YtmcnamlgbkbiaaaDoorFlyHas
import Derived.Shelf.Abstract
import Derived.Laws.EntriesVeiled
namespace Go.Proofs.YtmcnamlgbkbiaaaDoor
open Go.RowKit Go.Shelf Fly

set_option maxHeartbeats 1000000 in
theorem rootOf_any (p r : Int) (inv : Bool) (w : World) (hG : Gl w) (hr : -9223372036854775808 ≤ r ∧ r < 9223372036854775808) :
    Calls Tryd.prog 25 #[.int .u64 p, .int .i64 r, .bool inv] w (RetB (.tuple #[.int .u64 (if inv then backN p r else rootN p r), .int .i64 (rootE p r)]) w) := by
  have HR := Lib.hid (root_any p r w hG hr)
  have HK := Lib.hid (back_any p r w hG hr)
  clear hG
  cases inv
  · rw [if_neg (by simp)]
    go_enter Tryd.func25, Tryd.ntmps25
    go_wp2_with (go_at_call 38; refine HR.out.mono ?_; rintro e w1 ⟨rfl, hB⟩)
    go_ret2
    exact ⟨rfl, hB⟩
  · rw [if_pos rfl]
    go_enter Tryd.func25, Tryd.ntmps25
    go_wp2_with (go_at_call 42; refine HK.out.mono ?_; rintro e w1 ⟨rfl, hB⟩)
    go_ret2
    exact ⟨rfl, hB⟩

set_option maxHeartbeats 1000000 in
theorem points15_any (p r : Int) (inv : Bool) (w : World) (hG : Gl w) (hr : -9223372036854775808 ≤ r ∧ r < 9223372036854775808) :
    Calls Tryd.prog 11 #[.int .u64 p, .int .i64 r, .bool inv] w (RetY w (ptsL p r inv) (ptE p r)) := by
  unfold ptsL
  have HRo := Lib.hid (rootOf_any p r inv w hG hr)
  clear hG
  rcases ptE_cases p r with ⟨h, hE⟩ | ⟨h, h1, hE⟩ | ⟨h, h1, h2, h3, h4, hE⟩ | ⟨h, h1, h2, h3, h4, hE⟩
  · rw [hE, if_neg (by omega)]
    have H := Lib.hid h
    clear h hE HRo
    go_enter Tryd.func11, Tryd.ntmps11
    go_wp2_with (go_at_call 24; refine (known_no p _ H.out).mono ?_; rintro e w' ⟨rfl, rfl⟩)
    go_ret2
    exact RetY.none 2 (Below.refl _ _)
  · rw [hE, if_neg (by omega)]
    have H := Lib.hid h
    clear h hE HRo
    by_cases h2 : r < 2
    · go_enter Tryd.func11, Tryd.ntmps11
      go_wp2_with (go_at_call 24; refine (known_yes p _ H.out).mono ?_; rintro e w' ⟨rfl, rfl⟩)
      go_ret2
      exact RetY.none 4 (Below.refl _ _)
    · have h3 : 5 < r := by omega
      clear h1
      go_enter Tryd.func11, Tryd.ntmps11
      go_wp2_with (go_at_call 24; refine (known_yes p _ H.out).mono ?_; rintro e w' ⟨rfl, rfl⟩)
      go_ret2
      exact RetY.none 4 (Below.refl _ _)
  · rw [hE, if_neg (by omega)]
    have H := Lib.hid h
    rw [h3] at HRo
    generalize (if inv then backN p r else rootN p r) = z at HRo
    clear h h3 h4 hE
    go_enter Tryd.func11, Tryd.ntmps11
    go_wp2_with (first
      | (go_at_call 24; refine (known_yes p _ H.out).mono ?_; rintro e w' ⟨rfl, rfl⟩)
      | (go_at_call 25; refine HRo.out.mono ?_; rintro e w1 ⟨rfl, hB⟩))
    go_ret2
    exact RetY.none 5 hB
  · rw [hE, if_pos rfl]
    obtain ⟨n, rfl⟩ := Int.eq_ofNat_of_zero_le (show 0 ≤ r by omega)
    rw [Int.toNat_natCast] at h h4 ⊢
    have H := Lib.hid h.kn
    have hz : (if inv then backN p (n : Int) else rootN p (n : Int)) = root p inv n := by
      cases inv
      · rw [if_neg (by simp), h4]; rfl
      · unfold backN
        rw [if_pos rfl, h3, if_pos rfl, Int.toNat_natCast]; rfl
    rw [h3, hz] at HRo
    obtain ⟨r0, r1, -⟩ := root_bd p inv n
    have hn : n ≤ 5 := h.hi
    have HP := Lib.hid (fun W => powers_yes p (root p inv n) n W h.kn r0 (by omega) (by omega))
    have HL : Hid (pws p (root p inv n) n = (List.range n).map (pt p inv n)) := Lib.hid rfl
    generalize root p inv n = rt at HRo HP HL
    clear h h3 h4 hE hz r0 r1
    go_enter Tryd.func11, Tryd.ntmps11
    go_wp2_with (first
      | (go_at_call 24; refine (known_yes p _ H.out).mono ?_; rintro e w' ⟨rfl, rfl⟩)
      | (go_at_call 25; refine HRo.out.mono ?_; rintro e w1 ⟨rfl, hB⟩)
      | (go_at_call 26; refine (HP.out _).mono ?_; rintro e w2 ⟨v, rfl, hO, hB2⟩; rw [HL.out] at hO))
    go_ret2
    exact ⟨_, rfl, hO.mono hB.size, below_then hB hB2⟩

/-- The method of a radix. -/
def mth (n : Nat) : FuncId := if n = 2 then 48 else if n = 3 then 49 else if n = 4 then 50 else 51

theorem len_cases {xs : List Int} (h2 : 2 ≤ xs.length) (h5 : xs.length ≤ 5) : (∃ a b, xs = [a, b]) ∨ (∃ a b c, xs = [a, b, c]) ∨ (∃ a b c d, xs = [a, b, c, d]) ∨ ∃ a b c d e, xs = [a, b, c, d, e] := by
  match xs, h2, h5 with
  | [a, b], _, _ => exact .inl ⟨a, b, rfl⟩
  | [a, b, c], _, _ => exact .inr (.inl ⟨a, b, c, rfl⟩)
  | [a, b, c, d], _, _ => exact .inr (.inr (.inl ⟨a, b, c, d, rfl⟩))
  | [a, b, c, d, e], _, _ => exact .inr (.inr (.inr ⟨a, b, c, d, e, rfl⟩))

theorem mth_enters (n : Nat) : ∀ args W, (callFunc (mth n) args).run Tryd.prog W = .ok (.enter (mth n) args) W := by
  unfold mth
  split
  · exact enters_of Tryd.func48 (by kernel_rfl) rfl
  · split
    · exact enters_of Tryd.func49 (by kernel_rfl) rfl
    · split
      · exact enters_of Tryd.func50 (by kernel_rfl) rfl
      · exact enters_of Tryd.func51 (by kernel_rfl) rfl

theorem mth_any (p : Int) (inv : Bool) (y : Option Addr) (c : Nat) (x : Option Addr) (cap : Nat) (xs : List Int) (w : World) (hf : Fine p xs) (hw : Words xs) (hx : Reads .u64 w w.heap.size x xs) (hy : Reads .u64 w w.heap.size y (ptL p inv xs.length)) :
    Calls Tryd.prog (mth xs.length) #[.agg #[.int .u64 p, .slice y xs.length c], .slice x xs.length cap] w (RetNums w (doL p inv xs)) := by
  rcases len_cases hf.rdx.lo hf.rdx.hi with ⟨a, b, rfl⟩ | ⟨a, b, d, rfl⟩ | ⟨a, b, d, e, rfl⟩ | ⟨a, b, d, e, f, rfl⟩
  · exact ctwo_any p a b inv y c x cap w hf.rdx hf hw hx
  · exact cthree_any p a b d inv y c x cap w hf.rdx hf hw hx hy
  · exact cfour_any p a b d e inv y c x cap w hf.rdx hf hw hx hy
  · exact cfive_any p a b d e f inv y c x cap w hf.rdx hf hw hx hy

set_option maxHeartbeats 1000000 in
theorem methodOf_any (n : Nat) (w : World) (h2 : 2 ≤ n) (h5 : n ≤ 5) :
    Calls Tryd.prog 31 #[.int .i64 (n : Int)] w (RetB (.func (.func (mth n)) #[] #[]) w) := by
  obtain rfl | rfl | rfl | rfl : n = 2 ∨ n = 3 ∨ n = 4 ∨ n = 5 := by omega
  all_goals
    unfold mth
    simp only [Nat.reduceEqDiff, if_true, if_false]
    go_enter Tryd.func31, Tryd.ntmps31
    go_wp2
    go_ret
    exact ⟨rfl, below_al (Below.refl _ _) _⟩

end Go.Proofs.YtmcnamlgbkbiaaaDoor
