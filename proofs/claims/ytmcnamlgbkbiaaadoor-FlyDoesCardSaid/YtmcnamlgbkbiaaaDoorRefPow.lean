/-
  What the document's own answers of layer 2 come to (brackenref02), and brackenref01.Same: the same numbers and lists as power's.
-/
import Derived.Test.YtmcnamlgbkbiaaaDoorRefInv
import Derived.Test.YtmcnamlgbkbiaaaDoorAhead
namespace Go.Proofs.YtmcnamlgbkbiaaaDoor
open Go.RowKit

/-- The first k of xs, undone. -/
def invs (p : Int) (xs : List Int) (k : Nat) : List Int := (List.range k).map fun j => Fp.inv p (xs.getD j 0)
theorem invs_len (p : Int) (xs : List Int) (k : Nat) : (invs p xs k).length = k := by simp [invs]
theorem invs_all (p : Int) (xs : List Int) : invs p xs xs.length = xs.map (Fp.inv p) := by
  unfold invs
  apply List.ext_getElem?
  intro j
  by_cases hj : j < xs.length
  · simp [hj]
  · simp [hj]
/-- What brackenref02.All returns for a known prime and no list that is too long. -/
def AllRet (p : Int) (xs : List Int) (w : World) (e : Ending) (w' : World) : Prop :=
  (Fp.pre p xs xs.length = 0 ∧ e = .returned (.tuple #[.slice none 0 0, .int .i64 9]) ∧ Below w.heap.size w w') ∨ (Fp.pre p xs xs.length ≠ 0 ∧ ListRet w (xs.map (Fp.inv p)) e w')

/-! brackenref01.Same of two slices: are they the same list? -/
set_option maxHeartbeats 1000000 in
theorem same_any (x y : Option Addr) (n m cap cap' : Nat) (xs ys : List Int) (w : World) (B : Nat) (hx : Reads .u64 w B x xs) (hy : Reads .u64 w B y ys) (hn : xs.length = n) (hm : ys.length = m) (hl : n ≤ 140737488355328) (hl' : m ≤ 140737488355328) :
    Calls Tryd.prog 17 #[.slice x n cap, .slice y m cap'] w (RetQ (.bool (decide (xs = ys))) w) := by
  subst hn
  subst hm
  have HX := Lib.hid hx; clear hx
  have HY := Lib.hid hy; clear hy
  by_cases hnm : xs.length = ys.length
  · have t : ((xs.length : Int) != (ys.length : Int)) = false := by rw [hnm]; simp
    have HN := Lib.hid hnm; clear hnm
    go_enter Tryd.func17, Tryd.ntmps17
    go_wp2
    go_loopw [13] (fun i wr => ∃ k q : Nat, k ≤ xs.length ∧ i = .int .i64 k ∧ wr = w.drewN q ∧ Hid (∀ j, j < k → xs.getD j 0 = ys.getD j 0)) (fun i _ => xs.length - (intOf i).toNat)
    case atStart => exact ⟨0, 0, Nat.zero_le _, rfl, rfl, Lib.hid (fun j hj => by omega)⟩
    case round =>
      obtain ⟨k, q, hk, rfl, rfl, HA⟩ := hrel
      by_cases hlt : k < xs.length
      · have hlt' : k < ys.length := by have := HN.out; omega
        obtain ⟨b, off, rfl, hb, hc⟩ := HX.out (by omega)
        obtain ⟨b', off', rfl, hb', hc'⟩ := HY.out (by omega)
        have c1 := hc k hlt
        have c2 := hc' k hlt'
        obtain ⟨u, hu⟩ : ∃ u, u = xs.getD k 0 := ⟨_, rfl⟩
        obtain ⟨v, hv⟩ : ∃ v, v = ys.getD k 0 := ⟨_, rfl⟩
        rw [← hu] at c1
        rw [← hv] at c2
        by_cases he : u = v
        · have t2 : (u != v) = false := by rw [he]; simp
          have HA' : Hid (∀ j, j < k + 1 → xs.getD j 0 = ys.getD j 0) := Lib.hid (fun j hj => by
            by_cases e : j = k
            · rw [e, ← hu, ← hv]; exact he
            · exact HA.out j (by omega))
          clear he hu hv hc hc' HX HY
          go_wp2
          go_quiet (fail)
          go_wp2
          go_roundw
          case rel => exact ⟨k + 1, _, by omega, by go_num, rfl, HA'⟩
          case measure => simp [intOf]; omega
        · have t2 : (u != v) = true := by rw [bne_iff_ne]; exact he
          have HE : Hid (decide (xs = ys) = false) := Lib.hid (decide_eq_false (fun e => he (by rw [hu, hv, e])))
          clear he hu hv hc hc' HX HY
          go_wp2
          go_quiet (fail)
          go_wp2
          go_ret
          exact ⟨ret_bool HE.out.symm, q + nq, by rw [World.drewN_drewN]⟩
      · have HE : Hid (decide (xs = ys) = true) := Lib.hid (decide_eq_true (by
          apply List.ext_getElem HN.out
          intro j h1 h2
          have := HA.out j (by omega)
          simpa [h1, h2] using this))
        clear HX HY
        go_wp2
        go_ret
        exact ⟨ret_bool HE.out.symm, _, rfl⟩
  · have t : ((xs.length : Int) != (ys.length : Int)) = true := by rw [bne_iff_ne]; omega
    have HE : Hid (decide (xs = ys) = false) := Lib.hid (decide_eq_false (fun e => hnm (by rw [e])))
    clear hnm
    go_enter Tryd.func17, Tryd.ntmps17
    go_wp2
    go_ret
    exact ⟨ret_bool HE.out.symm, 0, rfl⟩

end Go.Proofs.YtmcnamlgbkbiaaaDoor
