/-
  What the document's Fix of layer 14 comes to (brackenref14.Fix): the same.
-/
import Derived.Test.YtpdiilfpbkmebaaRefCodeTwo
import Derived.Test.YtpdiilfpbkmebaaFixRow
import Derived.Test.YtpdiilfpbkmebaaReadsL
namespace Go.Proofs.Ytpdiilfpbkmebaa
open Go.RowKit

namespace Cd
theorem right_fit {p : Int} {ys : List Int} {g h : Int} (hp : Fp.kn p = true) (h1 : 1 ≤ ys.length) (h2 : ys.length ≤ 4096) : lkB p (ys ++ thrice [g, h]) = fit p ys g h := by
  rw [Bool.eq_iff_iff, lk_iff]
  constructor
  · rintro ⟨zs, k1, k2⟩
    have e1 := congrArg hd k2
    have e2 := congrArg tl k2
    rw [hd_app rfl, cw_hd] at e1
    rw [tl_app rfl, cw_tl] at e2
    obtain ⟨q0, q1⟩ := thrice_two e2
    subst e1
    rw [q0, q1]
    exact cw_fit k1
  · intro hf
    obtain ⟨k1, k2⟩ := fit_cw hp h1 h2 hf
    exact ⟨ys, k1, k2.symm⟩
theorem nx_ref {p : Int} {xs : List Int} {g : Int} {i : Nat} (hp : Fp.kn p = true) (hi : i < xs.length) : Fp.sub p g (s0 p (xs.set i 0)) = nx p xs g i := by
  unfold Fp.sub s0 nx
  rw [if_pos hp, Int.sub_emod_emod, List.length_set, S0_set xs i 0 hi, if_pos hi]
  congr 1; omega
theorem fi_fit {p : Int} {c : List Int} (h0 : lnE p c.length = 0) (h1 : clE (tl c) = 0) (hf : fit p (hd c) (wd (tl c) 0) (wd (tl c) 1) = true) :
    fiE p c = 0 ∧ fiL p c = hd c ++ thrice [wd (tl c) 0, wd (tl c) 1] ∧ fiF p c = (clF (tl c)).map (mv (c.length - 6)) := by
  obtain ⟨k1, k2, k3, k4, k5⟩ := fi_some h0 h1 (mn_fit hf)
  obtain ⟨hp, h7, h8⟩ := lnE_zero.1 h0
  have hn := hd_len c
  obtain ⟨-, k7⟩ := fit_cw hp (by omega) (by omega) hf
  obtain ⟨-, w1, w2⟩ := cl6 (tl_len (c := c) (by omega)) h1
  rw [k7] at k4 k5
  refine ⟨k3, k4, ?_⟩
  have e := dif_app (a := hd c) (a' := hd c) (b := tl c) (b' := thrice [wd (tl c) 0, wd (tl c) 1]) hn hn 6
  rw [hd_tl, show c.length - 6 + 6 = c.length by omega] at e
  rw [k5, e, (dif_eq hn hn).2 rfl, List.nil_append, show thrice [wd (tl c) 0, wd (tl c) 1] = thrice (wds (tl c) 2) from rfl, w1]
  rw [show (6 : Nat) = 3 * 2 from rfl, dif_thrice (n := 2) w2 2 (Nat.le_refl _)]
theorem fi_at {p : Int} {c : List Int} (h0 : lnE p c.length = 0) (h1 : clE (tl c) = 0) (hf : fit p (hd c) (wd (tl c) 0) (wd (tl c) 1) = false) {i : Nat} (hi : i < c.length - 6) (hfi : fit p (md p (hd c) (wd (tl c) 0) i) (wd (tl c) 0) (wd (tl c) 1) = true) :
    fiE p c = 0 ∧ fiL p c = md p (hd c) (wd (tl c) 0) i ++ thrice [wd (tl c) 0, wd (tl c) 1] ∧ fiF p c = ⟨(i : Int), (hd c).getD i 0, nx p (hd c) (wd (tl c) 0) i⟩ :: (clF (tl c)).map (mv (c.length - 6)) := by
  obtain ⟨hp, h7, h8⟩ := lnE_zero.1 h0
  have hn := hd_len c
  obtain ⟨k1, k2, k3, k4, k5⟩ := fi_some h0 h1 (mn_at hp (by omega) hf (by omega) hfi)
  obtain ⟨-, k7⟩ := fit_cw hp (by rw [md_len]; omega) (by rw [md_len]; omega) hfi
  obtain ⟨-, w1, w2⟩ := cl6 (tl_len (c := c) (by omega)) h1
  rw [k7] at k4 k5
  refine ⟨k3, k4, ?_⟩
  have e := dif_app (a := hd c) (a' := md p (hd c) (wd (tl c) 0) i) (b := tl c) (b' := thrice [wd (tl c) 0, wd (tl c) 1]) hn ((md_len _ _ _ _).trans hn) 6
  rw [hd_tl, show c.length - 6 + 6 = c.length by omega] at e
  have hne : (hd c).getD i 0 ≠ nx p (hd c) (wd (tl c) 0) i := fun e => by
    have : md p (hd c) (wd (tl c) 0) i = hd c := by
      unfold md
      apply list_eq (by rw [List.length_set])
      intro j hj
      rw [List.length_set] at hj
      rw [put_get _ i j _ (by omega)]
      by_cases d : j = i
      · rw [if_pos d, ← e, d]
      · rw [if_neg d]
    rw [this, hf] at hfi
    cases hfi
  rw [k5, e]
  unfold md
  rw [dif_set _ _ _ (by omega), if_pos ⟨hi, hne⟩, show thrice [wd (tl c) 0, wd (tl c) 1] = thrice (wds (tl c) 2) from rfl, w1]
  rw [show (6 : Nat) = 3 * 2 from rfl, dif_thrice (n := 2) w2 2 (Nat.le_refl _)]
  rfl

/-- Fixes of which the first k are moved along. -/
def shl (fs : List Fx) (m k : Nat) : List Fx := (fs.take k).map (mv m) ++ fs.drop k
theorem shl_len (fs : List Fx) (m k : Nat) : (shl fs m k).length = fs.length := by unfold shl; rw [List.length_append, List.length_map, List.length_take, List.length_drop]; omega
theorem shl_zero (fs : List Fx) (m : Nat) : shl fs m 0 = fs := by simp [shl]
theorem shl_all (fs : List Fx) (m : Nat) : shl fs m fs.length = fs.map (mv m) := by simp [shl]
theorem shl_get (fs : List Fx) (m k : Nat) (h : k < fs.length) : (shl fs m k).getD k noFx = fs.getD k noFx := by
  unfold shl
  have hl : ((fs.take k).map (mv m)).length = k := by rw [List.length_map, List.length_take]; omega
  rw [List.getD_eq_getElem?_getD, List.getElem?_append_right (by omega), hl, Nat.sub_self, List.getElem?_drop, Nat.add_zero, ← List.getD_eq_getElem?_getD]
theorem shl_next (fs : List Fx) (m k : Nat) (h : k < fs.length) : (shl fs m k).set k (mv m (fs.getD k noFx)) = shl fs m (k + 1) := by
  unfold shl
  have hl : ((fs.take k).map (mv m)).length = k := by rw [List.length_map, List.length_take]; omega
  rw [List.set_append, if_neg (by omega), hl, Nat.sub_self, List.drop_eq_getElem_cons h, List.set_cons_zero, List.take_add_one, List.getElem?_eq_getElem h, List.map_append, List.append_assoc, List.getD_eq_getElem?_getD, List.getElem?_eq_getElem h]
  rfl
end Cd

/-- A fix of such rows beside each other moved along. -/
theorem Beside.setAd {w wr : World} {v1 : Value} {g n cap : Nat} {xs : List Int} {fs : List Fx} (h : Beside w wr v1 (.slice (some ⟨g, 0, none⟩) n cap) xs fs) (hn : fs.length = n) {j : Nat} (hj : j < n) (u : Int) :
    Beside w (wr.setCell ⟨g, j * 3, none⟩ (.int .i64 u)) v1 (.slice (some ⟨g, 0, none⟩) n cap) xs (fs.set j { fs.getD j noFx with ad := u }) :=
  ⟨h.1.still fun k e => Below.heap_setCell _ _ _ _ (fun c => h.2.2.1 k e (by rw [c]; rfl)), h.2.1.setAd hn hj u, h.2.2.1, h.2.2.2.setCell (p := ⟨g, j * 3, none⟩) (h.2.1.inside rfl).1 _⟩

theorem rkfix_no (p : Int) (x : Option Addr) (n cap : Nat) (w : World) (h0 : Cd.lnE p n ≠ 0) :
    Calls Try.prog 18 #[.int .u64 p, .slice x n cap] w (RetC w [] [] (Cd.lnE p n)) := by
  unfold Cd.lnE at h0 ⊢
  cases hk : Fp.kn p
  · rw [if_pos rfl]
    have H := Lib.hid hk
    clear hk h0
    go_enter Try.func18, Try.ntmps18
    go_wp2_with (go_at_call 28; refine (rknown_no p _ H.out).mono ?_; rintro e w' ⟨rfl, rfl⟩)
    go_ret3
    exact ⟨_, _, rfl, Owns.nil, OwnsF.nil, (fun g e => by cases e), Below.refl _ _⟩
  · have H := Lib.hid hk
    rw [hk, if_neg (by decide)] at h0
    rw [if_neg (by decide)]
    by_cases h1 : n < 7
    · have d1 : decide ((n : Int) < 7) = true := by simp; omega
      rw [if_pos (.inl h1)]
      clear hk h0
      go_enter Try.func18, Try.ntmps18
      go_wp2_with (go_at_call 28; refine (rknown_yes p _ H.out).mono ?_; rintro e w' ⟨rfl, rfl⟩)
      go_ret3
      exact ⟨_, _, rfl, Owns.nil, OwnsF.nil, (fun g e => by cases e), Below.refl _ _⟩
    · have d1 : decide ((n : Int) < 7) = false := by simp; omega
      have h2 : 4102 < n := by
        rcases Nat.lt_or_ge 4102 n with h | h
        · exact h
        · rw [if_neg (by omega)] at h0; exact absurd rfl h0
      have d2 : decide ((4102 : Int) < (n : Int)) = true := by simp; omega
      rw [if_pos (.inr h2)]
      clear hk h0
      go_enter Try.func18, Try.ntmps18
      go_wp2_with (go_at_call 28; refine (rknown_yes p _ H.out).mono ?_; rintro e w' ⟨rfl, rfl⟩)
      go_ret3
      exact ⟨_, _, rfl, Owns.nil, OwnsF.nil, (fun g e => by cases e), Below.refl _ _⟩

set_option maxRecDepth 100000 in
set_option maxHeartbeats 4000000 in
theorem rkfix_cells (p : Int) (x : Option Addr) (n cap : Nat) (xs : List Int) (w : World) (hx : Reads .u64 w w.heap.size x xs) (hn : xs.length = n) (hc : n ≤ cap) (hcm : cap ≤ maxLen) (hC : Cd.lnE p n = 0) (hL : clE (Cd.tl xs) = 10) :
    Calls Try.prog 18 #[.int .u64 p, .slice x n cap] w (RetC w [] [] 10) := by
  obtain ⟨hk, h7, h8⟩ := Cd.lnE_zero.1 hC
  have hcm' : cap ≤ 9223372036854775807 := hcm
  have H := Lib.hid hk
  obtain ⟨b, off, rfl, hb, hcx⟩ := hx (by omega)
  obtain ⟨m, hm⟩ : ∃ m : Nat, m = n - 6 := ⟨_, rfl⟩
  have hz : (n : Int) - 6 = (m : Int) := by omega
  have hnm : n = m + 6 := by omega
  have htl : Cd.tl xs = xs.drop m := by unfold Cd.tl; rw [hn, ← hm]
  have HT := Lib.hid (fun c (h1 : 6 ≤ c) (h2 : c ≤ maxLen) => rcells_any (some ⟨b, off + m, none⟩) 6 c (xs.drop m) w (hx.drop m) (by rw [List.length_drop]; omega) h1 h2)
  rw [htl] at hL
  rw [clW_no (by rw [hL]; decide), clF_no (by rw [hL]; decide), hL] at HT
  have hsc : ¬ cap = m := by omega
  have hmc : m ≤ cap := by omega
  have hsub : cap - m ≤ maxLen := by omega
  clear hx hn hm htl hL hC hb hcx hk
  subst hnm
  have d1 : decide (((m + 6 : Nat) : Int) < 7) = false := by simp; omega
  have d2 : decide ((4102 : Int) < ((m + 6 : Nat) : Int)) = false := by simp; omega
  go_enter Try.func18, Try.ntmps18
  go_wp2_with (first
    | (go_at_call 28; refine (rknown_yes p _ H.out).mono ?_; rintro e w' ⟨rfl, rfl⟩)
    | (go_at_call 40; refine (HT.out _ (by omega) hsub).mono ?_; rintro e w2 hr; obtain ⟨x2, c2, y2, d2, rfl, -, -, -, -, hB⟩ := hr.open (n := 0) (m := 0) rfl rfl; have B2 := Lib.hid hB; clear hr hB))
  go_ret3
  exact ⟨_, _, rfl, Owns.nil, OwnsF.nil, (fun g e => by cases e), B2.out⟩

end Go.Proofs.Ytpdiilfpbkmebaa
