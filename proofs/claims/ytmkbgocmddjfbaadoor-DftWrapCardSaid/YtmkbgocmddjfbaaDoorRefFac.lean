/-
  What the document's own answers of layer 4 come to (brackenref04).
-/
import Derived.Test.YtmkbgocmddjfbaaDoorSizes
namespace Go.Proofs.YtmkbgocmddjfbaaDoor
open Go.RowKit

/-- It returns the list and the number m, the list in a row of its own. -/
def OutRet (w : World) (xs : List Int) (m : Int) (e : Ending) (w' : World) : Prop := ∃ v, e = .returned (.tuple #[v, .int .i64 m]) ∧ Owns .i64 3 w' w.heap.size v xs ∧ Below w.heap.size w w'

set_option maxHeartbeats 1000000 in
theorem rout_any (r : Fac.Rad) : ∀ (f m : Nat) (w : World), Fac.Enough f [r] m → m ≤ 4096 →
    Calls Tryd.prog 61 #[.int .i64 (m : Int), .int .i64 (r.1 : Int)] w (OutRet w (Fac.ints (Fac.tell f [r] m)) (Fac.left f [r] m : Nat)) := by
  intro f
  induction f with
  | zero => intro m w h; have := h.1; simp at this
  | succ f ih =>
    intro m w hE hm
    obtain ⟨r1, r2⟩ := r.2
    have hn0 : ((r.1 : Nat) : Int) ≠ 0 := by omega
    by_cases hd : m % r.1 = 0
    · rw [Fac.tell_yes hd, Fac.left_yes hd]
      have b1 : (((m : Nat) : Int) % ((r.1 : Nat) : Int) != 0) = false := by rw [cast_mod, hd]; rfl
      obtain ⟨q, hq⟩ : ∃ q, q = m / r.1 := ⟨_, rfl⟩
      have hcd : ((m : Nat) : Int) / ((r.1 : Nat) : Int) = (q : Int) := by rw [hq]; exact cast_div m r.1
      have hh := Fac.div_half m r
      have hp := Fac.div_pos hd hE.2.2
      have HI := Lib.hid (ih (m / r.1) w (hE.yes hd) (by omega))
      have HT : Hid ((Fac.ints (Fac.tell f [r] (m / r.1))).length ≤ 12) := Lib.hid (by rw [Fac.ints_len]; exact Fac.tell_len f [r] (m / r.1) hp (by omega))
      rw [show Fac.ints (r :: Fac.tell f [r] (m / r.1)) = [(r.1 : Int)] ++ Fac.ints (Fac.tell f [r] (m / r.1)) from rfl]
      generalize Fac.ints (Fac.tell f [r] (m / r.1)) = ys at HI HT ⊢
      generalize ((Fac.left f [r] (m / r.1) : Nat) : Int) = z at HI ⊢
      rw [← hq] at HI hh
      obtain ⟨i0, hi, hz0, hz1, hz2⟩ := info_parts info_int
      clear ih hE hd hq hp
      go_enter Tryd.func61, Tryd.ntmps61
      go_wp2_with (first
        | (go_at_call 61; refine HI.out.mono ?_; rintro e w1 ⟨v, rfl, hO, hB⟩; obtain ⟨x, cap, rfl, hS⟩ := hO.src; have HS := Lib.hid hS; clear hS)
        | (at_builtin; refine wpList_append_list rfl _ _ 55 rfl w.heap.size 3 i0 .i64 8 Tryd.underlying55 hi hz0 hz1 hz2 _ [(r.1 : Int)] rfl (owns_one w1 .i64 _ _ _ hB.size) x _ cap ys rfl (HS.out.keep ((Below.refl _ w1).alloc (Nat.le_refl _) _)) (by have := HT.out; unfold maxLen; simp; omega) (by have := HT.out; simp; omega) (by have := hB.size; simp; omega) ?_; intro v' w2 hO2 hg2))
      go_ret2
      refine ⟨_, rfl, hO2, ?_⟩
      exact (hB.alloc hB.size _).grown hg2 (by have := hB.size; simp; omega) (fun k e => by have e' : some w1.heap.size = some k := e; cases e'; exact hB.size)
    · rw [Fac.tell_no hd, Fac.left_no hd, Fac.tell_nil, Fac.left_nil]
      have b1 : (((m : Nat) : Int) % ((r.1 : Nat) : Int) != 0) = true := by rw [cast_mod, bne_iff_ne]; omega
      clear ih hE hd
      go_enter Tryd.func61, Tryd.ntmps61
      go_wp2
      go_ret2
      exact ⟨_, rfl, Owns.nil, Below.refl _ _⟩

theorem rradices_out (n : Int) (w : World) (h : ¬ (1 ≤ n ∧ n ≤ 4096)) :
    Calls Tryd.prog 58 #[.int .i64 n] w (RetB (.tuple #[.slice none 0 0, .int .i64 4]) w) := by
  by_cases h1 : n < 1
  · have d1 : decide (n < 1) = true := by simpa using h1
    clear h
    go_enter Tryd.func58, Tryd.ntmps58
    go_wp2
    go_ret2
    exact ⟨rfl, Below.refl _ _⟩
  · have d1 : decide (n < 1) = false := by simpa using h1
    have d2 : decide (4096 < n) = true := by simp; omega
    clear h
    go_enter Tryd.func58, Tryd.ntmps58
    go_wp2
    go_ret2
    exact ⟨rfl, Below.refl _ _⟩

theorem four_cell (w : World) (t : TypeId) (j : Nat) (r : Fac.Rad) (hr : Fac.four[j]? = some r) :
    (w.alloc (.cells #[.int .i64 4, .int .i64 2, .int .i64 3, .int .i64 5] t)).cell? ⟨w.heap.size, j, none⟩ = some (.int .i64 (r.1 : Int)) := by
  have hi : j < 4 := by
    rcases Nat.lt_or_ge j 4 with h | h
    · exact h
    · rw [List.getElem?_eq_none (by simpa [Fac.four] using h)] at hr; cases hr
  have : j = 0 ∨ j = 1 ∨ j = 2 ∨ j = 3 := by omega
  rcases this with rfl | rfl | rfl | rfl <;> simp [Fac.four] at hr <;> subst hr <;> simp

set_option maxHeartbeats 2000000 in
theorem rradices_in (n : Nat) (w : World) (h1 : 1 ≤ n) (h2 : n ≤ 4096) :
    Calls Tryd.prog 58 #[.int .i64 (n : Int)] w fun e w' =>
      (Fac.over n = 1 → ∃ v, e = .returned (.tuple #[v, .int .i64 0]) ∧ Owns .i64 3 w' w.heap.size v (Fac.ints (Fac.rads n)) ∧ Below w.heap.size w w') ∧
      (Fac.over n ≠ 1 → RetB (.tuple #[.slice none 0 0, .int .i64 4]) w e w') := by
  have d1 : decide ((n : Int) < 1) = false := by simp; omega
  have d2 : decide ((4096 : Int) < (n : Int)) = false := by simp; omega
  have HE := Lib.hid (Fac.enough n h1 h2)
  have HL := Lib.hid (Fac.rads_len n h1 h2)
  obtain ⟨i0, hi, hz0, hz1, hz2⟩ := info_parts info_int
  have hB0 : Hid (Below w.heap.size w (w.alloc (.cells #[.int .i64 4, .int .i64 2, .int .i64 3, .int .i64 5] 3))) := Lib.hid ((Below.refl _ w).alloc (Nat.le_refl _) _)
  go_enter Tryd.func58, Tryd.ntmps58
  go_wp2
  obtain ⟨W, hW⟩ : ∃ W, W = w.alloc (.cells #[.int .i64 4, .int .i64 2, .int .i64 3, .int .i64 5] 3) := ⟨_, rfl⟩
  have hF := Lib.hid (four_cell w 3)
  have hs : Hid (W.heap.size = w.heap.size + 1) := Lib.hid (by rw [hW]; simp)
  rw [← hW] at hF hB0 ⊢
  clear hW
  go_loopw [0, 4, 17] (fun s v i wr => ∃ (j f m : Nat) (pre : List Fac.Rad) (o : Value), j ≤ 4 ∧ i = .int .i64 (j : Int) ∧ s = .int .i64 (m : Int) ∧ o = v ∧ Fac.Enough f (Fac.four.drop j) m ∧ m ≤ 4096 ∧ pre ++ Fac.tell f (Fac.four.drop j) m = Fac.rads n ∧ Fac.left f (Fac.four.drop j) m = Fac.over n ∧ Owns .i64 3 wr W.heap.size o (Fac.ints pre) ∧ Below W.heap.size W wr)
    (fun _ _ i _ => (4 - intOf i).toNat)
  case atStart => exact ⟨0, 16, n, [], _, by omega, rfl, rfl, rfl, HE.out, h2, rfl, rfl, Owns.nil, Below.refl _ _⟩
  case round =>
    obtain ⟨j, f, m, pre, o, hj, rfl, rfl, rfl, hE, hm, hP, hL, hO, hB⟩ := hrel
    rcases Nat.lt_or_ge j 4 with hj4 | hj4
    · obtain ⟨r, hr⟩ : ∃ r, Fac.four[j]? = some r := ⟨_, List.getElem?_eq_getElem (by simpa [Fac.four] using hj4)⟩
      have hd : Fac.four.drop j = r :: Fac.four.drop (j + 1) := by
        rw [List.drop_eq_getElem_cons (by simpa [Fac.four] using hj4)]
        rw [List.getElem?_eq_getElem (by simpa [Fac.four] using hj4)] at hr
        rw [Option.some.inj hr]
      rw [hd] at hE hP hL
      have hm1 := hE.2.2
      have hE1 : Fac.Enough 13 [r] m := ⟨by simp, by show m < 8192; omega, hm1⟩
      obtain ⟨f', hE', hT, hL'⟩ := Fac.tell_split 13 f m hE hE1
      have hcl := (hB.cell (p := ⟨w.heap.size, j, none⟩) (by have := hs.out; show w.heap.size < W.heap.size; omega)).trans (hF.out j r hr)
      have hpl : Hid ((Fac.ints pre).length ≤ 12) := Lib.hid (by rw [Fac.ints_len]; have := congrArg List.length hP; have h12 := HL.out; simp at this; omega)
      have HT : Hid ((Fac.ints (Fac.tell 13 [r] m)).length ≤ 12) := Lib.hid (by rw [Fac.ints_len]; exact Fac.tell_len 13 [r] m hm1 hm)
      have hle := Fac.left_le 13 [r] m
      rw [hT] at hP
      rw [hL'] at hL
      have HP := Lib.hid (And.intro hE' (And.intro hP hL))
      have HR := Lib.hid (rout_any r 13 m wr hE1 hm)
      have hdj : decide ((j : Int) < 4) = true := by simp; omega
      have HO := Lib.hid hO
      have HB := Lib.hid hB
      obtain ⟨z, hz⟩ : ∃ z, z = Fac.left 13 [r] m := ⟨_, rfl⟩
      rw [← hz] at hle HP HR
      generalize hys : Fac.tell 13 [r] m = ys at HT HP HR
      clear hE hP hL hd hr HE hE1 hE' hT hL' hO hB hz hys
      go_wp2_with (first
        | (go_at_call 61; refine HR.out.mono ?_; rintro e w1 ⟨v, rfl, hO1, hB1⟩; obtain ⟨x, cap, rfl, hS⟩ := hO1.src; have HS := Lib.hid hS; clear hS)
        | (at_builtin; refine wpList_append_list rfl _ _ 55 rfl W.heap.size 3 i0 .i64 8 Tryd.underlying55 hi hz0 hz1 hz2 _ (Fac.ints pre) rfl (HO.out.below hB1) x _ cap (Fac.ints ys) rfl HS.out (by have := HT.out; have := hpl.out; unfold maxLen; omega) (by have := HT.out; have := hpl.out; omega) (Nat.le_trans HB.out.size hB1.size) ?_; intro v' w2 hO2 hg2))
      go_roundw
      case rel =>
        refine ⟨j + 1, f', z, pre ++ ys, _, by omega, by congr 1, rfl, rfl, HP.out.1, by omega, by rw [List.append_assoc]; exact HP.out.2.1, HP.out.2.2, by rw [Fac.ints_append]; exact hO2, ?_⟩
        exact (HB.out.trans (hB1.mono HB.out.size)).grown hg2 (Nat.le_trans HB.out.size hB1.size) (fun k e => HO.out.ownBlock k e)
      case measure => simp [intOf]; omega
    · obtain rfl : j = 4 := by omega
      rw [show Fac.four.drop 4 = [] from rfl] at hP hL
      rw [Fac.tell_nil, List.append_nil] at hP
      rw [Fac.left_nil] at hL
      have HP := Lib.hid (And.intro hP hL)
      have HO := Lib.hid hO
      have hBW : Hid (Below w.heap.size w wr) := Lib.hid (hB0.out.trans (hB.mono (by have := hs.out; omega)))
      clear hE hP hL HE hO hB
      by_cases hm1 : m = 1
      · have b1 : ((m : Int) != 1) = false := by rw [hm1]; rfl
        go_wp2
        go_ret2
        refine ⟨fun _ => ⟨_, rfl, ?_, hBW.out⟩, fun h => absurd (HP.out.2.symm.trans hm1) h⟩
        rw [← HP.out.1]
        exact HO.out.mono (by have := hs.out; omega)
      · have b1 : ((m : Int) != 1) = true := by rw [bne_iff_ne]; omega
        go_wp2
        go_ret2
        exact ⟨fun h => absurd (HP.out.2.trans h) hm1, fun _ => ⟨rfl, hBW.out⟩⟩

theorem rradices_no (n : Int) (w : World) (h : Fac.sm n = false) :
    Calls Tryd.prog 58 #[.int .i64 n] w (RetB (.tuple #[.slice none 0 0, .int .i64 4]) w) := by
  by_cases hr : 1 ≤ n ∧ n ≤ 4096
  · obtain ⟨m, rfl⟩ : ∃ m : Nat, n = (m : Int) := ⟨n.toNat, by omega⟩
    rw [Fac.sm_over (by omega) (by omega)] at h
    exact (rradices_in m w (by omega) (by omega)).mono fun e w' hh => hh.2 (by simpa using h)
  · exact rradices_out n w hr

theorem rradices_yes (n : Nat) (w : World) (h : Fac.sm (n : Int) = true) :
    Calls Tryd.prog 58 #[.int .i64 (n : Int)] w fun e w' =>
      ∃ v, e = .returned (.tuple #[v, .int .i64 0]) ∧ Owns .i64 3 w' w.heap.size v (Fac.ints (Fac.rads n)) ∧ Below w.heap.size w w' := by
  obtain ⟨h1, h2, _⟩ := Fac.sm_of h
  rw [Fac.sm_over (by omega) (by omega)] at h
  exact (rradices_in n w (by omega) (by omega)).mono fun e w' hh => hh.1 (by simpa using h)

theorem rsmooth_any (n : Int) (w : World) : Calls Tryd.prog 40 #[.int .i64 n] w (RetB (.bool (Fac.sm n)) w) := by
  cases h : Fac.sm n with
  | false =>
    have HR := Lib.hid (rradices_no n w h)
    clear h
    go_enter Tryd.func40, Tryd.ntmps40
    go_wp2_with (go_at_call 58; refine HR.out.mono ?_; rintro e w' ⟨rfl, hb⟩)
    go_ret
    exact ⟨rfl, hb⟩
  | true =>
    obtain ⟨h1, _, _⟩ := Fac.sm_of h
    obtain ⟨m, rfl⟩ : ∃ m : Nat, n = (m : Int) := ⟨n.toNat, by omega⟩
    have HR := Lib.hid (rradices_yes m w h)
    clear h
    go_enter Tryd.func40, Tryd.ntmps40
    go_wp2_with (go_at_call 58; refine HR.out.mono ?_; rintro e w' ⟨v, rfl, ho, hb⟩)
    go_ret
    exact ⟨rfl, hb⟩

end Go.Proofs.YtmkbgocmddjfbaaDoor
