/-
  The laws of layer 4, walked: FactorBack.
-/
import Derived.Test.YtgiahljjdpbflaaLawFac
namespace Go.Proofs.Ytgiahljjdpbflaa
open Go.RowKit

theorem stg_get {n : Nat} (e : Fac.prod (Fac.rads n) = n) (k : Nat) (h : k < (Fac.rads n).length) : (stg n).getD k noStg = ⟨((Fac.rads n)[k].1 : Nat), (Fac.prod ((Fac.rads n).take k) : Nat), (Fac.prod ((Fac.rads n).drop (k + 1)) : Nat)⟩ := by
  rw [List.getD_eq_getElem?_getD, List.getElem?_eq_getElem (by rw [stg_len]; exact h), Option.getD_some]
  unfold stg
  rw [Fac.stages_get n _ k h, Fac.behind e k h]
theorem rads_parts (l : List Fac.Rad) (k : Nat) (h : k < l.length) : Fac.prod (l.take k) * l[k].1 * Fac.prod (l.drop (k + 1)) = Fac.prod l := by
  have e1 : l = l.take k ++ (l[k] :: l.drop (k + 1)) := by rw [← List.drop_eq_getElem_cons h, List.take_append_drop]
  conv => rhs; rw [e1]
  rw [Fac.prod_append, Fac.prod, Nat.mul_assoc]

set_option maxHeartbeats 2000000 in
set_option maxRecDepth 100000 in
theorem walk_FactorBack (n : Int) (hn : (Lit.int .i64 n).wf = true) (w : World) :
    Calls Try.prog 4 #[.int .i64 n] w fun e w' => e = .returned (.bool true) ∧ Below w.heap.size w w' := by
  have n1 := i64_of hn
  clear hn
  cases h : Fac.sm n with
  | false =>
    have R1 := Lib.hid (fun w => radices_no n w h)
    have R2 := Lib.hid (fun w => stages_no n w h)
    clear h
    go_enter Try.func4, Try.ntmps4
    go_wp2_with (first
      | (go_at_call 7; refine (live4_any _).mono ?_; rintro e w1 ⟨rfl, hb1⟩)
      | (go_at_call 8; refine (R1.out _).mono ?_; rintro e w2 ⟨rfl, hb2⟩)
      | (go_at_call 10; refine (R2.out _).mono ?_; rintro e w3 ⟨rfl, hb3⟩))
    go_ret
    exact ⟨rfl, (hb1.trans (hb2.mono hb1.size)).trans (hb3.mono (Nat.le_trans hb1.size hb2.size))⟩
  | true =>
    obtain ⟨h1, h2, he⟩ := Fac.sm_of h
    obtain ⟨m, rfl⟩ : ∃ m : Nat, n = (m : Int) := ⟨n.toNat, by omega⟩
    rw [Int.toNat_natCast] at he
    have R1 := Lib.hid (fun w => radices_yes m w h)
    have R2 := Lib.hid (fun w => stages_yes m w h)
    have HL := Lib.hid (Fac.rads_len m (by omega) (by omega))
    have HG := Lib.hid (fun k h => stg_get he k h)
    have HP := Lib.hid (fun k h => (rads_parts (Fac.rads m) k h).trans he)
    have HF := Lib.hid (stg_len m)
    have HC := Lib.hid (chk_same h)
    have HE := Lib.hid he
    have CH := Lib.hid (check_any (m : Int))
    obtain ⟨L, hL⟩ : ∃ L, L = Fac.rads m := ⟨_, rfl⟩
    obtain ⟨S, hS⟩ : ∃ S, S = stg m := ⟨_, rfl⟩
    rw [show Fac.stages m (Fac.rads m) 1 = S from hS.symm] at R2
    rw [← hL] at R1 HL HG HP HF HE
    rw [← hS] at HG HF HC
    clear h he hL hS
    go_enter Try.func4, Try.ntmps4
    go_wp2_with (first
      | (go_at_call 7; refine (live4_any _).mono ?_; rintro e w1 ⟨rfl, hb1⟩)
      | (go_at_call 8; refine (R1.out _).mono ?_; rintro e w2 ⟨v, rfl, hO2, hb2⟩; obtain ⟨x, c, rfl, hc, hc', hx, _⟩ := hO2.form)
      | (go_at_call 10; refine (R2.out _).mono ?_; rintro e w3 ⟨v, rfl, hO3, hb3⟩; obtain ⟨y, d, rfl, hd, hd', hy⟩ := hO3.form))
    rw [Fac.ints_len] at hc ⊢
    rw [HF.out] at hd ⊢
    have HX := Lib.hid ((hx.below hb3).more hb3.size)
    have HY := Lib.hid hy
    have HB := Lib.hid ((hb1.trans (hb2.mono hb1.size)).trans (hb3.mono (Nat.le_trans hb1.size hb2.size)))
    clear hx hy hb1 hb2 hb3 hO2 hO3 R1 R2
    go_loopw [7, 44] (fun p i wr => ∃ (k q a : Nat), k ≤ L.length ∧ i = .int .i64 (k : Int) ∧ p = .int .i64 (a : Int) ∧ a = Fac.prod (L.take k) ∧ wr = w3.drewN q) (fun _ i _ => L.length - (intOf i).toNat)
    case atStart => exact ⟨0, 0, 1, Nat.zero_le _, rfl, rfl, rfl, rfl⟩
    case round =>
      obtain ⟨k, nd, p, hk, rfl, rfl, hp, rfl⟩ := hrel
      have h12 := HL.out
      by_cases hlt : k < L.length
      · obtain ⟨b, off, rfl, hb, hcx⟩ := HX.out (by rw [Fac.ints_len]; omega)
        obtain ⟨b', off', rfl, hb', hcy⟩ := HY.out (by rw [HF.out]; omega)
        have c1 := hcx k (by rw [Fac.ints_len]; exact hlt)
        obtain ⟨c2, c3, c4⟩ := hcy k (by rw [HF.out]; exact hlt)
        rw [Fac.ints_get L k hlt] at c1
        rw [HG.out k hlt] at c2 c3 c4
        dsimp only at c2 c3 c4
        rw [← hp] at c3
        obtain ⟨r, hr⟩ : ∃ r, r = L[k].1 := ⟨_, rfl⟩
        obtain ⟨q, hq⟩ : ∃ q, q = Fac.prod (L.drop (k + 1)) := ⟨_, rfl⟩
        obtain ⟨u, hu⟩ : ∃ u, u = Fac.prod (L.take (k + 1)) := ⟨_, rfl⟩
        have z1 : (r : Int) * (p : Int) = (u : Int) := by rw [hr, hp, hu, ← Fac.prod_take L k hlt, ← Int.natCast_mul, Nat.mul_comm]
        have z3 : (p : Int) * (r : Int) = (u : Int) := by rw [Int.mul_comm]; exact z1
        have z2 : (u : Int) * (q : Int) = (m : Int) := by rw [hu, hq, ← Fac.prod_take L k hlt, ← Int.natCast_mul, HP.out k hlt]
        have ub : u ≤ 244140625 := by rw [hu]; exact Fac.prod_short (by simp; omega)
        have r1 : 2 ≤ r := by rw [hr]; exact L[k].2.1
        have r2 : r ≤ 5 := by rw [hr]; exact L[k].2.2
        rw [← hr] at c1 c2
        rw [← hq] at c4
        have d1 : decide (L.length ≤ k) = false := decide_eq_false (by omega)
        have d2 : ((r : Int) != (r : Int)) = false := by simp
        have d3 : ((p : Int) != (p : Int)) = false := by simp
        have d4 : ((m : Int) != (m : Int)) = false := by simp
        have d5 : decide ((r : Int) < 2) = false := decide_eq_false (by omega)
        have d6 : decide ((5 : Int) < (r : Int)) = false := decide_eq_false (by omega)
        have HU := Lib.hid hu
        clear hp hr hq hu hcx hcy HX HY HG HP HE
        go_wp2
        go_quiet (fail)
        go_wp2
        go_roundw
        case rel => exact ⟨k + 1, _, u, by omega, by congr 1, rfl, HU.out, rfl⟩
        case measure => simp [intOf]; omega
      · have b1 : ((p : Int) == (m : Int)) = true := by rw [hp, List.take_of_length_le (by omega), HE.out]; simp
        clear hp HX HG HP HE
        go_wp2_with (go_at_call 16; refine (CH.out y _ d S (w3.drewN nd) (show ReadsS (w3.drewN nd) (w3.drewN nd).heap.size y S from HY.out) HF.out (by omega)).mono ?_; rw [HC.out]; rintro e w4 ⟨rfl, hb4⟩)
        go_ret
        exact ⟨rfl, (below_draws HB.out nd).trans (hb4.mono (by show _ ≤ w3.heap.size; exact HB.out.size))⟩

end Go.Proofs.Ytgiahljjdpbflaa
