/-
  What the document's own stages come to (brackenref04.Stages, Check), and factor.Check, and the example that each law begins with.
-/
import Derived.Test.YtgiahljjdpbflaaRefFac
import Derived.Deep.RegionWith
namespace Go.Proofs.Ytgiahljjdpbflaa
open Go.RowKit

/-- The stages of a size that may be. -/
def stg (n : Nat) : List Fac.Stg := Fac.stages n (Fac.rads n) 1
theorem stg_len (n : Nat) : (stg n).length = (Fac.rads n).length := Fac.stages_len _ _ _
theorem stg_at {n : Nat} (e : Fac.prod (Fac.rads n) = n) (k : Nat) (h : k < (Fac.rads n).length) : (stg n).take (k + 1) = (stg n).take k ++ [⟨((Fac.rads n)[k].1 : Nat), (Fac.prod ((Fac.rads n).take k) : Nat), (Fac.prod ((Fac.rads n).drop (k + 1)) : Nat)⟩] := by
  rw [List.take_succ_eq_append_getElem (by rw [stg_len]; exact h)]
  congr 2
  unfold stg
  rw [Fac.stages_get n _ k h, Fac.behind e k h]

theorem Reads.take {k : IntKind} {w : World} {B : Nat} {x : Option Addr} {xs : List Int} (h : Reads k w B x xs) (i : Nat) : Reads k w B x (xs.take i) := fun hn => by
  obtain ⟨b, off, e, hb, hc⟩ := h (by simp at hn; omega)
  refine ⟨b, off, e, hb, fun j hj => ?_⟩
  have hj' : j < i ∧ j < xs.length := by simp at hj; omega
  rw [hc j hj'.2]
  simp [List.getD_eq_getElem?_getD, hj'.1]

theorem Reads.drop {k : IntKind} {w : World} {B : Nat} {b off : Nat} {xs : List Int} (h : Reads k w B (some ⟨b, off, none⟩) xs) (i : Nat) : Reads k w B (some ⟨b, off + i, none⟩) (xs.drop i) := fun hn => by
  obtain ⟨b', off', e, hb, hc⟩ := h (by simp at hn; omega)
  cases e
  refine ⟨b, off + i, rfl, hb, fun j hj => ?_⟩
  have hj' : i + j < xs.length := by simp at hj; omega
  rw [Nat.add_assoc, hc (i + j) hj']
  simp [List.getD_eq_getElem?_getD]

theorem rstages_no (n : Int) (w : World) (h : Fac.sm n = false) :
    Calls Try.prog 11 #[.int .i64 n] w (RetB (.tuple #[.slice none 0 0, .int .i64 4]) w) := by
  have HR := Lib.hid (rradices_no n w h)
  clear h
  go_enter Try.func11, Try.ntmps11
  go_wp2_with (go_at_call 9; refine HR.out.mono ?_; rintro e w' ⟨rfl, hb⟩)
  go_ret2
  exact ⟨rfl, hb⟩

set_option maxRecDepth 100000 in
set_option maxHeartbeats 2000000 in
theorem rstages_yes (n : Nat) (w : World) (h : Fac.sm (n : Int) = true) :
    Calls Try.prog 11 #[.int .i64 (n : Int)] w fun e w' =>
      ∃ v, e = .returned (.tuple #[v, .int .i64 0]) ∧ OwnsS w' w.heap.size v (stg n) ∧ Below w.heap.size w w' := by
  have HR := Lib.hid (rradices_yes n w h)
  obtain ⟨h1, h2, he⟩ := Fac.sm_of h
  rw [Int.toNat_natCast] at he
  have HL := Lib.hid (Fac.rads_len n (by omega) (by omega))
  have HA := Lib.hid (fun k h => stg_at he k h)
  have HF := Lib.hid (stg_len n)
  obtain ⟨L, hL⟩ : ∃ L, L = Fac.rads n := ⟨_, rfl⟩
  obtain ⟨S, hS⟩ : ∃ S, S = stg n := ⟨_, rfl⟩
  rw [← hL] at HR HL HA HF
  rw [← hS] at HA HF ⊢
  obtain ⟨i0, hi, hz0, hz1, hz2⟩ := info_parts info_stg
  clear h he hL hS
  go_enter Try.func11, Try.ntmps11
  go_wp2_with (go_at_call 9; refine HR.out.mono ?_; rintro e w1 ⟨v, rfl, hO, hB⟩; obtain ⟨x, cap, rfl, hcap, hmx, hrd, _⟩ := hO.form)
  rw [Fac.ints_len] at hcap ⊢
  have HX := Lib.hid hrd
  have HB := Lib.hid hB
  clear hrd hB hO HR
  go_loopw [6, 19] (fun v i wr => ∃ (k : Nat) (o : Value), k ≤ L.length ∧ i = .int .i64 (k : Int) ∧ o = v ∧ OwnsS wr w1.heap.size o (S.take k) ∧ Below w1.heap.size w1 wr) (fun _ i _ => L.length - (intOf i).toNat)
  case atStart => exact ⟨0, _, Nat.zero_le _, rfl, rfl, OwnsS.nil, Below.refl _ _⟩
  case round =>
    obtain ⟨k, o, hk, rfl, rfl, hO, hW⟩ := hrel
    by_cases hlt : k < L.length
    · have hA := HA.out k hlt
      obtain ⟨b, off, rfl, hb, hc⟩ := HX.out (by rw [Fac.ints_len]; omega)
      have c1 := (hW.cell (p := ⟨b, off + k, none⟩) hb).trans (hc k (by rw [Fac.ints_len]; exact hlt))
      rw [Fac.ints_get _ k hlt] at c1
      have h12 := HL.out
      have hR := HX.out.below hW
      have hR1 : Reads .i64 wr w1.heap.size (some ⟨b, off, none⟩) (Fac.ints (L.take k)) := by have := hR.take k; unfold Fac.ints at this ⊢; rwa [List.map_take]
      have hC1 := fun (c nn : Nat) => rproduct_any (L.take k) (by simp; omega) (some ⟨b, off, none⟩) k c (wr.drewN nn) w1.heap.size (hR1.draws nn) (by simp; omega)
      have hR2 : Reads .i64 wr w1.heap.size (some ⟨b, off + (k + 1), none⟩) (Fac.ints (L.drop (k + 1))) := by have := hR.drop (k + 1); unfold Fac.ints at this ⊢; rwa [List.map_drop]
      have hR3 : Reads .i64 wr w1.heap.size (if cap = k + 1 then some ⟨b, off, none⟩ else some ⟨b, off + (k + 1), none⟩) (Fac.ints (L.drop (k + 1))) := by
        by_cases hcp : cap = k + 1
        · rw [List.drop_eq_nil_of_le (by omega)]; exact Reads.nil
        · rw [if_neg hcp]; exact hR2
      have hC2 := fun (c nn : Nat) => rproduct_any (L.drop (k + 1)) (by simp; omega) _ (L.length - (k + 1)) c (wr.drewN nn) w1.heap.size (hR3.draws nn) (by simp)
      obtain ⟨r, hr⟩ : ∃ r, r = L[k].1 := ⟨_, rfl⟩
      obtain ⟨p1, hp1⟩ : ∃ p, p = Fac.prod (L.take k) := ⟨_, rfl⟩
      obtain ⟨p2, hp2⟩ : ∃ p, p = Fac.prod (L.drop (k + 1)) := ⟨_, rfl⟩
      have hs1 : Hid ((S.take k).length ≤ 12) := Lib.hid (by have := HF.out; simp; omega)
      rw [← hr] at c1
      rw [← hp1] at hC1
      rw [← hp2] at hC2
      rw [← hr, ← hp1, ← hp2] at hA
      have H1 := Lib.hid hC1
      have H2 := Lib.hid hC2
      have HA' := Lib.hid hA
      clear hC1 hC2 hR hR1 hR2 hR3 hc hA hr hp1 hp2 HA
      have hmx' : Try.prog.follows .mixedOrders = true := by kernel_rfl
      go_wp2
      refine region_late (l1 := [_, _, _, _, _, _, _, _, _, _, _]) o (.slice (some ⟨wr.heap.size, 0, none⟩) 1 1) (.cells #[.int .i64 (r : Int), .int .i64 (p1 : Int), .int .i64 (p2 : Int)] 36) hmx' (by kernel_rfl) (by kernel_rfl) ?_ ?_ ?_
      · intro k; go_simp
      · intro k; go_simp
      simp only [List.cons_append, List.nil_append, Act.put, List.setIfInBounds_toArray, List.set_cons_succ, List.set_cons_zero]
      repeat (go_big_quiet_step (first
        | (go_at_call_of 21 (Value.slice (some ⟨b, off, none⟩) k cap); exact Calls.quiet_of_same ((H1.out _ _).mono fun _ _ ⟨a, b⟩ => ⟨a, b.symm⟩))
        | (go_at_call 21; exact Calls.quiet_of_same ((H2.out _ _).mono fun _ _ ⟨a, b⟩ => ⟨a, b.symm⟩))))
      refine wpQuiet_nil ?_
      refine ⟨by kernel_rfl, fun k => ?_, fun nq => ?_⟩
      · go_simp
      have hsw := hW.size
      go_wp2_with (at_builtin; refine wpList_append_own _ rfl _ _ 22 rfl w1.heap.size 36 i0 (.agg #[.int .i64 0, .int .i64 0, .int .i64 0]) 3 24 Try.underlying22 hi hz0 hz1 hz2 rfl (by decide) _ _ _ rfl (World.ownsRow.alloc (w := wr.drewN nq) hO _) ⟨wr.heap.size, 0, none⟩ 1 1 [.int .i64 (r : Int), .int .i64 (p1 : Int), .int .i64 (p2 : Int)] rfl rfl (cell_three_new (wr.drewN nq) _ _ _ _) (by simp [Value.oneCell']) (by have := hs1.out; unfold maxLen; omega) (by have := hs1.out; omega) (by simp; omega) ?_; intro v' w2 hown' hgrow _)
      go_roundw
      case rel =>
        refine ⟨k + 1, _, by omega, by congr 1, rfl, ?_, ?_⟩
        · rw [HA'.out]; exact OwnsS.push hown'
        · exact ((below_draws hW nq).alloc (by show _ ≤ wr.heap.size; exact hW.size) _).grown hgrow (by simp; omega) (fun g e => (World.ownsRow.lt hO g e).1)
      case measure => simp [intOf]; omega
    · have hO' := hO
      rw [List.take_of_length_le (by have := HF.out; omega)] at hO'
      have hBW := Lib.hid (HB.out.trans (hW.mono HB.out.size))
      have HO := Lib.hid (OwnsS.mono hO' HB.out.size)
      clear hO hO' hW HX
      go_wp2
      go_ret2
      exact ⟨_, rfl, HO.out, hBW.out⟩

end Go.Proofs.Ytgiahljjdpbflaa
