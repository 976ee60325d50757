/-
  The laws of layer 5, walked: ShapeLines.
-/
import Derived.Test.YtpaaggmepaflcaaLawSha
namespace Go.Proofs.Ytpaaggmepaflcaa
open Go.RowKit

namespace Sh
/-- How often each place has been met, when k lines are over, and x places of the next one. -/
def met (I L P k x : Nat) : List Int := (List.range P).map fun j => if lnum I L j < k ∨ (lnum I L j = k ∧ j / I % L < x) then 1 else 0
section
variable {I L P : Nat}
theorem met_len (k x : Nat) : (met I L P k x).length = P := by unfold met; rw [List.length_map, List.length_range]
theorem met_get (k x j : Nat) (hj : j < P) : (met I L P k x).getD j 0 = if lnum I L j < k ∨ (lnum I L j = k ∧ j / I % L < x) then 1 else 0 := by
  unfold met
  rw [List.getD_eq_getElem?_getD, List.getElem?_map, List.getElem?_range hj]
  rfl
theorem met_start : met I L P 0 0 = List.replicate P 0 := by
  unfold met
  rw [← range_zeros]
  apply List.map_congr_left
  intro j _
  rw [if_neg (by omega)]
theorem met_zero (hI : 1 ≤ I) {k x : Nat} (hx : x < L) (hu : first I L k + x * I < P) : (met I L P k x).getD (first I L k + x * I) 0 = 0 := by
  rw [met_get _ _ _ hu, at_line hI hx, at_coord hI hx, if_neg (by omega)]
theorem met_step (hI : 1 ≤ I) {k x : Nat} (hx : x < L) (hu : first I L k + x * I < P) : (met I L P k x).set (first I L k + x * I) 1 = met I L P k (x + 1) := by
  apply List.ext_getElem?
  intro j
  rw [List.getElem?_set]
  by_cases hj : j < P
  · by_cases e : first I L k + x * I = j
    · rw [if_pos e, if_pos (by rw [met_len]; omega)]
      unfold met
      rw [List.getElem?_map, List.getElem?_range hj, ← e, Option.map_some, at_line hI hx, at_coord hI hx, if_pos (by omega)]
    · rw [if_neg e]
      unfold met
      rw [List.getElem?_map, List.getElem?_map, List.getElem?_range hj, Option.map_some, Option.map_some]
      congr 1
      by_cases h1 : lnum I L j < k
      · rw [if_pos (.inl h1), if_pos (.inl h1)]
      · by_cases h2 : lnum I L j = k
        · have h3 : j / I % L ≠ x := fun h3 => by
            have := back hI (L := L) j
            rw [h2, h3] at this
            exact e this
          by_cases h4 : j / I % L < x
          · rw [if_pos (.inr ⟨h2, h4⟩), if_pos (.inr ⟨h2, by omega⟩)]
          · rw [if_neg (by omega), if_neg (by omega)]
        · rw [if_neg (by omega), if_neg (by omega)]
  · rw [List.getElem?_eq_none (by rw [met_len]; omega), List.getElem?_eq_none (by rw [met_len]; omega)]
    split
    · rw [if_neg (by rw [met_len]; omega)]
    · rfl
theorem met_next (hL : 1 ≤ L) (k : Nat) : met I L P k L = met I L P (k + 1) 0 := by
  unfold met
  apply List.map_congr_left
  intro j _
  have h1 : j / I % L < L := Nat.mod_lt _ hL
  by_cases h2 : lnum I L j < k + 1
  · rw [if_pos (by omega), if_pos (.inl h2)]
  · rw [if_neg (by omega), if_neg (by omega)]
theorem met_all {O : Nat} (hP : P = O * (L * I)) (j : Nat) (hj : j < P) : (met I L P (O * I) 0).getD j 0 = 1 := by
  rw [met_get _ _ _ hj, if_pos (.inl (line_lt (by rw [← hP]; exact hj)))]
end
end Sh

theorem lineOf_get (ns : List Nat) (a k j : Nat) (hj : j < ns.getD a 0) : (lineOf ns a k).getD j 0 = ((Sh.first (Sh.prod (ns.drop (a + 1))) (ns.getD a 0) k + j * Sh.prod (ns.drop (a + 1)) : Nat) : Int) := by
  unfold lineOf
  rw [List.getD_eq_getElem?_getD, List.getElem?_map, List.getElem?_range hj]
  rfl

set_option maxRecDepth 100000 in
set_option maxHeartbeats 4000000 in
theorem walk_ShapeLines_in (ns : List Nat) (ok : Sh.Ok ns) (h300 : Sh.prod ns ≤ 300) (a : Nat) (ha : a < ns.length) (x : Option Addr) (cap : Nat) (w : World) (hc : ns.length ≤ cap) (hx : Reads .i64 w w.heap.size x (Sh.ints ns)) :
    Calls Try.prog 5 #[.slice x ns.length cap, .int .i64 (a : Int)] w fun e w' => e = .returned (.bool true) ∧ Below w.heap.size w w' := by
  have HA := Lib.hid (fun (W : World) (hW : Below w.heap.size w W) => all_ok ns ok x _ cap W w.heap.size (hx.below hW) rfl)
  have HI := Lib.hid (fun (W : World) (hW : Below w.heap.size w W) => inner_ok ns ok a ha x _ cap W w.heap.size (hx.below hW) rfl hc)
  have HL := Lib.hid (fun (k : Nat) (hk : k < Sh.prod ns / ns.getD a 0) (W : World) (hW : Below w.heap.size w W) => (line_ok ns ok a k ha hk x _ cap W w.heap.size (hx.below hW) rfl hc).mono fun e w' h => h.open (n := ns.getD a 0) (lineOf_len ns a k) (ok.pos_at ha))
  have HE := Lib.hid (fun (W : World) (hW : Below w.heap.size w W) => line_arg ns ok a ((Sh.prod ns / ns.getD a 0 : Nat) : Int) ha (by omega) x _ cap W w.heap.size (hx.below hW) rfl hc)
  have HC := Lib.hid (fun (i : Nat) (hi : i < Sh.prod ns) (W : World) (hW : Below w.heap.size w W) => (coord_ok ns ok i hi x _ cap W ((hx.below hW).more hW.size) rfl).mono fun e w' h => h.open (n := ns.length) (by rw [Sh.ints_len, Sh.crd_len]) (by omega))
  have HG := Lib.hid (fun (i : Nat) => Sh.crd_get ns i a ha)
  have HN := Lib.hid (fun (i : Nat) => Sh.crd_len ns i)
  have HLG := Lib.hid (fun (k j : Nat) (hj : j < ns.getD a 0) => lineOf_get ns a k j hj)
  have HLN := Lib.hid (fun (k : Nat) => lineOf_len ns a k)
  obtain ⟨b, off, rfl, hb, hcx⟩ := hx (by rw [Sh.ints_len]; omega)
  have c1 := hcx a (by rw [Sh.ints_len]; exact ha)
  rw [Sh.ints_get] at c1
  have h4 := ok.four
  have p2 := ok.pos_at ha
  have p3 := ok.le_at ha
  have p4 := ok.pos_drop (a + 1)
  have p5 := ok.le_drop (a + 1)
  have p6 := ok.here
  have hpa := Sh.parts ns a ha
  have hpd := Sh.parts_div ok a ha
  obtain ⟨P, hP⟩ : ∃ P, P = Sh.prod ns := ⟨_, rfl⟩
  obtain ⟨L, hL⟩ : ∃ L, L = ns.getD a 0 := ⟨_, rfl⟩
  obtain ⟨I, hI⟩ : ∃ I, I = Sh.prod (ns.drop (a + 1)) := ⟨_, rfl⟩
  obtain ⟨O, hO⟩ : ∃ O, O = Sh.prod (ns.take a) := ⟨_, rfl⟩
  rw [← hP] at HA HL HE HC h300 hpa hpd p6
  rw [← hL] at HL HE HG HLG HLN c1 p2 p3 hpa hpd
  rw [← hI] at HI HG HLG p4 p5 hpa hpd
  rw [← hO] at hpa hpd
  obtain ⟨t, ht⟩ : ∃ t, t = P / L := ⟨_, rfl⟩
  rw [← ht] at HL HE hpd
  have q1 : (P : Int) / (L : Int) = (t : Int) := by rw [ht]; exact cast_div P L
  have q2 : (L : Int) ≠ 0 := by omega
  have q3 : t ≤ P := by rw [ht]; exact Nat.div_le_self _ _
  have HAT := Lib.hid (fun (k j : Nat) (hk : k < t) (hj : j < L) => (Sh.at_lt (I := I) (L := L) (O := O) (k := k) (by rw [← hpd]; exact hk) hj : Sh.first I L k + j * I < O * (L * I)))
  rw [← hpa] at HAT
  have HALL := Lib.hid (fun (j : Nat) (hj : j < P) => Sh.met_all (I := I) (L := L) (O := O) hpa j hj)
  rw [← hpd] at HALL
  have d1 : decide ((10 : Int) < (ns.length : Int)) = false := by simp; omega
  have d2 : decide ((300 : Int) < (P : Int)) = false := by simp; omega
  have d3 : decide ((a : Int) < 0) = false := by simp
  have d4 : decide (ns.length ≤ a) = false := by simp; omega
  have HC1 := Lib.hid (fun (W : World) (hW : Below w.heap.size w W) => (hW.cell (p := ⟨b, off + a, none⟩) hb).trans c1)
  obtain ⟨i0, hti, hy0, hy1, hy2⟩ := info_parts info_int
  have HY2 := Lib.hid hy2
  clear hP hL hI hO ht hpa hpd hcx hx ok c1 hy2
  go_enter Try.func5, Try.ntmps5
  go_wp2_with (first
    | (go_at_call 7; refine (live5_any _).mono ?_; rintro e w1 ⟨rfl, hb1⟩; have HB1 := Lib.hid hb1; clear hb1)
    | (go_at_call 8; refine (HA.out w1 HB1.out).mono ?_; rintro e w' ⟨rfl, rfl⟩)
    | (go_at_call 14; refine (HI.out _ HB1.out).mono ?_; rintro e w' ⟨rfl, rfl⟩)
    | (at_make; refine wpList_make_full _ rfl _ _ 22 rfl w1.heap.size 3 i0 (.int .i64 0) 1 Try.underlying22 hti hy0 hy1 .i64 .i64 _ _ P rfl rfl rfl rfl (by rw [HY2.out]; omega) (by unfold maxLen; omega) (Nat.le_refl _) ?_; intro w2 hown hgrow))
  obtain ⟨g, hg⟩ : ∃ g, g = w1.heap.size := ⟨_, rfl⟩
  have hM : Owns .i64 3 w2 g (.slice (some ⟨g, 0, none⟩) P P) (Sh.met I L P 0 0) := by
    rw [show (Value.int .i64 0).cells = #[.int .i64 0] from rfl, toList_madeCells_one, Nat.mul_one] at hown
    rw [Sh.met_start, hg]
    unfold Owns
    rw [List.length_replicate, List.map_replicate]
    exact hown
  have hB2 : Below w.heap.size w w2 := HB1.out.grown hgrow HB1.out.size (fun k e => by cases e)
  have hgw : w.heap.size ≤ g := by rw [hg]; exact HB1.out.size
  rw [← hg]
  clear hown hgrow hg hti hy0 hy1 HA HI d1 d2 d3 d4
  go_loopw [10, 11] (fun f q wr => ∃ (k : Nat) (z : Int), k ≤ t ∧ q = .int .i64 (k : Int) ∧ f = .int .i64 z ∧ z < (Sh.first I L k : Nat) ∧ Owns .i64 3 wr g (.slice (some ⟨g, 0, none⟩) P P) (Sh.met I L P k 0) ∧ Below w.heap.size w wr) (fun _ q _ => t - (intOf q).toNat)
  case atStart => exact ⟨0, -1, Nat.zero_le _, rfl, rfl, by omega, hM, hB2⟩
  case round =>
    obtain ⟨k, z, hk, rfl, rfl, hz, hM, hB⟩ := hrel
    have c1 := HC1.out wr hB
    by_cases hlt : k < t
    · have e1 : decide (k < t) = true := by simpa using hlt
      have hco := HL.out k hlt wr hB
      have hlg := HLG.out k
      have hln := HLN.out k
      have hat := fun j => HAT.out k j hlt
      obtain ⟨R, hR⟩ : ∃ R, R = lineOf ns a k := ⟨_, rfl⟩
      obtain ⟨F, hF⟩ : ∃ F, F = Sh.first I L k := ⟨_, rfl⟩
      rw [← hR] at hco hlg hln
      rw [← hF] at hlg hz hat
      have hat0 := hat 0 p2
      have r0 := hlg 0 p2
      rw [Nat.zero_mul, Nat.add_zero] at r0 hat0
      have e2 : decide ((F : Int) ≤ z) = false := by simp; omega
      have e3 : ((L : Int) == 0) = false := by simp; omega
      have hgr : g < wr.heap.size := (World.ownsRow.lt hM g rfl).2
      have HCO := Lib.hid hco
      have HLG' := Lib.hid hlg
      have HAT' := Lib.hid hat
      have HFE := Lib.hid hF
      have HLN' := Lib.hid hln
      have HM := Lib.hid hM
      have HB := Lib.hid hB
      have R0 := Lib.hid r0
      clear hco hlg hat hR hF hln hM hB r0
      go_wp2_with (go_at_call 16; refine HCO.out.mono ?_; rintro e w3 ⟨gl, capl, rfl, hg1, hg2, hcap, hmx, hO, -, hb3⟩; have c2 := hO.cell 0 (by rw [HLN'.out]; exact p2); rw [R0.out] at c2; have c3 := HC1.out w3 (below_next HB.out HB.out.size hb3); have HO := Lib.hid hO; have HB3 := Lib.hid (below_next HB.out HB.out.size hb3); have HM3 := Lib.hid (HM.out.below hb3); clear hO hb3)
      obtain ⟨s0, hs0⟩ : ∃ s0, s0 = wr.heap.size := ⟨_, rfl⟩
      rw [← hs0] at HO hgr hg1
      clear HB HM HCO hs0
      go_loopw [109] (fun q W => ∃ (j : Nat), j ≤ L ∧ q = .int .i64 (j : Int) ∧ Owns .i64 3 W s0 (.slice (some ⟨gl, 0, none⟩) L capl) R ∧ Owns .i64 3 W g (.slice (some ⟨g, 0, none⟩) P P) (Sh.met I L P k j) ∧ Below w.heap.size w W) (fun q _ => L - (intOf q).toNat)
      case atStart => exact ⟨0, Nat.zero_le _, rfl, HO.out, HM3.out, HB3.out⟩
      case round =>
        obtain ⟨j, hj, rfl, hO, hM, hB⟩ := hrel
        by_cases hjl : j < L
        · have c4 := hO.cell j (by rw [HLN'.out]; exact hjl)
          rw [HLG'.out j hjl] at c4
          have hu4 := HAT'.out j hjl
          have hcd := HC.out (F + j * I) hu4
          have hcg := HG.out (F + j * I)
          have hcn := HN.out (F + j * I)
          have hmz := Sh.met_zero (I := I) (L := L) (P := P) p4 (k := k) hjl (by rw [← HFE.out]; exact hu4)
          have hms := Sh.met_step (I := I) (L := L) (P := P) p4 (k := k) hjl (by rw [← HFE.out]; exact hu4)
          have hcx := Sh.at_coord (I := I) p4 hjl k
          rw [← HFE.out] at hmz hms hcx
          rw [hcx] at hcg
          obtain ⟨r, hr⟩ : ∃ r, r = j * I := ⟨_, rfl⟩
          obtain ⟨u, hu⟩ : ∃ u, u = F + r := ⟨_, rfl⟩
          rw [← hr, ← hu] at c4 hu4 hcd hcg hcn hmz hms
          have m1 : (j : Int) * (I : Int) = (r : Int) := by rw [hr, Int.natCast_mul]
          have m2 : (F : Int) + (r : Int) = (u : Int) := by rw [hu, Int.natCast_add]
          have m3 : r ≤ 300 := by omega
          have e4 : decide ((u : Int) < 0) = false := by simp
          have e5 : decide (P ≤ u) = false := by simp; omega
          have e6 : decide (ns.length ≤ a) = false := by simp; omega
          have HCD := Lib.hid hcd
          have HCG := Lib.hid hcg
          have HCN := Lib.hid hcn
          have HMS := Lib.hid hms
          have HMZ := Lib.hid hmz
          have HO' := Lib.hid hO
          have HM := Lib.hid hM
          have HB := Lib.hid hB
          have hgW : g < wr.heap.size := (World.ownsRow.lt hM g rfl).2
          clear hcd hcg hcn hms hmz hcx hr hu hO hM hB HO HM3 HB3
          go_wp2_with (go_at_call 10; refine (HCD.out wr HB.out).mono ?_; rintro e w4 ⟨gc, capc, rfl, hg5, hg6, hcap5, hmx5, hOc, -, hb4⟩; have c5 := hOc.cell a (by rw [Sh.ints_len, HCN.out]; exact ha); rw [Sh.ints_get, HCG.out] at c5; have hM4 := HM.out.below hb4; have c6 := hM4.cell u (by rw [Sh.met_len]; exact hu4); rw [HMZ.out] at c6; have c7 := hM4.unfrozen (Sh.met_len _ _) u; have HM4 := Lib.hid hM4; have HO4 := Lib.hid (HO'.out.below hb4); have HB4 := Lib.hid (below_next HB.out HB.out.size hb4); have hgW4 := hb4.size; clear hOc hb4 hM4)
          go_roundw
          case rel =>
            refine ⟨j + 1, by omega, by congr 1, HO4.out.set_below (p := ⟨g, u, none⟩) hgr _, ?_, HB4.out.setCell (p := ⟨g, u, none⟩) (by show _ ≤ g; exact hgw) _⟩
            rw [← HMS.out]
            exact HM4.out.put (Sh.met_len _ _) u 1
          case measure => simp [intOf]; omega
        · obtain rfl : j = L := by omega
          have HM : Hid (Owns .i64 3 wr g (.slice (some ⟨g, 0, none⟩) P P) (Sh.met I j P (k + 1) 0)) := Lib.hid (by rw [← Sh.met_next p2]; exact hM)
          have HB := Lib.hid hB
          have HF1 : Hid ((F : Int) < (Sh.first I j (k + 1) : Nat)) := Lib.hid (by have := Sh.first_lt (I := I) p4 p2 (Nat.lt_succ_self k); rw [HFE.out]; exact Int.ofNat_lt.2 this)
          clear hO hM hB HO HM3 HB3
          go_wp2
          go_roundw
          case rel => exact ⟨k + 1, _, by omega, by congr 1, rfl, HF1.out, HM.out, HB.out⟩
          case measure => simp [intOf]; omega
    · obtain rfl : k = t := by omega
      have e1 : decide (k < k) = false := by simp
      have HM := Lib.hid hM
      have HB := Lib.hid hB
      clear hM hB
      go_wp2
      go_loopw [161] (fun q W => ∃ (j : Nat), j ≤ P ∧ q = .int .i64 (j : Int) ∧ W = wr) (fun q _ => P - (intOf q).toNat)
      case atStart => exact ⟨0, Nat.zero_le _, rfl, rfl⟩
      case round =>
        obtain ⟨j, hj, rfl, rfl⟩ := hrel
        by_cases hjl : j < P
        · have c2 := HM.out.cell j (by rw [Sh.met_len]; exact hjl)
          rw [HALL.out j hjl] at c2
          go_wp2
          go_roundw
          case rel => exact ⟨j + 1, by omega, by congr 1, trivial⟩
          case measure => simp [intOf]; omega
        · go_wp2_with (go_at_call 16; refine (HE.out _ HB.out).mono ?_; rintro e w5 ⟨v, rfl, -, hb5⟩)
          go_ret
          exact ⟨rfl, below_next HB.out HB.out.size hb5⟩

set_option maxRecDepth 100000 in
set_option maxHeartbeats 1000000 in
theorem walk_ShapeLines (x : Option Addr) (len cap : Nat) (zs : List Int) (a : Int) (w : World) (hr : RowIn .i64 w x len cap zs) (_ha : (Lit.int .i64 a).wf = true) :
    Calls Try.prog 5 #[.slice x len cap, .int .i64 a] w fun e w' => e = .returned (.bool true) ∧ Below w.heap.size w w' := by
  obtain ⟨ds, -, hl, hc, hcm, hx, -⟩ := hr.readsI
  clear hr
  rcases Sh.ok_or ds with ⟨ns, ok, rfl⟩ | no
  · rw [Sh.ints_len] at hl
    subst hl
    by_cases h300 : Sh.prod ns ≤ 300
    · by_cases ha : 0 ≤ a ∧ a < (ns.length : Int)
      · obtain ⟨k, rfl⟩ : ∃ k : Nat, a = (k : Int) := ⟨a.toNat, by omega⟩
        exact walk_ShapeLines_in ns ok h300 k (by omega) x cap w hc hx
      · have HA := Lib.hid (fun (W : World) (hW : Below w.heap.size w W) => all_ok ns ok x _ cap W w.heap.size (hx.below hW) rfl)
        have HI := Lib.hid (fun (W : World) (hW : Below w.heap.size w W) => inner_arg ns ok a ha x _ cap W w.heap.size (hx.below hW) rfl)
        have h4 := ok.four
        have d1 : decide ((10 : Int) < (ns.length : Int)) = false := by simp; omega
        have d2 : decide ((300 : Int) < ((Sh.prod ns : Nat) : Int)) = false := by simp; omega
        by_cases h0 : a < 0
        · have d3 : decide (a < 0) = true := by simpa using h0
          clear hx ok ha
          go_enter Try.func5, Try.ntmps5
          go_wp2_with (first
            | (go_at_call 7; refine (live5_any _).mono ?_; rintro e w1 ⟨rfl, hb1⟩; have HB1 := Lib.hid hb1; clear hb1)
            | (go_at_call 8; refine (HA.out w1 HB1.out).mono ?_; rintro e w' ⟨rfl, rfl⟩)
            | (go_at_call 14; refine (HI.out _ HB1.out).mono ?_; rintro e w' ⟨rfl, rfl⟩))
          go_ret
          exact ⟨rfl, HB1.out⟩
        · have d3 : decide (a < 0) = false := by simpa using h0
          have d4 : decide ((ns.length : Int) ≤ a) = true := by simp; omega
          clear hx ok ha
          go_enter Try.func5, Try.ntmps5
          go_wp2_with (first
            | (go_at_call 7; refine (live5_any _).mono ?_; rintro e w1 ⟨rfl, hb1⟩; have HB1 := Lib.hid hb1; clear hb1)
            | (go_at_call 8; refine (HA.out w1 HB1.out).mono ?_; rintro e w' ⟨rfl, rfl⟩)
            | (go_at_call 14; refine (HI.out _ HB1.out).mono ?_; rintro e w' ⟨rfl, rfl⟩))
          go_ret
          exact ⟨rfl, HB1.out⟩
    · have HA := Lib.hid (fun (W : World) (hW : Below w.heap.size w W) => all_ok ns ok x _ cap W w.heap.size (hx.below hW) rfl)
      have h4 := ok.four
      have d1 : decide ((10 : Int) < (ns.length : Int)) = false := by simp; omega
      have d2 : decide ((300 : Int) < ((Sh.prod ns : Nat) : Int)) = true := by simp; omega
      clear hx ok
      go_enter Try.func5, Try.ntmps5
      go_wp2_with (first
        | (go_at_call 7; refine (live5_any _).mono ?_; rintro e w1 ⟨rfl, hb1⟩; have HB1 := Lib.hid hb1; clear hb1)
        | (go_at_call 8; refine (HA.out w1 HB1.out).mono ?_; rintro e w' ⟨rfl, rfl⟩))
      go_ret
      exact ⟨rfl, HB1.out⟩
  · have HA := Lib.hid (fun (W : World) (hW : Below w.heap.size w W) => all_no ds no x len cap W w.heap.size (hx.below hW) hl)
    by_cases hlen : 10 < len
    · have d1 : decide ((10 : Int) < (len : Int)) = true := by simp; omega
      clear hx no
      go_enter Try.func5, Try.ntmps5
      go_wp2_with (first
        | (go_at_call 7; refine (live5_any _).mono ?_; rintro e w1 ⟨rfl, hb1⟩; have HB1 := Lib.hid hb1; clear hb1)
        | (go_at_call 8; refine (HA.out w1 HB1.out).mono ?_; rintro e w' ⟨rfl, rfl⟩))
      go_ret
      exact ⟨rfl, HB1.out⟩
    · have d1 : decide ((10 : Int) < (len : Int)) = false := by simp; omega
      clear hx no
      go_enter Try.func5, Try.ntmps5
      go_wp2_with (first
        | (go_at_call 7; refine (live5_any _).mono ?_; rintro e w1 ⟨rfl, hb1⟩; have HB1 := Lib.hid hb1; clear hb1)
        | (go_at_call 8; refine (HA.out w1 HB1.out).mono ?_; rintro e w' ⟨rfl, rfl⟩))
      go_ret
      exact ⟨rfl, HB1.out⟩

end Go.Proofs.Ytpaaggmepaflcaa
