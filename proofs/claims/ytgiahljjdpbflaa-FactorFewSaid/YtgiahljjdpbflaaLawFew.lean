/-
  The laws of layer 4, walked: FactorFew.
-/
import Derived.Test.YtgiahljjdpbflaaLawFac
import Derived.Maps.OwnOps
import Derived.Maps.Own
namespace Go.Proofs.Ytgiahljjdpbflaa
open Go.RowKit Go.Maps

/-! The order of the radices. -/
def rank (r : Nat) : Int := if r = 4 then 1 else if r = 2 then 2 else if r = 3 then 3 else if r = 5 then 4 else 0
def scan : Int → List Fac.Rad → Bool
  | _, [] => true
  | last, r :: l => decide (last ≤ rank r.1) && !(decide (r.1 = 2) && decide (last = 2)) && scan (rank r.1) l
theorem rank_bd (r : Fac.Rad) : 1 ≤ rank r.1 ∧ rank r.1 ≤ 4 := by
  obtain ⟨r, h1, h2⟩ := r
  have : r = 2 ∨ r = 3 ∨ r = 4 ∨ r = 5 := by omega
  rcases this with rfl | rfl | rfl | rfl <;> simp [rank]
theorem scan_cons {last : Int} {r : Fac.Rad} {l : List Fac.Rad} (h : scan last (r :: l) = true) : last ≤ rank r.1 ∧ ¬ (r.1 = 2 ∧ last = 2) ∧ scan (rank r.1) l = true := by
  simp only [scan, Bool.and_eq_true, decide_eq_true_eq, Bool.not_eq_true', Bool.and_eq_false_iff, decide_eq_false_iff_not] at h
  exact ⟨h.1.1, fun ⟨a, b⟩ => h.1.2.elim (fun x => x a) (fun x => x b), h.2⟩
def fewB (a b c : Nat) : Bool :=
  decide (4096 < 2 ^ a * 3 ^ b * 5 ^ c) || (decide (Fac.prod (Fac.rads (2 ^ a * 3 ^ b * 5 ^ c)) = 2 ^ a * 3 ^ b * 5 ^ c) && decide ((Fac.rads (2 ^ a * 3 ^ b * 5 ^ c)).length = (a + 1) / 2 + b + c) && scan 0 (Fac.rads (2 ^ a * 3 ^ b * 5 ^ c)))
theorem few_all : ((List.range 13).all fun a => (List.range 8).all fun b => (List.range 6).all fun c => fewB a b c) = true := by decide +kernel
theorem few {a b c : Nat} (ha : a < 13) (hb : b < 8) (hc : c < 6) (h : 2 ^ a * 3 ^ b * 5 ^ c ≤ 4096) :
    Fac.sm ((2 ^ a * 3 ^ b * 5 ^ c : Nat) : Int) = true ∧ (Fac.rads (2 ^ a * 3 ^ b * 5 ^ c)).length = (a + 1) / 2 + b + c ∧ scan 0 (Fac.rads (2 ^ a * 3 ^ b * 5 ^ c)) = true := by
  have h1 := List.all_eq_true.1 few_all a (List.mem_range.2 ha)
  have h2 := List.all_eq_true.1 h1 b (List.mem_range.2 hb)
  have h3 := List.all_eq_true.1 h2 c (List.mem_range.2 hc)
  have hp : 1 ≤ 2 ^ a * 3 ^ b * 5 ^ c := Nat.mul_pos (Nat.mul_pos (Nat.pow_pos (by decide)) (Nat.pow_pos (by decide))) (Nat.pow_pos (by decide))
  simp only [fewB, Bool.or_eq_true, Bool.and_eq_true, decide_eq_true_eq] at h3
  rcases h3 with h3 | ⟨⟨h3, h4⟩, h5⟩
  · omega
  · refine ⟨?_, h4, h5⟩
    rw [Fac.sm, Int.toNat_natCast, decide_eq_true h3, decide_eq_true (by omega), decide_eq_true (by omega)]
    rfl
theorem p2 {k : Nat} (h : k < 13) : 1 ≤ 2 ^ k ∧ 2 ^ k ≤ 4096 := ⟨Nat.pow_pos (by decide), Nat.le_trans (Nat.pow_le_pow_right (by decide) (Nat.le_of_lt_succ h)) (by decide)⟩
theorem p3 {k : Nat} (h : k < 8) : 1 ≤ 3 ^ k ∧ 3 ^ k ≤ 2187 := ⟨Nat.pow_pos (by decide), Nat.le_trans (Nat.pow_le_pow_right (by decide) (Nat.le_of_lt_succ h)) (by decide)⟩
theorem p5 {k : Nat} (h : k < 6) : 1 ≤ 5 ^ k ∧ 5 ^ k ≤ 3125 := ⟨Nat.pow_pos (by decide), Nat.le_trans (Nat.pow_le_pow_right (by decide) (Nat.le_of_lt_succ h)) (by decide)⟩
theorem p23 {a k : Nat} (h : a < 13) (hk : k < 8) : 2 ^ a * 3 ^ k ≤ 8957952 := Nat.mul_le_mul (p2 h).2 (p3 hk).2
theorem p235 {a b k : Nat} (h : a < 13) (hb : b < 8) (hk : k < 6) : 2 ^ a * 3 ^ b * 5 ^ k ≤ 27993600000 := Nat.mul_le_mul (p23 h hb) (p5 hk).2

/-! The map of the ranks. -/
theorem law_int : Keyed Try.prog 3 := int_keyed Try.underlying3
theorem zero_int (w : World) : (zeroValue 3).run Try.prog w = .ok (.int .i64 0) w := by kernel_rfl
/-- The map of the ranks, as it reads. -/
def ranks : DataW Unit := ((((DataW.map []).put (.int .i64 4) (.lit (.int .i64 1))).put (.int .i64 2) (.lit (.int .i64 2))).put (.int .i64 3) (.lit (.int .i64 3))).put (.int .i64 5) (.lit (.int .i64 4))
/-- The four stores that make it, one behind the other. -/
theorem ranks_made (w : World) : ∃ w3 w4 w5 w6,
    (Instr.mapUpdate 38 (.map (some w.heap.size)) (.int .i64 4) (.int .i64 1)).run Try.prog (w.alloc (.map #[] 0)) = .ok () w3 ∧ (Instr.mapUpdate 38 (.map (some w.heap.size)) (.int .i64 2) (.int .i64 2)).run Try.prog w3 = .ok () w4 ∧
    (Instr.mapUpdate 38 (.map (some w.heap.size)) (.int .i64 3) (.int .i64 3)).run Try.prog w4 = .ok () w5 ∧ (Instr.mapUpdate 38 (.map (some w.heap.size)) (.int .i64 5) (.int .i64 4)).run Try.prog w5 = .ok () w6 ∧
    w6.ownsMap Try.prog 3 (plainElem Try.prog 3) w.heap.size 4 ranks ∧ (w.alloc (.map #[] 0)).grownBy w3 (some w.heap.size) ∧ w3.grownBy w4 (some w.heap.size) ∧ w4.grownBy w5 (some w.heap.size) ∧ w5.grownBy w6 (some w.heap.size) := by
  have m0 : (w.alloc (.map #[] 0)).ownsMap Try.prog 3 (plainElem (H := Unit) Try.prog 3) w.heap.size 0 (.map []) := World.ownsMap_made _ _ _ _
  obtain ⟨w3, e3, m3, g3⟩ := m0.update law_int Try.underlying38 (by unfold maxLen; omega) (keyOf_int_mk (q := .i64) (a := 4) Try.underlying3 (by decide)) (plainElem_int (q := .i64) (a := 1) Try.underlying3 (by decide))
  obtain ⟨w4, e4, m4, g4⟩ := m3.update law_int Try.underlying38 (by unfold maxLen; omega) (keyOf_int_mk (q := .i64) (a := 2) Try.underlying3 (by decide)) (plainElem_int (q := .i64) (a := 2) Try.underlying3 (by decide))
  obtain ⟨w5, e5, m5, g5⟩ := m4.update law_int Try.underlying38 (by unfold maxLen; omega) (keyOf_int_mk (q := .i64) (a := 3) Try.underlying3 (by decide)) (plainElem_int (q := .i64) (a := 3) Try.underlying3 (by decide))
  obtain ⟨w6, e6, m6, g6⟩ := m5.update law_int Try.underlying38 (by unfold maxLen; omega) (keyOf_int_mk (q := .i64) (a := 5) Try.underlying3 (by decide)) (plainElem_int (q := .i64) (a := 4) Try.underlying3 (by decide))
  exact ⟨w3, w4, w5, w6, e3, e4, e5, e6, m6, g3, g4, g5, g6⟩
theorem ranks_at (r : Fac.Rad) : ranks.atKey (.int .i64 (r.1 : Int)) (.lit (.int .i64 0)) = .lit (.int .i64 (rank r.1)) := by
  obtain ⟨r, h1, h2⟩ := r
  have : r = 2 ∨ r = 3 ∨ r = 4 ∨ r = 5 := by omega
  rcases this with rfl | rfl | rfl | rfl <;> rfl
theorem ranks_look (r : Fac.Rad) (w : World) (b n : Nat) (h : w.ownsMap Try.prog 3 (plainElem Try.prog 3) b n ranks) :
    (Instr.lookup 38 (.map (some b)) (.int .i64 (r.1 : Int)) false).run Try.prog w = .ok (.int .i64 (rank r.1)) w := by
  have hw : (Lit.int .i64 (r.1 : Int)).wf = true := WalkArith.wf_i64 (by have := r.2; omega)
  obtain ⟨c, hrun, hat, _⟩ := h.lookup_int law_int Try.underlying38 Try.underlying3 (zero_int w) (keyOf_int_mk Try.underlying3 hw)
  rw [ranks_at r] at hat
  have : rank r.1 = c := by simpa using hat
  rw [this]
  exact hrun

set_option maxHeartbeats 2000000 in
set_option maxRecDepth 100000 in
theorem walk_FactorFew (x y z : Int) (hx : (Lit.int .u8 x).wf = true) (hy : (Lit.int .u8 y).wf = true) (hz : (Lit.int .u8 z).wf = true) (w : World) :
    Calls Try.prog 6 #[.int .u8 x, .int .u8 y, .int .u8 z] w fun e w' => e = .returned (.bool true) ∧ Below w.heap.size w w' := by
  have x1 := u8_of hx
  have y1 := u8_of hy
  have z1 := u8_of hz
  obtain ⟨a, ha⟩ : ∃ a : Nat, x % 13 = (a : Int) := ⟨(x % 13).toNat, by omega⟩
  obtain ⟨b, hb⟩ : ∃ b : Nat, y % 8 = (b : Int) := ⟨(y % 8).toNat, by omega⟩
  obtain ⟨c, hc⟩ : ∃ c : Nat, z % 6 = (c : Int) := ⟨(z % 6).toNat, by omega⟩
  have a1 : a < 13 := by omega
  have b1 : b < 8 := by omega
  have c1 : c < 6 := by omega
  clear hx hy hz
  have hmm := @run_makeMap Try.prog
  go_enter Try.func6, Try.ntmps6
  go_wp2_with (go_at_call 7; refine (live4_any _).mono ?_; rintro e w1 ⟨rfl, hb1⟩)
  go_loop [10, 29] (fun n i => ∃ k v : Nat, k ≤ a ∧ i = .int .i64 (k : Int) ∧ n = .int .i64 (v : Int) ∧ v = 2 ^ k) (fun _ i => a - (intOf i).toNat)
  case atStart => exact ⟨0, 1, Nat.zero_le _, rfl, rfl, rfl⟩
  case round =>
    obtain ⟨k, v, hk, rfl, rfl, hv⟩ := hrel
    by_cases hlt : k < a
    · obtain ⟨u, hu⟩ : ∃ u, u = v * 2 := ⟨_, rfl⟩
      have hv' : Hid (u = 2 ^ (k + 1)) := Lib.hid (by rw [hu, hv, Nat.pow_succ])
      have vb : v ≤ 4096 := by rw [hv]; exact (p2 (by omega)).2
      have vz : (v : Int) * 2 = (u : Int) := by omega
      clear hv hu
      go_wp2
      go_round
      case rel => exact ⟨k + 1, u, by omega, by congr 1, rfl, hv'.out⟩
      case measure => simp [intOf]; omega
    · obtain rfl : k = a := by omega
      have HV := Lib.hid hv
      clear hlt hk hv
      go_wp2
      go_loop [10, 35] (fun n i => ∃ l v : Nat, l ≤ b ∧ i = .int .i64 (l : Int) ∧ n = .int .i64 (v : Int) ∧ v = 2 ^ k * 3 ^ l) (fun _ i => b - (intOf i).toNat)
      case atStart => exact ⟨0, v, Nat.zero_le _, rfl, rfl, by rw [HV.out]; simp⟩
      case round =>
        clear HV
        obtain ⟨l, v, hl, rfl, rfl, hv⟩ := hrel
        by_cases hlt : l < b
        · obtain ⟨u, hu⟩ : ∃ u, u = v * 3 := ⟨_, rfl⟩
          have hv' : Hid (u = 2 ^ k * 3 ^ (l + 1)) := Lib.hid (by rw [hu, hv, Nat.pow_succ, Nat.mul_assoc])
          have vb : v ≤ 8957952 := by rw [hv]; exact p23 a1 (by omega)
          have vz : (v : Int) * 3 = (u : Int) := by omega
          clear hv hu
          go_wp2
          go_round
          case rel => exact ⟨l + 1, u, by omega, by congr 1, rfl, hv'.out⟩
          case measure => simp [intOf]; omega
        · obtain rfl : l = b := by omega
          have HV := Lib.hid hv
          clear hlt hl hv
          go_wp2
          go_loop [10, 41] (fun n i => ∃ j v : Nat, j ≤ c ∧ i = .int .i64 (j : Int) ∧ n = .int .i64 (v : Int) ∧ v = 2 ^ k * 3 ^ l * 5 ^ j) (fun _ i => c - (intOf i).toNat)
          case atStart => exact ⟨0, v, Nat.zero_le _, rfl, rfl, by rw [HV.out]; simp⟩
          case round =>
            clear HV
            obtain ⟨j, v, hj, rfl, rfl, hv⟩ := hrel
            by_cases hlt : j < c
            · obtain ⟨u, hu⟩ : ∃ u, u = v * 5 := ⟨_, rfl⟩
              have hv' : Hid (u = 2 ^ k * 3 ^ l * 5 ^ (j + 1)) := Lib.hid (by rw [hu, hv, Nat.pow_succ, Nat.mul_assoc _ (5 ^ j) 5])
              have vb : v ≤ 27993600000 := by rw [hv]; exact p235 a1 b1 (by omega)
              have vz : (v : Int) * 5 = (u : Int) := by omega
              clear hv hu
              go_wp2
              go_round
              case rel => exact ⟨j + 1, u, by omega, by congr 1, rfl, hv'.out⟩
              case measure => simp [intOf]; omega
            · obtain rfl : j = c := by omega
              have vb : v ≤ 27993600000 := by rw [hv]; exact p235 a1 b1 c1
              by_cases hg : 4096 < v
              · have R := Lib.hid (fun w => radices_no (v : Int) w (Fac.sm_no (by omega)))
                clear hlt hj hv
                go_wp2_with (go_at_call 8; refine (R.out _).mono ?_; rintro e w2 ⟨rfl, hb2⟩)
                go_ret
                exact ⟨rfl, hb1.trans (hb2.mono hb1.size)⟩
              · obtain ⟨f1, f2, f3⟩ := few a1 b1 c1 (by rw [← hv]; omega)
                rw [← hv] at f1 f2 f3
                obtain ⟨L, hL⟩ : ∃ L, L = Fac.rads v := ⟨_, rfl⟩
                have R := Lib.hid (fun w => (radices_yes v w f1).mono (R' := fun e w' => ∃ x' cp, e = .returned (.tuple #[.slice x' L.length cp, .int .i64 0]) ∧ Reads .i64 w' w'.heap.size x' (Fac.ints L) ∧ Below w.heap.size w w') fun e w' ⟨q, he, ho, hb⟩ => by
                  obtain ⟨x', cp, rfl, _, _, hrd, _⟩ := ho.form
                  rw [← hL] at hrd he
                  rw [Fac.ints_len] at he
                  exact ⟨x', cp, he, hrd, hb⟩)
                rw [← hL] at f2 f3
                have HF := Lib.hid f3
                obtain ⟨h, hh⟩ : ∃ h, h = (k + 1) / 2 := ⟨_, rfl⟩
                have e1 : ((k : Int) + 1) / 2 = (h : Int) := by omega
                have dl : ((L.length : Int) != (h : Int) + (l : Int) + (j : Int)) = false := by rw [show (L.length : Int) = (h : Int) + (l : Int) + (j : Int) by omega]; simp
                have l1 : L.length ≤ 20 := by omega
                clear hlt hj hv f1 hL f3 f2 hh
                go_wp2_with (first
                  | (go_at_call 8; refine (R.out _).mono ?_; rintro e w2 ⟨x', cp, rfl, hrd, hb2⟩; obtain ⟨w3, w4, w5, w6, e3, e4, e5, e6, m6, g3, g4, g5, g6⟩ := ranks_made w2))
                have own : ∀ (i : Nat), some w2.heap.size = some i → w2.heap.size ≤ i := fun i e => by cases e; exact Nat.le_refl _
                have B3 : Below w2.heap.size w2 w3 := ((Below.refl _ w2).alloc (Nat.le_refl _) _).grown g3 (by simp) own
                have B6 : Below w2.heap.size w2 w6 := ((B3.grown g4 B3.size own).grown g5 (B3.grown g4 B3.size own).size own).grown g6 ((B3.grown g4 B3.size own).grown g5 (B3.grown g4 B3.size own).size own).size own
                have HX := Lib.hid (hrd.below B6)
                have HB := Lib.hid ((hb1.trans (hb2.mono hb1.size)).trans (B6.mono (Nat.le_trans hb1.size hb2.size)))
                have HM := Lib.hid (fun r => ranks_look r w6 w2.heap.size 4 m6)
                clear m6 g3 g4 g5 g6 e3 e4 e5 e6 B3 B6 hb1 hb2 hrd own R
                go_loop [13, 73] (fun s i => ∃ (n : Nat) (t : Int), n ≤ L.length ∧ i = .int .i64 (n : Int) ∧ s = .int .i64 t ∧ 0 ≤ t ∧ t ≤ 4 ∧ scan t (L.drop n) = true) (fun _ i => L.length - (intOf i).toNat)
                case atStart => exact ⟨0, 0, Nat.zero_le _, rfl, rfl, by omega, by omega, HF.out⟩
                case round =>
                  obtain ⟨n, t, hn, rfl, rfl, t0, t4, hs⟩ := hrel
                  by_cases hlt : n < L.length
                  · rw [List.drop_eq_getElem_cons hlt] at hs
                    obtain ⟨s1, s2, s3⟩ := scan_cons hs
                    obtain ⟨r0, r4⟩ := rank_bd L[n]
                    obtain ⟨bb, off, rfl, hbb, hcx⟩ := HX.out (by rw [Fac.ints_len]; omega)
                    have cx := hcx n (by rw [Fac.ints_len]; exact hlt)
                    rw [Fac.ints_get L n hlt] at cx
                    have lk := HM.out L[n]
                    obtain ⟨rk, hrk⟩ : ∃ rk, rk = rank L[n].1 := ⟨_, rfl⟩
                    rw [← hrk] at s1 s3 r0 r4 lk
                    obtain ⟨r, hr⟩ : ∃ r, r = L[n].1 := ⟨_, rfl⟩
                    rw [← hr] at cx lk s2
                    have d1 : decide (rk < t) = false := decide_eq_false (by omega)
                    have d2 : (rk == 0) = false := beq_eq_false_iff_ne.2 (by omega)
                    have HS := Lib.hid s3
                    by_cases e2 : r = 2
                    · have d3 : ((r : Int) == 2) = true := by rw [e2]; rfl
                      have d4 : (t == 2) = false := beq_eq_false_iff_ne.2 (fun e => s2 ⟨e2, e⟩)
                      clear hs s2 s3 hcx hrk hr e2
                      go_wp2
                      go_round
                      case rel => exact ⟨n + 1, rk, by omega, by congr 1, rfl, by omega, by omega, HS.out⟩
                      case measure => simp [intOf]; omega
                    · have d3 : ((r : Int) == 2) = false := beq_eq_false_iff_ne.2 (by omega)
                      clear hs s2 s3 hcx hrk hr e2
                      go_wp2
                      go_round
                      case rel => exact ⟨n + 1, rk, by omega, by congr 1, rfl, by omega, by omega, HS.out⟩
                      case measure => simp [intOf]; omega
                  · clear hs HX HM
                    go_wp2
                    go_ret
                    exact ⟨rfl, HB.out⟩

end Go.Proofs.Ytgiahljjdpbflaa
