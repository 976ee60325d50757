/-
  What geom.Roots comes to, over every input: how many different numbers by p among the seeds make a list nothing, or why not. Seeds that were met are kept in a map.
-/
import Derived.Test.YtancfpekiecoiaaGeomEval
import Derived.Maps.OwnSet
import Derived.Maps.Views
import Derived.WalkSpells
namespace Go.Proofs.Ytancfpekiecoiaa
open Go.RowKit Go.Maps

/-! A map of words to bools. -/
theorem law_u64 : Keyed Try.prog 22 := int_keyed Try.underlying22
theorem zero_bool (w : World) : (zeroValue 4).run Try.prog w = .ok (.bool false) w := by kernel_rfl
theorem plainElem_bool_inv {v : Value} {x : Bool} {ps : List MemPlace} (h : plainElem (H := Unit) Try.prog 4 v = some (.lit (.bool x), ps)) : v = .bool x := by
  unfold plainElem at h
  rw [Try.underlying4] at h
  cases v <;> simp at h
  rw [h.1]
theorem u64_wf {a : Int} (h0 : 0 ≤ a) (h1 : a < 18446744073709551616) : (Lit.int .u64 a).wf = true := WalkArith.wf_u64 ⟨h0, by omega⟩

/-- Block b is a map of at most n words that reads as D. -/
def Marks (w : World) (b n : Nat) (D : DataW Unit) : Prop := w.ownsMap Try.prog 22 (plainElem Try.prog 4) b n D
theorem Marks.below {w w' : World} {b n : Nat} {D : DataW Unit} (h : Marks w b n D) (hb : Below w.heap.size w w') : Marks w' b n D := by
  have hlt := World.ownsMap.lt h
  obtain ⟨es, clock, h1, h2⟩ := h
  exact ⟨es, clock, (hb.block b hlt).trans h1, h2⟩

/-- The map D tells of a number whether one of the first k seeds is it, by p. -/
def Seen (p : Int) (ss : List Int) (k : Nat) (D : DataW Unit) : Prop := ∀ a : Int, D.atKey (.int .u64 a) (.lit (.bool false)) = .lit (.bool ((List.range k).any fun j => Fp.red p (ss.getD j 0) == a))
theorem Seen.zero (p : Int) (ss : List Int) : Seen p ss 0 (.map []) := fun _ => rfl
theorem Seen.again {p : Int} {ss : List Int} {k : Nat} {D : DataW Unit} (h : Seen p ss k D) (hm : Fp.met p ss k = true) : Seen p ss (k + 1) D := fun a => by
  rw [h a, List.range_succ, List.any_append, List.any_cons, List.any_nil, Bool.or_false]
  by_cases e : Fp.red p (ss.getD k 0) = a
  · subst e
    unfold Fp.met at hm
    rw [hm, Bool.true_or]
  · rw [beq_eq_false_iff_ne.2 e, Bool.or_false]
theorem Seen.put {p : Int} {ss : List Int} {k : Nat} {D : DataW Unit} (h : Seen p ss k D) (hD : IsMap D) : Seen p ss (k + 1) (D.put (.int .u64 (Fp.red p (ss.getD k 0))) (.lit (.bool true))) := fun a => by
  rw [List.range_succ, List.any_append, List.any_cons, List.any_nil, Bool.or_false]
  by_cases e : Fp.red p (ss.getD k 0) = a
  · subst e
    rw [atKey_put_same hD (by exact trivial), beq_self_eq_true, Bool.or_true]
  · rw [atKey_put_other (by intro e'; cases e'; exact e rfl), h a, beq_eq_false_iff_ne.2 e, Bool.or_false]

theorem marks_look {p : Int} {ss : List Int} {k n b : Nat} {D : DataW Unit} {w : World} (h : Marks w b n D) (hs : Seen p ss k D) :
    (Instr.lookup 42 (.map (some b)) (.int .u64 (Fp.red p (ss.getD k 0))) false).run Try.prog w = .ok (.bool (Fp.met p ss k)) w := by
  obtain ⟨r0, r1, -⟩ := Fp.red_bd p (ss.getD k 0)
  obtain ⟨v, ps, hrun, hv⟩ := World.ownsMap.lookup h law_u64 Try.underlying42 (zero_bool w) (plainElem_bool Try.underlying4 false) (keyOf_int_mk Try.underlying22 (u64_wf r0 (by omega)))
  rw [hs] at hv
  rw [hrun, plainElem_bool_inv hv]
  rfl
theorem marks_put {p : Int} {ss : List Int} {k n b : Nat} {D : DataW Unit} {w : World} (h : Marks w b n D) (hs : Seen p ss k D) (hn : n ≤ 65536) :
    ∃ w' D', (Instr.mapUpdate 42 (.map (some b)) (.int .u64 (Fp.red p (ss.getD k 0))) (.bool true)).run Try.prog w = .ok () w' ∧ Marks w' b (n + 1) D' ∧ Seen p ss (k + 1) D' ∧ w.grownBy w' (some b) := by
  obtain ⟨r0, r1, -⟩ := Fp.red_bd p (ss.getD k 0)
  obtain ⟨w', e, m, g⟩ := World.ownsMap.update h law_u64 Try.underlying42 (by unfold maxLen; omega) (keyOf_int_mk Try.underlying22 (u64_wf r0 (by omega))) (plainElem_bool Try.underlying4 true)
  exact ⟨w', _, e, m, hs.put (World.ownsMap.isMap h), g⟩

/-- What is wrong with a prime, a list of n numbers and m seeds. -/
def rootsE (p : Int) (n m : Nat) : Int := if Fp.kn p = true then if 65536 < n ∨ 65536 < m then 1 else 0 else 2
/-- How many, or 0. -/
def rootsN (p : Int) (xs ss : List Int) : Nat := if rootsE p xs.length ss.length = 0 then Fp.rts p xs ss ss.length else 0
theorem rootsE_ok {p : Int} {n m : Nat} (h : Fp.kn p = true) (h1 : n ≤ 65536) (h2 : m ≤ 65536) : rootsE p n m = 0 := by unfold rootsE; rw [if_pos h, if_neg (by omega)]
theorem rootsE_no {p : Int} {n m : Nat} (h : Fp.kn p = false) : rootsE p n m = 2 := by unfold rootsE; rw [if_neg (by simp [h])]
theorem rootsE_bad {p : Int} {n m : Nat} (h : Fp.kn p = true) (hn : 65536 < n ∨ 65536 < m) : rootsE p n m = 1 := by unfold rootsE; rw [if_pos h, if_pos hn]
theorem rootsN_ok {p : Int} {xs ss : List Int} (h : rootsE p xs.length ss.length = 0) : rootsN p xs ss = Fp.rts p xs ss ss.length := by unfold rootsN; rw [if_pos h]
theorem rootsN_no {p : Int} {xs ss : List Int} (h : rootsE p xs.length ss.length ≠ 0) : rootsN p xs ss = 0 := by unfold rootsN; rw [if_neg h]

set_option maxRecDepth 100000 in
set_option maxHeartbeats 2000000 in
theorem roots_yes (p : Int) (x y : Option Addr) (n m cap cap' : Nat) (xs ss : List Int) (w : World) (h : Fp.kn p = true) (hx : Reads .u64 w w.heap.size x xs) (hy : Reads .u64 w w.heap.size y ss) (hn : xs.length = n) (hm : ss.length = m) (hw : Words xs) (hw' : Words ss) (hl : n ≤ 65536) (hl' : m ≤ 65536) :
    Calls Try.prog 12 #[.int .u64 p, .slice x n cap, .slice y m cap'] w (RetB (.tuple #[.int .i64 (Fp.rts p xs ss m : Nat), .int .i64 0]) w) := by
  have hd1 : decide (65536 < (n : Int)) = false := by simp; omega
  have hd2 : decide (65536 < (m : Int)) = false := by simp; omega
  have HE := Lib.hid (fun W r (hB : Below w.heap.size w W) (r0 : 0 ≤ r) (r1 : r < 18446744073709551616) => geval_any p r x n cap xs W h ((hx.below hB).more hB.size) hn hw hl r0 r1)
  have H := Lib.hid h
  have HY := Lib.hid hy
  have HW := Lib.hid hw'
  have HM := Lib.hid hm
  have HR := Lib.hid (fun k => Fp.rts_succ p xs ss k)
  have HRL := Lib.hid (fun k => Fp.rts_le p xs ss k)
  have HER := Lib.hid (fun r => Fp.ev_red h xs r)
  clear h hx hy hw hw' hm hn
  have hmm := @run_makeMap Try.prog
  go_enter Try.func12, Try.ntmps12
  go_wp2_with (go_at_call 14; refine (known_yes p _ H.out).mono ?_; rintro e w' ⟨rfl, rfl⟩)
  have m0 : Marks (w.alloc (.map #[] 0)) w.heap.size 0 (.map []) := World.ownsMap_made _ _ _ _
  have b0 := below_al (Below.refl _ w) (.map #[] 0)
  go_loopw [8, 27] (fun v i wr => ∃ (k : Nat) (D : DataW Unit), k ≤ m ∧ i = .int .i64 (k : Int) ∧ v = .int .i64 ((Fp.rts p xs ss k : Nat) : Int) ∧ Hid (Marks wr w.heap.size k D ∧ Seen p ss k D ∧ Below w.heap.size w wr)) (fun _ i _ => m - (intOf i).toNat)
  case atStart => exact ⟨0, _, Nat.zero_le _, rfl, rfl, Lib.hid ⟨m0, Seen.zero p ss, b0⟩⟩
  case round =>
    obtain ⟨k, D, hk, rfl, rfl, HI⟩ := hrel
    have hkr := HRL.out k
    by_cases hlt : k < m
    · have hdk : decide (k < m) = true := by simpa using hlt
      obtain ⟨hM, hS, hB⟩ := HI.out
      obtain ⟨b, off, rfl, hb, hcy⟩ := HY.out (by have := HM.out; omega)
      have hy1 := (hB.cell (p := ⟨b, off + k, none⟩) hb).trans (hcy k (by have := HM.out; omega))
      obtain ⟨u0, u1⟩ := HW.out k
      have hlk := marks_look hM hS
      obtain ⟨w2, D2, e2, hM2, hS2, hg2⟩ := marks_put hM hS (by omega)
      have hB2 : Below w.heap.size w w2 := hB.grown hg2 hB.size (fun i e => by cases e; exact Nat.le_refl _)
      have hR := HR.out k
      have hER := HER.out (ss.getD k 0)
      obtain ⟨v0, v1, -⟩ := Fp.red_bd p (ss.getD k 0)
      have HC := Lib.hid (HE.out w2 (Fp.red p (ss.getD k 0)) hB2 v0 (by omega))
      rw [hER] at HC
      obtain ⟨u, hu⟩ : ∃ u, u = ss.getD k 0 := ⟨_, rfl⟩
      rw [← hu] at hy1 u0 u1 hlk e2 hR HC v0 v1
      obtain ⟨c, hc⟩ : ∃ c, c = Fp.rts p xs ss k := ⟨_, rfl⟩
      rw [← hc] at hR hkr
      simp only [← hc]
      have HR' := Lib.hid hR
      cases hmt : Fp.met p ss k with
      | true =>
        have HS2 := Lib.hid (hS.again hmt)
        have HM2 := Lib.hid (World.ownsMap.mono hM (Nat.le_succ k))
        have HB := Lib.hid hB
        rw [hmt] at hlk
        have HMT := Lib.hid hmt
        clear hM hS hB hM2 hS2 hB2 hg2 hcy hmt e2 hR hER HC m0 b0 hc hu
        go_wp2_with (go_at_call 20; refine (reduce_any _ _ _ (by omega) (by omega)).mono ?_; rintro e w' ⟨rfl, rfl⟩)
        go_roundw
        case rel => exact ⟨k + 1, D, by omega, by go_num, by rw [HR'.out, HMT.out]; simp, Lib.hid ⟨HM2.out, HS2.out, HB.out⟩⟩
        case measure => simp [intOf]; omega
      | false =>
        have HS2 := Lib.hid hS2
        have HM2 := Lib.hid hM2
        have HB2 := Lib.hid hB2
        rw [hmt] at hlk
        have HMT := Lib.hid hmt
        by_cases hz : Fp.ev p xs u = 0
        · rw [hz] at HC
          have HZ := Lib.hid hz
          clear hM hS hB hM2 hS2 hB2 hg2 hcy hmt hR hER m0 b0 hc hu hz
          go_wp2_with (first
            | (go_at_call 20; refine (reduce_any _ _ _ (by omega) (by omega)).mono ?_; rintro e w' ⟨rfl, rfl⟩)
            | (go_at_call 23; refine HC.out.mono ?_; rintro e w3 ⟨rfl, b3⟩; have B3 := Lib.hid b3; clear b3))
          go_roundw
          case rel => exact ⟨k + 1, D2, by omega, by go_num, by rw [HR'.out, HMT.out, HZ.out]; simp, Lib.hid ⟨HM2.out.below B3.out, HS2.out, HB2.out.trans (B3.out.mono HB2.out.size)⟩⟩
          case measure => simp [intOf]; omega
        · have hz' : (Fp.ev p xs u == 0) = false := beq_eq_false_iff_ne.2 hz
          have HZ := Lib.hid hz'
          clear hM hS hB hM2 hS2 hB2 hg2 hcy hmt hR hER m0 b0 hc hu hz
          go_wp2_with (first
            | (go_at_call 20; refine (reduce_any _ _ _ (by omega) (by omega)).mono ?_; rintro e w' ⟨rfl, rfl⟩)
            | (go_at_call 23; refine HC.out.mono ?_; rintro e w3 ⟨rfl, b3⟩; have B3 := Lib.hid b3; clear b3))
          go_roundw
          case rel => exact ⟨k + 1, D2, by omega, by go_num, by rw [HR'.out, HMT.out, HZ.out]; simp, Lib.hid ⟨HM2.out.below B3.out, HS2.out, HB2.out.trans (B3.out.mono HB2.out.size)⟩⟩
          case measure => simp [intOf]; omega
    · obtain rfl : k = m := by omega
      have HB := Lib.hid HI.out.2.2
      clear HI HE HR HRL HER m0 b0
      go_wp2
      go_ret2
      exact ⟨rfl, HB.out⟩

set_option maxRecDepth 100000 in
set_option maxHeartbeats 1000000 in
theorem Roots_any (p : Int) (x y : Option Addr) (n m cap cap' : Nat) (xs ss : List Int) (w : World) (hx : Reads .u64 w w.heap.size x xs) (hy : Reads .u64 w w.heap.size y ss) (hn : xs.length = n) (hm : ss.length = m) (hw : Words xs) (hw' : Words ss) (hl : n ≤ 140737488355328) (hl' : m ≤ 140737488355328) :
    Calls Try.prog 12 #[.int .u64 p, .slice x n cap, .slice y m cap'] w (RetB (.tuple #[.int .i64 (rootsN p xs ss : Nat), .int .i64 (rootsE p n m)]) w) := by
  subst hn
  subst hm
  cases h : Fp.kn p
  · rw [rootsN_no (by rw [rootsE_no h]; decide), rootsE_no h]
    have H := Lib.hid h
    clear h hx hy hw hw'
    go_enter Try.func12, Try.ntmps12
    go_wp2_with (go_at_call 14; refine (known_no p _ H.out).mono ?_; rintro e w' ⟨rfl, rfl⟩)
    go_ret2
    exact ⟨rfl, Below.refl _ _⟩
  · by_cases hb : 65536 < xs.length
    · rw [rootsN_no (by rw [rootsE_bad h (.inl hb)]; decide), rootsE_bad h (.inl hb)]
      have H := Lib.hid h
      have hd : decide (65536 < (xs.length : Int)) = true := by simp; omega
      clear h hx hy hw hw'
      go_enter Try.func12, Try.ntmps12
      go_wp2_with (go_at_call 14; refine (known_yes p _ H.out).mono ?_; rintro e w' ⟨rfl, rfl⟩)
      go_ret2
      exact ⟨rfl, Below.refl _ _⟩
    · by_cases hb' : 65536 < ss.length
      · rw [rootsN_no (by rw [rootsE_bad h (.inr hb')]; decide), rootsE_bad h (.inr hb')]
        have H := Lib.hid h
        have hd : decide (65536 < (xs.length : Int)) = false := by simp; omega
        have hd' : decide (65536 < (ss.length : Int)) = true := by simp; omega
        clear h hx hy hw hw'
        go_enter Try.func12, Try.ntmps12
        go_wp2_with (go_at_call 14; refine (known_yes p _ H.out).mono ?_; rintro e w' ⟨rfl, rfl⟩)
        go_ret2
        exact ⟨rfl, Below.refl _ _⟩
      · have hE := rootsE_ok (n := xs.length) (m := ss.length) h (by omega) (by omega)
        rw [rootsN_ok hE, hE]
        exact roots_yes p x y _ _ cap cap' xs ss w h hx hy rfl rfl hw hw' (by omega) (by omega)

end Go.Proofs.Ytancfpekiecoiaa
