/-
  What shape.Line comes to.
-/
import Derived.Test.YtpaaggmepaflcaaPlaces
namespace Go.Proofs.Ytpaaggmepaflcaa
open Go.RowKit

/-- It returns a list, in memory of its own, and an error's number. -/
def RetL (xs : List Int) (er : Int) (w : World) (e : Ending) (w' : World) : Prop := ∃ v, e = .returned (.tuple #[v, .int .i64 er]) ∧ Owns .i64 3 w' w.heap.size v xs ∧ Below w.heap.size w w'
theorem RetL.none (er : Int) (w : World) : RetL [] er w (.returned (.tuple #[.slice none 0 0, .int .i64 er])) w := ⟨_, rfl, Owns.nil, Below.refl _ _⟩

/-- The same, where the list is not empty: its row has an address. -/
def RetO (xs : List Int) (n : Nat) (er : Int) (w : World) (e : Ending) (w' : World) : Prop := ∃ g cap, e = .returned (.tuple #[.slice (some ⟨g, 0, none⟩) n cap, .int .i64 er]) ∧ w.heap.size ≤ g ∧ g < w'.heap.size ∧ n ≤ cap ∧ cap ≤ maxLen ∧ Owns .i64 3 w' w.heap.size (.slice (some ⟨g, 0, none⟩) n cap) xs ∧ Reads .i64 w' w'.heap.size (some ⟨g, 0, none⟩) xs ∧ Below w.heap.size w w'

theorem RetL.open {xs : List Int} {n : Nat} {er : Int} {w w' : World} {e : Ending} (h : RetL xs er w e w') (hn : xs.length = n) (h0 : 0 < n) : RetO xs n er w e w' := by
  subst hn
  obtain ⟨v, rfl, hO, hB⟩ := h
  obtain ⟨x, cap, rfl, h1, h2, h3, h4⟩ := hO.form
  obtain ⟨g, rfl, h5, h6⟩ := h4 h0
  exact ⟨g, cap, rfl, h5, h6, h1, h2, hO, h3, hB⟩

theorem Owns.cell {k : IntKind} {e : TypeId} {w : World} {base g n cap : Nat} {xs : List Int} (h : Owns k e w base (.slice (some ⟨g, 0, none⟩) n cap) xs) (j : Nat) (hj : j < xs.length) : w.cell? ⟨g, j, none⟩ = some (.int k (xs.getD j 0)) := by
  have hn : xs.length = n := by
    rcases h.2 with ⟨e1, _⟩ | ⟨g', cap', cur, e1, _⟩
    · cases e1
    · cases e1; rfl
  unfold Owns at h
  rw [hn] at h
  rw [World.ownsRow.cellAt h j (by omega)]
  simp [List.getD_eq_getElem?_getD, hj]
theorem Owns.unfrozen {k : IntKind} {e : TypeId} {w : World} {base g n cap : Nat} {xs : List Int} (h : Owns k e w base (.slice (some ⟨g, 0, none⟩) n cap) xs) (hn : xs.length = n) (j : Nat) : w.frozen? ⟨g, j, none⟩ = false := by
  subst hn
  exact World.ownsRow.frozenAt h j

theorem Owns.reads {k : IntKind} {e : TypeId} {w : World} {base n cap : Nat} {x : Option Addr} {xs : List Int} (h : Owns k e w base (.slice x n cap) xs) : Reads k w w.heap.size x xs := by
  obtain ⟨x', c', e', _, _, hrd, _⟩ := h.form
  injection e' with e1
  rw [e1]
  exact hrd

/-- The places of the k-th line of axis a. -/
def lineOf (ns : List Nat) (a k : Nat) : List Int := (List.range (ns.getD a 0)).map fun j => ((Sh.first (Sh.prod (ns.drop (a + 1))) (ns.getD a 0) k + j * Sh.prod (ns.drop (a + 1)) : Nat) : Int)

theorem line_no (ds : List Int) (no : Sh.No ds) (a k : Int) (x : Option Addr) (n cap : Nat) (w : World) (B : Nat) (hx : Reads .i64 w B x ds) (hn : ds.length = n) :
    Calls Try.prog 16 #[.slice x n cap, .int .i64 a, .int .i64 k] w (RetL [] 3 w) := by
  have HA := Lib.hid (inner_no ds no a x n cap w B hx hn)
  clear no hx hn
  go_enter Try.func16, Try.ntmps16
  go_wp2_with (go_at_call 14; refine HA.out.mono ?_; rintro e w' ⟨rfl, rfl⟩)
  go_ret2
  exact RetL.none _ _

theorem line_axis (ns : List Nat) (ok : Sh.Ok ns) (a k : Int) (ha : ¬ (0 ≤ a ∧ a < (ns.length : Int))) (x : Option Addr) (n cap : Nat) (w : World) (B : Nat) (hx : Reads .i64 w B x (Sh.ints ns)) (hn : ns.length = n) :
    Calls Try.prog 16 #[.slice x n cap, .int .i64 a, .int .i64 k] w (RetL [] 1 w) := by
  have HA := Lib.hid (inner_arg ns ok a ha x n cap w B hx hn)
  clear ok hx ha hn
  go_enter Try.func16, Try.ntmps16
  go_wp2_with (go_at_call 14; refine HA.out.mono ?_; rintro e w' ⟨rfl, rfl⟩)
  go_ret2
  exact RetL.none _ _

set_option maxHeartbeats 1000000 in
theorem line_arg (ns : List Nat) (ok : Sh.Ok ns) (a : Nat) (k : Int) (ha : a < ns.length) (hk : ¬ (0 ≤ k ∧ k < ((Sh.prod ns / ns.getD a 0 : Nat) : Int))) (x : Option Addr) (n cap : Nat) (w : World) (B : Nat) (hx : Reads .i64 w B x (Sh.ints ns)) (hn : ns.length = n) (hc : n ≤ cap) :
    Calls Try.prog 16 #[.slice x n cap, .int .i64 (a : Int), .int .i64 k] w (RetL [] 1 w) := by
  subst hn
  have HA := Lib.hid (all_ok ns ok x _ cap w B hx rfl)
  have HI := Lib.hid (inner_ok ns ok a ha x _ cap w B hx rfl hc)
  obtain ⟨b, off, rfl, hb, hcx⟩ := hx (by rw [Sh.ints_len]; omega)
  have c1 := hcx a (by rw [Sh.ints_len]; exact ha)
  rw [Sh.ints_get] at c1
  have h4 := ok.four
  have p1 := ok.le
  have p2 := ok.pos_at ha
  have p3 := ok.le_at ha
  obtain ⟨P, hP⟩ : ∃ P, P = Sh.prod ns := ⟨_, rfl⟩
  obtain ⟨L, hL⟩ : ∃ L, L = ns.getD a 0 := ⟨_, rfl⟩
  obtain ⟨I, hI⟩ : ∃ I, I = Sh.prod (ns.drop (a + 1)) := ⟨_, rfl⟩
  rw [← hP] at HA p1 hk
  rw [← hL] at c1 p2 p3 hk
  rw [← hI] at HI
  obtain ⟨t, ht⟩ : ∃ t, t = P / L := ⟨_, rfl⟩
  rw [← ht] at hk
  have q1 : (P : Int) / (L : Int) = (t : Int) := by rw [ht]; exact cast_div P L
  have q2 : (L : Int) ≠ 0 := by omega
  have q3 : t ≤ P := by rw [ht]; exact Nat.div_le_self _ _
  clear hP hL hI ht hcx hx ok
  by_cases h0 : k < 0
  · have d1 : decide (k < 0) = true := by simpa using h0
    clear hk
    go_enter Try.func16, Try.ntmps16
    go_wp2_with (first
      | (go_at_call 14; refine HI.out.mono ?_; rintro e w' ⟨rfl, rfl⟩)
      | (go_at_call 8; refine HA.out.mono ?_; rintro e w' ⟨rfl, rfl⟩))
    go_ret2
    exact RetL.none _ _
  · have d1 : decide (k < 0) = false := by simpa using h0
    have d2 : decide ((t : Int) ≤ k) = true := by simp; omega
    clear hk
    go_enter Try.func16, Try.ntmps16
    go_wp2_with (first
      | (go_at_call 14; refine HI.out.mono ?_; rintro e w' ⟨rfl, rfl⟩)
      | (go_at_call 8; refine HA.out.mono ?_; rintro e w' ⟨rfl, rfl⟩))
    go_ret2
    exact RetL.none _ _

set_option maxRecDepth 100000 in
set_option maxHeartbeats 2000000 in
theorem line_ok (ns : List Nat) (ok : Sh.Ok ns) (a k : Nat) (ha : a < ns.length) (hk : k < Sh.prod ns / ns.getD a 0) (x : Option Addr) (n cap : Nat) (w : World) (B : Nat) (hx : Reads .i64 w B x (Sh.ints ns)) (hn : ns.length = n) (hc : n ≤ cap) :
    Calls Try.prog 16 #[.slice x n cap, .int .i64 (a : Int), .int .i64 (k : Int)] w (RetL (lineOf ns a k) 0 w) := by
  subst hn
  have HA := Lib.hid (all_ok ns ok x _ cap w B hx rfl)
  have HI := Lib.hid (inner_ok ns ok a ha x _ cap w B hx rfl hc)
  obtain ⟨b, off, rfl, hb, hcx⟩ := hx (by rw [Sh.ints_len]; omega)
  have c1 := hcx a (by rw [Sh.ints_len]; exact ha)
  rw [Sh.ints_get] at c1
  have h4 := ok.four
  have p1 := ok.le
  have p2 := ok.pos_at ha
  have p3 := ok.le_at ha
  have p4 := ok.pos_drop (a + 1)
  have p5 := ok.le_drop (a + 1)
  have hk' := hk
  rw [Sh.parts_div ok a ha] at hk'
  have hlt := fun (j : Nat) (hj : j < ns.getD a 0) => Sh.at_lt hk' hj
  rw [← Sh.parts ns a ha] at hlt
  unfold lineOf
  obtain ⟨P, hP⟩ : ∃ P, P = Sh.prod ns := ⟨_, rfl⟩
  obtain ⟨L, hL⟩ : ∃ L, L = ns.getD a 0 := ⟨_, rfl⟩
  obtain ⟨I, hI⟩ : ∃ I, I = Sh.prod (ns.drop (a + 1)) := ⟨_, rfl⟩
  rw [← hP] at HA p1 hk hlt
  rw [← hL] at c1 p2 p3 hk hlt ⊢
  rw [← hI] at HI p4 p5 hlt ⊢
  obtain ⟨t, ht⟩ : ∃ t, t = P / L := ⟨_, rfl⟩
  rw [← ht] at hk
  have q1 : (P : Int) / (L : Int) = (t : Int) := by rw [ht]; exact cast_div P L
  have q2 : (L : Int) ≠ 0 := by omega
  have q3 : t ≤ P := by rw [ht]; exact Nat.div_le_self _ _
  have q4 : (I : Int) ≠ 0 := by omega
  have d1 : decide ((k : Int) < 0) = false := by simp
  have d2 : decide ((t : Int) ≤ (k : Int)) = false := by simp; omega
  obtain ⟨z1, hz1⟩ : ∃ z, z = k / I := ⟨_, rfl⟩
  obtain ⟨z2, hz2⟩ : ∃ z, z = z1 * I := ⟨_, rfl⟩
  obtain ⟨z3, hz3⟩ : ∃ z, z = z2 * L := ⟨_, rfl⟩
  obtain ⟨z4, hz4⟩ : ∃ z, z = k % I := ⟨_, rfl⟩
  obtain ⟨F, hF⟩ : ∃ F, F = Sh.first I L k := ⟨_, rfl⟩
  have hF' : z3 + z4 = F := by rw [hF, hz3, hz4, hz2, hz1]; rfl
  rw [← hF] at hlt ⊢
  have hF0 := hlt 0 (by omega)
  have g1 : (k : Int) / (I : Int) = (z1 : Int) := by rw [hz1]; exact cast_div k I
  have g2 : (z1 : Int) * (I : Int) = (z2 : Int) := by rw [hz2, Int.natCast_mul]
  have g3 : (z2 : Int) * (L : Int) = (z3 : Int) := by rw [hz3, Int.natCast_mul]
  have g4 : (k : Int) % (I : Int) = (z4 : Int) := by rw [hz4]; exact cast_mod k I
  have g5 : (z3 : Int) + (z4 : Int) = (F : Int) := by omega
  have b1 : z1 ≤ k := by rw [hz1]; exact Nat.div_le_self _ _
  have b2 : z2 ≤ 4096 := by
    have : z2 ≤ k := by rw [hz2, hz1]; exact Nat.div_mul_le_self _ _
    omega
  have HLT := Lib.hid hlt
  obtain ⟨i0, hi, hy0, hy1, hy2⟩ := info_parts info_int
  have HY2 := Lib.hid hy2
  clear hP hL hI ht hcx hx ok hk' hz1 hz2 hz3 hz4 hF hlt hy2
  go_enter Try.func16, Try.ntmps16
  go_wp2_with (first
    | (go_at_call 14; refine HI.out.mono ?_; rintro e w' ⟨rfl, rfl⟩)
    | (go_at_call 8; refine HA.out.mono ?_; rintro e w' ⟨rfl, rfl⟩))
  go_quiet (fail)
  go_wp2_with (at_make; refine wpList_make_full _ rfl _ _ 22 rfl w.heap.size 3 i0 (.int .i64 0) 1 Try.underlying22 hi hy0 hy1 .i64 .i64 _ _ L rfl rfl rfl rfl (by rw [HY2.out]; omega) (by unfold maxLen; omega) (Nat.le_refl _) ?_; intro w1 hown hgrow)
  have hst := Half.start (f := fun j => ((F + j * I : Nat) : Int)) hown
  have hbl := (below_draws (Below.refl w.heap.size w) nq).grown hgrow (Nat.le_refl _) (fun k e => by cases e)
  clear hown hgrow hi hy0 hy1
  go_loopw [58] (fun i wr => ∃ j : Nat, j ≤ L ∧ i = .int .i64 (j : Int) ∧ Half .i64 3 wr w.heap.size w.heap.size L (fun j => ((F + j * I : Nat) : Int)) (fun _ => 0) j ∧ Below w.heap.size w wr) (fun i _ => L - (intOf i).toNat)
  case atStart => exact ⟨0, Nat.zero_le _, rfl, hst, hbl⟩
  case round =>
    obtain ⟨j, hj, rfl, hH, hB⟩ := hrel
    by_cases hlt : j < L
    · have hs := hH.step
      have hsB := hB.setCell (p := ⟨w.heap.size, j, none⟩) (Nat.le_refl _) (.int .i64 ((F + j * I : Nat) : Int))
      have hcn := hH.cellNext hlt
      have hf := hH.frozen j
      have hg := hH.lt.2
      have hl1 := HLT.out j hlt
      obtain ⟨r, hr⟩ : ∃ r, r = j * I := ⟨_, rfl⟩
      obtain ⟨s, hs'⟩ : ∃ s, s = F + r := ⟨_, rfl⟩
      rw [← hr, ← hs'] at hs hsB hl1
      have m1 : (j : Int) * (I : Int) = (r : Int) := by rw [hr, Int.natCast_mul]
      have m2 : (F : Int) + (r : Int) = (s : Int) := by rw [hs', Int.natCast_add]
      have HS := Lib.hid hs
      have HB := Lib.hid hsB
      have m3 : r ≤ 4096 := by omega
      clear hr hs' hH hB hs hsB HLT hst hbl
      go_wp2
      go_roundw
      case rel => exact ⟨j + 1, by omega, by congr 1, HS.out, HB.out⟩
      case measure => simp [intOf]; omega
    · obtain rfl : j = L := by omega
      have hR : RetL ((List.range j).map fun j => ((F + j * I : Nat) : Int)) 0 w (.returned (.tuple #[.slice (some ⟨w.heap.size, 0, none⟩) j j, .int .i64 0])) wr := ⟨_, rfl, hH.all, hB⟩
      clear hH hB HLT hst hbl
      go_wp2
      go_ret2
      exact hR

end Go.Proofs.Ytpaaggmepaflcaa
