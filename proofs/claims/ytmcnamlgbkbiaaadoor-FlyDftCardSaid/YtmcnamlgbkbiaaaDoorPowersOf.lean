/-
  The closures of package dft that tell which power a word goes by, and dft.powersOf, which makes them.
-/
import Derived.Test.YtmcnamlgbkbiaaaDoorSums
namespace Go.Proofs.YtmcnamlgbkbiaaaDoor
open Go.RowKit Go.Shelf

theorem pws_get (p a : Int) (n i : Nat) (hi : i < n) : (pws p a n).getD i 0 = Fp.pw p a i := by simp [pws, hi]

/-- What the closure reads: the table of powers, and how many there are. -/
def Table (W : World) (Bp Bo : Nat) (p r : Int) (o : Nat) : Prop :=
  ∃ g cap, W.cell? ⟨Bp, 0, none⟩ = some (.slice (some ⟨g, 0, none⟩) o cap) ∧ W.cell? ⟨Bo, 0, none⟩ = some (.int .i64 (o : Int)) ∧ ∀ i, i < o → W.cell? ⟨g, i, none⟩ = some (.int .u64 (Fp.pw p r i))

set_option maxHeartbeats 1000000 in
theorem powersOf1_any (Bp Bo : Nat) (p r : Int) (n j k : Nat) (W : World) (hT : Table W Bp Bo p r (2 * n)) (h1 : 1 ≤ n) (h2 : n ≤ 4096) (hj : j < n) (hk : k < n) :
    Calls Tryd.prog 57 #[.int .i64 (j : Int), .int .i64 (k : Int), .pointer (some ⟨Bp, 0, none⟩), .pointer (some ⟨Bo, 0, none⟩)] W (RetQ (.int .u64 (Fp.pw p r (Fp.ex true j k % (2 * n)))) W) := by
  obtain ⟨g, cap, c1, c2, c3⟩ := hT
  obtain ⟨o, ho⟩ : ∃ o, o = 2 * n := ⟨_, rfl⟩
  rw [← ho] at c1 c2 c3 ⊢
  obtain ⟨u, hu⟩ : ∃ u, u = Fp.ex true j k := ⟨_, rfl⟩
  obtain ⟨a, ha⟩ : ∃ a : Nat, (2 : Int) * (k : Int) = (a : Int) := ⟨2 * k, by omega⟩
  obtain ⟨b, hb⟩ : ∃ b : Nat, (a : Int) + 1 = (b : Int) := ⟨a + 1, by omega⟩
  have hz : (j : Int) * (b : Int) = (u : Int) := by rw [hu, ← hb, ← ha]; simp [Fp.ex]
  have hab : a ≤ 8192 ∧ b ≤ 8193 := by omega
  obtain ⟨hab1, hab2⟩ := hab
  have hub : u ≤ 4096 * 8192 := by
    rw [hu]
    simp only [Fp.ex, if_true]
    exact Nat.mul_le_mul (by omega) (by omega)
  obtain ⟨i, hi⟩ : ∃ i, i = u % o := ⟨_, rfl⟩
  have hlt : i < o := by rw [hi]; exact Nat.mod_lt _ (by omega)
  have hcm : (u : Int) % (o : Int) = (i : Int) := by rw [hi]; exact cast_mod u o
  have c4 := c3 i hlt
  rw [← hu, ← hi]
  have ho0 : (o : Int) ≠ 0 := by omega
  have hob : o ≤ 8192 := by omega
  clear c3 hu hi ho
  go_enter Tryd.func57, Tryd.ntmps57
  go_wp2
  go_quiet (fail)
  go_wp2
  go_ret
  exact ⟨rfl, _, rfl⟩

set_option maxHeartbeats 1000000 in
theorem powersOf2_any (Bp Bo : Nat) (p r : Int) (n j k : Nat) (W : World) (hT : Table W Bp Bo p r n) (h1 : 1 ≤ n) (h2 : n ≤ 4096) (hj : j < n) (hk : k < n) :
    Calls Tryd.prog 58 #[.int .i64 (j : Int), .int .i64 (k : Int), .pointer (some ⟨Bp, 0, none⟩), .pointer (some ⟨Bo, 0, none⟩)] W (RetQ (.int .u64 (Fp.pw p r (Fp.ex false j k % n))) W) := by
  obtain ⟨g, cap, c1, c2, c3⟩ := hT
  obtain ⟨u, hu⟩ : ∃ u, u = Fp.ex false j k := ⟨_, rfl⟩
  have hz : (j : Int) * (k : Int) = (u : Int) := by rw [hu]; simp [Fp.ex]
  have hub : u ≤ 4096 * 4096 := by
    rw [hu]
    simp only [Fp.ex, Bool.false_eq_true, if_false]
    exact Nat.mul_le_mul (by omega) (by omega)
  obtain ⟨i, hi⟩ : ∃ i, i = u % n := ⟨_, rfl⟩
  have hlt : i < n := by rw [hi]; exact Nat.mod_lt _ (by omega)
  have hcm : (u : Int) % (n : Int) = (i : Int) := by rw [hi]; exact cast_mod u n
  have c4 := c3 i hlt
  rw [← hu, ← hi]
  have ho0 : (n : Int) ≠ 0 := by omega
  clear c3 hu hi
  go_enter Tryd.func58, Tryd.ntmps58
  go_wp2
  go_quiet (fail)
  go_wp2
  go_ret
  exact ⟨rfl, _, rfl⟩

/-- The power that word j goes by in sum k, out of a table of all powers. -/
def gof (p r : Int) (neg : Bool) (n : Nat) (j k : Nat) : Int := Fp.pw p r (Fp.ex neg j k % Fp.od neg n)
theorem gof_bd (p r : Int) (neg : Bool) (n j k : Nat) : 0 ≤ gof p r neg n j k ∧ gof p r neg n j k < 18446744073709551616 := by
  obtain ⟨h1, h2, _⟩ := Fp.pw_bd p r (Fp.ex neg j k % Fp.od neg n)
  exact ⟨h1, by unfold gof; omega⟩
/-- What powersOf returns: a function value that tells them. -/
def TellRet (w : World) (n : Nat) (g : Nat → Nat → Int) (e : Ending) (w' : World) : Prop := ∃ v, e = .returned v ∧ Tells w' v n g ∧ Below w.heap.size w w'

theorem Table.keep {W W' : World} {Bp Bo : Nat} {p r : Int} {o B : Nat} (h : Table W Bp Bo p r o) (h1 : 1 ≤ o) (hB : W.heap.size ≤ B) (hb : Below B W W') : Table W' Bp Bo p r o := by
  obtain ⟨g, cap, c1, c2, c3⟩ := h
  have l1 := World.block_lt_of_cell? _ _ c1
  have l2 := World.block_lt_of_cell? _ _ c2
  have l3 := World.block_lt_of_cell? _ _ (c3 0 (by omega))
  exact ⟨g, cap, (hb.cell (Nat.lt_of_lt_of_le l1 hB)).trans c1, (hb.cell (Nat.lt_of_lt_of_le l2 hB)).trans c2, fun i hi => (hb.cell (p := ⟨g, i, none⟩) (Nat.lt_of_lt_of_le l3 hB)).trans (c3 i hi)⟩

theorem table_made {w w2 : World} {p r : Int} {o cap g : Nat} (ho : 1 ≤ o) (hB : Below (w.heap.size + 1) (w.alloc (.cells #[.int .i64 (o : Int)] 3)) w2) (hR : Reads .u64 w2 w2.heap.size (some ⟨g, 0, none⟩) (pws p r o)) :
    Table (w2.alloc (.cells #[.slice (some ⟨g, 0, none⟩) o cap] 23)) w2.heap.size w.heap.size p r o := by
  have b0 := Boxed.new w 3 (.int .i64 (o : Int))
  have b1 := Boxed.new w2 23 (.slice (some ⟨g, 0, none⟩) o cap)
  have hs : w.heap.size < w2.heap.size := by have := hB.size; simp at this; omega
  have hb : Below w2.heap.size w2 (w2.alloc (.cells #[.slice (some ⟨g, 0, none⟩) o cap] 23)) := (Below.refl _ w2).alloc (Nat.le_refl _) _
  refine ⟨g, cap, b1.cell, ?_, fun i hi => ?_⟩
  · exact (hb.cell (p := ⟨w.heap.size, 0, none⟩) hs).trans ((hB.cell (p := ⟨w.heap.size, 0, none⟩) (by show w.heap.size < _; omega)).trans b0.cell)
  · obtain ⟨b, off, e, hlt, hc⟩ := hR (by rw [pws_len]; omega)
    cases e
    have := hc i (by rw [pws_len]; exact hi)
    rw [pws_get _ _ _ _ hi, Nat.zero_add] at this
    exact (hb.cell (p := ⟨g, i, none⟩) hlt).trans this

set_option maxHeartbeats 1000000 in
theorem powersOf_any (p r : Int) (n : Nat) (neg : Bool) (w : World) (h : Fp.kn p = true) (r0 : 0 ≤ r) (r1 : r < 18446744073709551616) (h1 : 1 ≤ n) (h2 : n ≤ 4096) :
    Calls Tryd.prog 41 #[.int .u64 p, .int .u64 r, .int .i64 (n : Int), .bool neg] w (TellRet w n (gof p r neg n)) := by
  have H := Lib.hid h; clear h
  have HO := Lib.hid (fun W => orderOf_any n neg W h2)
  obtain ⟨o1, o2⟩ := Fp.od_bd neg h1 h2
  have hs : (w.alloc (.cells #[.int .i64 ((Fp.od neg n : Nat) : Int)] 3)).heap.size = w.heap.size + 1 := by simp
  have HB0 : Hid (Below w.heap.size w (w.alloc (.cells #[.int .i64 ((Fp.od neg n : Nat) : Int)] 3))) := Lib.hid ((Below.refl _ w).alloc (Nat.le_refl _) _)
  have HR := Lib.hid (powers_yes p r (Fp.od neg n) (w.alloc (.cells #[.int .i64 ((Fp.od neg n : Nat) : Int)] 3)) H.out r0 r1 (by omega))
  have HT : Hid (∀ cap g w2, Below (w.heap.size + 1) (w.alloc (.cells #[.int .i64 ((Fp.od neg n : Nat) : Int)] 3)) w2 → Reads .u64 w2 w2.heap.size (some ⟨g, 0, none⟩) (pws p r (Fp.od neg n)) → Table (w2.alloc (.cells #[.slice (some ⟨g, 0, none⟩) (Fp.od neg n) cap] 23)) w2.heap.size w.heap.size p r (Fp.od neg n)) := Lib.hid (fun cap g w2 => table_made o1)
  have HF : Hid (∀ Bp Bo W, Table W Bp Bo p r (Fp.od neg n) → Tells W (.func (.func (if neg = true then 57 else 58)) #[] #[.pointer (some ⟨Bp, 0, none⟩), .pointer (some ⟨Bo, 0, none⟩)]) n (gof p r neg n)) := Lib.hid (fun Bp Bo W hT => by
    cases neg with
    | false => exact ⟨58, _, rfl, enters_of Tryd.func58 (by kernel_rfl) rfl, fun W' hW j k hj hk => powersOf2_any Bp Bo p r n j k W' (hT.keep o1 (Nat.le_refl _) hW) h1 h2 hj hk⟩
    | true => exact ⟨57, _, rfl, enters_of Tryd.func57 (by kernel_rfl) rfl, fun W' hW j k hj hk => powersOf1_any Bp Bo p r n j k W' (hT.keep o1 (Nat.le_refl _) hW) h1 h2 hj hk⟩)
  generalize hod : Fp.od neg n = o at HO HR HT HF o1 o2 HB0
  obtain ⟨w1, hw1⟩ : ∃ w1, w1 = w.alloc (.cells #[.int .i64 (o : Int)] 3) := ⟨_, rfl⟩
  clear hs hod
  cases neg
  · go_enter Tryd.func41, Tryd.ntmps41
    go_wp2_with (first
      | (go_at_call 39; refine (HO.out _).mono ?_; rintro e w' ⟨rfl, rfl⟩)
      | (go_at_call 26; refine HR.out.mono ?_; rintro e w2 ⟨v, rfl, hO, hB⟩; obtain ⟨x, cap, rfl, hc1, hc2, hRd, hX⟩ := hO.form; rw [pws_len] at hX hc1; obtain ⟨g, rfl, hg1, hg2⟩ := hX (by omega); rw [pws_len]; have HK := Lib.hid (And.intro hRd hB); clear hRd hB hO hX))
    go_ret
    have hT := HT.out cap g w2 (by have := HK.out.2; simpa using this) HK.out.1
    refine ⟨_, rfl, HF.out _ _ _ hT, ?_⟩
    have hB2 := HB0.out.trans (HK.out.2.mono HB0.out.size)
    exact hB2.alloc hB2.size _
  · go_enter Tryd.func41, Tryd.ntmps41
    go_wp2_with (first
      | (go_at_call 39; refine (HO.out _).mono ?_; rintro e w' ⟨rfl, rfl⟩)
      | (go_at_call 26; refine HR.out.mono ?_; rintro e w2 ⟨v, rfl, hO, hB⟩; obtain ⟨x, cap, rfl, hc1, hc2, hRd, hX⟩ := hO.form; rw [pws_len] at hX hc1; obtain ⟨g, rfl, hg1, hg2⟩ := hX (by omega); rw [pws_len]; have HK := Lib.hid (And.intro hRd hB); clear hRd hB hO hX))
    go_ret
    have hT := HT.out cap g w2 (by have := HK.out.2; simpa using this) HK.out.1
    refine ⟨_, rfl, HF.out _ _ _ hT, ?_⟩
    have hB2 := HB0.out.trans (HK.out.2.mono HB0.out.size)
    exact hB2.alloc hB2.size _

end Go.Proofs.YtmcnamlgbkbiaaaDoor
