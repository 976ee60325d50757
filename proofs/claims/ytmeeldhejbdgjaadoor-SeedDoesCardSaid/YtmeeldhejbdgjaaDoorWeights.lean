/-
  What seed.weights comes to: the weights of all words of an axis.
-/
import Derived.Test.YtmeeldhejbdgjaaDoorCourse
import Derived.Test.YtmeeldhejbdgjaaDoorRows2
import Derived.Deep.RegionWith
namespace Go.Proofs.YtmeeldhejbdgjaaDoor
open Go.RowKit Go.Shelf

/-- A region that draws its order: its first m operations read, and call what writes nothing that was there; then in the text's order. -/
theorem region_since_tail {P : Program} {id : Nat} {Q : Exit → Act → World → Prop} {a : Act} {w : World} {l : List Oper} (m : Nat) (hm : P.follows .mixedOrders = true) (hB : Region.lexTailB .any l.toArray m = true)
    (h : wpQuiet P l.toArray (fun w' => ∃ s : Since w, w' = s.out) (fun a' => ∀ w', (∃ s : Since w, w' = s.out) → wpList P l.toArray Q (l.drop m) a' w') (l.take m) a) : (Code.region id l.toArray true).wp P Q a w :=
  wp_region_any hm (any_quiet_tail (C := fun w' => ∃ s : Since w, w' = s.out) m hB ⟨⟨w.drewN 1, draws_below _ _ _⟩, rfl⟩ h)
theorem Since.cell {w : World} (s : Since w) {p : Addr} {v : Value} (h : w.cell? p = some v) : s.out.cell? p = some v := (s.below.cell (World.block_lt_of_cell? _ _ h)).trans h
theorem Since.frozen {w : World} (s : Since w) {g j : Nat} {b : Bool} (hg : g < w.heap.size) (h : w.frozen? ⟨g, j, none⟩ = b) : s.out.frozen? ⟨g, j, none⟩ = b := by
  have := s.below.block g hg
  rw [← h]
  simp only [World.frozen?]
  rw [this]

theorem ListRet.open {xs : List Int} {n : Nat} {w w' : World} {e : Ending} (h : ListRet w xs e w') (hn : xs.length = n) (h0 : 0 < n) :
    ∃ g cap, e = .returned (.tuple #[.slice (some ⟨g, 0, none⟩) n cap, .int .i64 0]) ∧ w.heap.size ≤ g ∧ g < w'.heap.size ∧ Owns .u64 22 w' w.heap.size (.slice (some ⟨g, 0, none⟩) n cap) xs ∧ Below w.heap.size w w' := by
  subst hn
  obtain ⟨v, rfl, hO, hB⟩ := h
  obtain ⟨x, cap, rfl, h1, h2, h3, h4⟩ := hO.form
  obtain ⟨g, rfl, h5, h6⟩ := h4 h0
  exact ⟨g, cap, rfl, h5, h6, hO, hB⟩

/-- The box of an axis, when something was called. -/
theorem box_call {w W : World} {L : Int} {neg : Bool} {t : TypeId} (h : Below (w.alloc (.cells #[.int .i64 L, .bool neg] t)).heap.size (w.alloc (.cells #[.int .i64 L, .bool neg] t)) W) :
    W.cell? ⟨w.heap.size, 0, none⟩ = some (.int .i64 L) ∧ W.cell? ⟨w.heap.size, 1, none⟩ = some (.bool neg) ∧ w.heap.size < W.heap.size := by
  have hs := h.size
  rw [World.size_alloc] at h hs
  obtain ⟨a, b⟩ := box_cells h
  exact ⟨a, b, hs⟩

set_option maxRecDepth 100000 in
set_option maxHeartbeats 4000000 in
theorem weights_any (p : Int) (n : Nat) (neg inv : Bool) (z : Int) (w : World) (hG : Gl w) (h : Fp.kn p = true) (n1 : 1 ≤ n) (n2 : n ≤ 4096) (hd : (p - 1) % ((Fp.od neg n : Nat) : Int) = 0) (z0 : 0 ≤ z) (z1 : z < 18446744073709551616) :
    Calls Tryd.prog 60 #[.int .u64 p, .agg #[.int .i64 (n : Int), .bool neg], .bool inv, .int .u64 z] w (RetU w (wts p neg inv n z)) := by
  have hW : Below w.heap.size w (w.alloc (.cells #[.int .i64 (n : Int), .bool neg] 26)) := below_al (Below.refl _ _) _
  have HW := Lib.hid hW
  have HT := Lib.hid (course_any p n neg inv _ (hG.then hW) h n1 n2 hd)
  have HC : Hid (∀ k, Crs.wt (crs p neg inv n) p n (Fp.pw p (crs p neg inv n).start k) (Fp.pw p (crs p neg inv n).step k) z = wtN p neg inv n k z) := Lib.hid (fun k => crs_wt h neg inv n k z)
  obtain ⟨ha, hs, hu, ht⟩ := crs_bd p neg inv n
  obtain ⟨c, hc⟩ : ∃ c, c = crs p neg inv n := ⟨_, rfl⟩
  rw [← hc] at HT HC ha hs hu ht
  have HP1 := Lib.hid (fun W => powers_yes p c.start n W h hs.1 (by omega) (by omega))
  have HP2 := Lib.hid (fun W => powers_yes p c.step n W h ht.1 (by omega) (by omega))
  have HWt := Lib.hid (fun k W => cweight_any p n c (Fp.pw p c.start k) (Fp.pw p c.step k) z W h n2 ⟨ha, hu⟩ (Fp.pw_bd _ _ _).1 (by have := Fp.pw_bd p c.start k; omega) (Fp.pw_bd _ _ _).1 (by have := Fp.pw_bd p c.step k; omega) z0 z1)
  obtain ⟨f, hf⟩ : ∃ f : Nat → Int, f = fun k => wtN p neg inv n k z := ⟨_, rfl⟩
  have HE : Hid ((List.range n).map f = wts p neg inv n z) := Lib.hid (by rw [hf]; rfl)
  have HF : Hid (∀ k, Crs.wt c p n (Fp.pw p c.start k) (Fp.pw p c.step k) z = f k) := Lib.hid (fun k => by rw [hf]; exact HC.out k)
  generalize wts p neg inv n z = res at HE ⊢
  obtain ⟨ca, cs, cu, ct⟩ := c
  unfold crsV at HT HWt
  dsimp only at HT HWt HP1 HP2 HF ha hs hu ht
  obtain ⟨i0, hi, hz0, hz1, hz2⟩ := info_parts info_u64
  have HZ2 := Lib.hid hz2
  clear hc hf HC h hd hG hW hz2 ha hs hu ht
  go_enter Tryd.func60, Tryd.ntmps60
  go_wp2_with (first
    | (go_at_call 29; refine HT.out.mono ?_; rintro e w1 ⟨rfl, b1⟩; obtain ⟨bx1, -, hs1⟩ := box_call b1; have B1 := Lib.hid (below_al b1 (.cells #[.int .u64 ca, .int .u64 cs, .int .u64 cu, .int .u64 ct] 55)); clear b1)
    | (go_at_call_of 82 (Value.int IntKind.u64 cs); refine (HP1.out _).mono ?_; intro e w3 hr; obtain ⟨g3, c3, rfl, hg3, hl3, hO3, b3⟩ := hr.open (pws_len _ _ _) (by omega); have F3 := (Four.new w1 55 (.int .u64 ca) (.int .u64 cs) (.int .u64 cu) (.int .u64 ct)).below b3 (by simp); have kk3 := F3.c3; have B3 := Lib.hid (below_then B1.out b3); obtain ⟨bx3, -, hs3⟩ := box_call B3.out; have O3 := Lib.hid hO3; have F3' := Lib.hid F3; have L3 := Lib.hid hl3; clear hr b3 hO3 F3 bx1 hg3 hl3 hs1 hs3)
    | (go_at_call_of 82 (Value.int IntKind.u64 ct); refine (HP2.out _).mono ?_; intro e w4 hr; obtain ⟨g4, c4, rfl, hg4, hl4, hO4, b4⟩ := hr.open (pws_len _ _ _) (by omega); have F4 := Lib.hid (F3'.out.below b4 F3'.out.lt); have O34 := Lib.hid (O3.out.below b4); have B4 := Lib.hid (below_then B3.out b4); have L34 : Hid (g3 < w4.heap.size) := Lib.hid (Nat.lt_of_lt_of_le L3.out b4.size); obtain ⟨bx4, -, -⟩ := box_call B4.out; have L4 := Lib.hid hl4; have O4 := Lib.hid hO4; clear hr b4 hO4 hg4 hl4 bx3 kk3 F3' O3 B3 B1)
    | (at_make; refine wpList_make_full _ rfl _ _ 24 rfl w4.heap.size 22 i0 (.int .u64 0) 1 Tryd.underlying24 hi hz0 hz1 .i64 .i64 _ _ n rfl rfl rfl rfl (by rw [HZ2.out]; omega) (by unfold maxLen; omega) (Nat.le_refl _) ?_; intro w5 hown hgrow))
  have hst := Half.start (f := f) hown
  have hbl := (Below.refl w4.heap.size w4).grown hgrow (Nat.le_refl _) (fun k e => by cases e)
  clear hown hgrow hi hz0 hz1 bx4
  go_loopw [43] (fun i wr => ∃ k : Nat, k ≤ n ∧ i = .int .i64 (k : Int) ∧ Half .u64 22 wr w4.heap.size w4.heap.size n f (fun _ => 0) k ∧ Below w4.heap.size w4 wr) (fun i _ => n - (intOf i).toNat)
  case atStart => exact ⟨0, Nat.zero_le _, rfl, hst, hbl⟩
  case round =>
    clear hst hbl
    obtain ⟨k, hk, rfl, hH, hB⟩ := hrel
    by_cases hlt : k < n
    · have hdk : decide (k < n) = true := by simpa using hlt
      have FW := F4.out.below hB F4.out.lt
      obtain ⟨q0, q1, q2, q3⟩ := And.intro FW.c0 (And.intro FW.c1 (And.intro FW.c2 FW.c3))
      obtain ⟨bx, -, -⟩ := box_call (below_then B4.out hB)
      have e3 := (hB.cell (p := ⟨g3, k, none⟩) L34.out).trans (O34.out.cell k (by rw [pws_len]; exact hlt))
      have e4 := (hB.cell (p := ⟨g4, k, none⟩) L4.out).trans (O4.out.cell k (by rw [pws_len]; exact hlt))
      have e5 := hH.cellNext hlt
      have e6 := hH.frozen k
      have hg5 := hH.lt.2
      rw [show (pws p cs n).getD k 0 = Fp.pw p cs k from getD_range _ hlt] at e3
      rw [show (pws p ct n).getD k 0 = Fp.pw p ct k from getD_range _ hlt] at e4
      have HH := Lib.hid hH
      have HB := Lib.hid hB
      have HFk := Lib.hid (HF.out k)
      have HWk := Lib.hid (HWt.out k)
      have hmx : Tryd.prog.follows .mixedOrders = true := by kernel_rfl
      clear hH hB FW
      go_wp2
      have s0 := fun s : Since wr => s.cell q0
      have s1 := fun s : Since wr => s.cell q1
      have s2 := fun s : Since wr => s.cell q2
      have s3 := fun s : Since wr => s.cell q3
      have s4 := fun s : Since wr => s.cell bx
      have s5 := fun s : Since wr => s.cell e3
      have s6 := fun s : Since wr => s.cell e4
      refine region_since_tail 17 hmx (by kernel_rfl) ?_
      simp only [List.take_succ_cons, List.take_zero, List.drop_succ_cons, List.drop_zero]
      repeat (go_big_quiet_step (first | (go_at_call 30; rename_i s; exact since_call s (HWk.out _))))
      refine wpQuiet_nil ?_
      rintro _ ⟨s, rfl⟩
      have t5 := s.cell e5
      have t6 := s.frozen hg5 e6
      have hg6 : w4.heap.size < s.out.heap.size := Nat.lt_of_lt_of_le hg5 s.below.size
      have HS : Hid (Half .u64 22 (s.out.setCell ⟨w4.heap.size, k, none⟩ (.int .u64 (f k))) w4.heap.size w4.heap.size n f (fun _ => 0) (k + 1) ∧ Below w4.heap.size w4 (s.out.setCell ⟨w4.heap.size, k, none⟩ (.int .u64 (f k)))) := Lib.hid ⟨Half.step (Owns.below HH.out s.below), (HB.out.trans (s.below.mono (Nat.le_of_lt hg5))).setCell (p := ⟨w4.heap.size, k, none⟩) (Nat.le_refl _) _⟩
      rw [HFk.out]
      clear s0 s1 s2 s3 s4 s5 s6 q0 q1 q2 q3 bx e3 e4 e5 e6
      go_wp2
      go_roundw
      case rel => exact ⟨k + 1, by omega, by go_num, HS.out.1, HS.out.2⟩
      case measure => simp [intOf]; omega
    · obtain rfl : k = n := by omega
      have hR : RetU w res (.returned (.slice (some ⟨w4.heap.size, 0, none⟩) k k)) wr := by
        have hA := hH.all
        rw [HE.out] at hA
        have b4 := below_then HW.out B4.out
        exact ⟨_, rfl, hA.mono b4.size, below_then b4 hB⟩
      clear hH hB
      go_wp2
      go_ret
      exact hR

end Go.Proofs.YtmeeldhejbdgjaaDoor
