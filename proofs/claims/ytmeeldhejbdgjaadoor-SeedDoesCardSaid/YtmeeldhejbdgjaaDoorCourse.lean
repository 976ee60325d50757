/-
  What the courses of package seed come to: how words of an axis go into those of its transform, and a word's weight.
-/
import Derived.Test.YtmeeldhejbdgjaaDoorMathSeed
import Derived.Test.YtmeeldhejbdgjaaDoorGeoms
import Derived.Test.YtmeeldhejbdgjaaDoorGrids
import Derived.Laws.Rows
namespace Go.Proofs.YtmeeldhejbdgjaaDoor
open Go.RowKit Go.Shelf

/-- A course as the program has it. -/
def crsV (c : Crs) : Value := .agg #[.int .u64 c.all, .int .u64 c.start, .int .u64 c.turn, .int .u64 c.step]

/-- A block of four cells: its cells, and what is written into all of them. -/
structure Four (w : World) (g : Nat) (t : TypeId) (a b c d : Value) : Prop where
  is : w.heap[g]? = some (.cells #[a, b, c, d] t)
section
variable {w w' : World} {g : Nat} {t : TypeId} {a b c d : Value}
theorem Four.c0 (h : Four w g t a b c d) : w.cell? ⟨g, 0, none⟩ = some a := by rw [cell_of_row w g 0 _ t _ h.is]; rfl
theorem Four.c1 (h : Four w g t a b c d) : w.cell? ⟨g, 1, none⟩ = some b := by rw [cell_of_row w g 1 _ t _ h.is]; rfl
theorem Four.c2 (h : Four w g t a b c d) : w.cell? ⟨g, 2, none⟩ = some c := by rw [cell_of_row w g 2 _ t _ h.is]; rfl
theorem Four.c3 (h : Four w g t a b c d) : w.cell? ⟨g, 3, none⟩ = some d := by rw [cell_of_row w g 3 _ t _ h.is]; rfl
theorem Four.fr (h : Four w g t a b c d) (j : Nat) : w.frozen? ⟨g, j, none⟩ = false := frozen_of_row w g j _ t h.is
theorem Four.lt (h : Four w g t a b c d) : g < w.heap.size := by
  rcases Nat.lt_or_ge g w.heap.size with hlt | hge
  · exact hlt
  · have := h.is; rw [Array.getElem?_eq_none hge] at this; cases this
theorem Four.below {B : Nat} (h : Four w g t a b c d) (hb : Below B w w') (hg : g < B) : Four w' g t a b c d := ⟨(hb.block g hg).trans h.is⟩
theorem Four.draws (h : Four w g t a b c d) (n : Nat) : Four (w.drewN n) g t a b c d := ⟨h.is⟩
theorem Four.new (w : World) (t : TypeId) (a b c d : Value) : Four (w.alloc (.cells #[a, b, c, d] t)) w.heap.size t a b c d := ⟨heap_alloc_new _ _⟩
theorem Four.set (h : Four w g t a b c d) (a' b' c' d' : Value) : Four ((((w.setCell ⟨g, 0, none⟩ a').setCell ⟨g, 1, none⟩ b').setCell ⟨g, 2, none⟩ c').setCell ⟨g, 3, none⟩ d') g t a' b' c' d' :=
  ⟨heap_setCell_same _ g 3 _ t d' (heap_setCell_same _ g 2 _ t c' (heap_setCell_same _ g 1 _ t b' (heap_setCell_same _ g 0 _ t a' h.is)))⟩
end
theorem below_set4 {B : Nat} {w w' : World} {g : Nat} (h : Below B w w') (hg : B ≤ g) (a b c d : Value) : Below B w ((((w'.setCell ⟨g, 0, none⟩ a).setCell ⟨g, 1, none⟩ b).setCell ⟨g, 2, none⟩ c).setCell ⟨g, 3, none⟩ d) :=
  (((h.setCell (p := ⟨g, 0, none⟩) hg a).setCell (p := ⟨g, 1, none⟩) hg b).setCell (p := ⟨g, 2, none⟩) hg c).setCell (p := ⟨g, 3, none⟩) hg d

theorem cells_course : (Tryd.prog.info? 55).map (·.size) = some 4 := by kernel_rfl

set_option maxRecDepth 100000 in
set_option maxHeartbeats 2000000 in
theorem cthere_any (p : Int) (n : Nat) (neg : Bool) (w : World) (hG : Gl w) (h : Fp.kn p = true) (n1 : 1 ≤ n) (n2 : n ≤ 4096) (hd : (p - 1) % ((Fp.od neg n : Nat) : Int) = 0) :
    Calls Tryd.prog 49 #[.int .u64 p, .agg #[.int .i64 (n : Int), .bool neg]] w (RetB (crsV (crs p neg false n)) w) := by
  have hE := rootE_yes h n1 n2 hd
  obtain ⟨r0, r1⟩ := wrt_bd p neg false n
  have HR : Hid (∀ W, Gl W → Calls Tryd.prog 46 #[.int .u64 p, .int .i64 ((Fp.od neg n : Nat) : Int)] W (RetB (.tuple #[.int .u64 (wrt p neg false n), .int .i64 0]) W)) := Lib.hid (fun W hW => by
    have := root_any p ((Fp.od neg n : Nat) : Int) W hW (by have := Fp.od_bd neg n1 n2; omega)
    unfold rootN at this
    rw [hE, if_pos rfl, Int.toNat_natCast] at this
    have e : wrt p neg false n = Fp.rt p (Fp.od neg n) := by simp [wrt, rtl]
    rw [e]
    exact this)
  have HG := Lib.hid hG
  cases neg
  · have e : crs p false false n = ⟨1, 1, 1, wrt p false false n⟩ := by simp [crs]
    rw [e]
    have eo : Fp.od false n = n := by simp [Fp.od]
    rw [eo] at HR
    generalize wrt p false false n = u at HR r0 r1 ⊢
    clear hE hd h hG e eo
    go_enter Tryd.func49, Tryd.ntmps49
    go_wp2_with (go_at_call 46; refine (HR.out _ (HG.out.then (below_al (below_al (Below.refl _ _) _) _))).mono ?_; rintro e w2 ⟨rfl, hB2⟩; have F2 := (Four.new (w.alloc (.cells #[.int .i64 (n : Int), .bool false] 26)) 55 (.int .u64 0) (.int .u64 0) (.int .u64 0) (.int .u64 0)).below hB2 (by simp); rw [World.size_alloc] at F2; have k0 := F2.c0; have k1 := F2.c1; have k2 := F2.c2; have k3 := F2.c3; have f0 := F2.fr 0; have f1 := F2.fr 1; have f2 := F2.fr 2; have f3 := F2.fr 3; have F3 := Lib.hid F2; have B2 := Lib.hid hB2; clear F2 hB2)
    refine bodyPost_ret (results_cell_row rfl _ _ (w.heap.size + 1) _ _ _ _ rfl (F3.out.set _ _ _ _).is Tryd.underlying55 rfl cells_course) rfl ?_
    exact ⟨rfl, below_set4 (below_then (below_al (below_al (Below.refl _ _) _) _) B2.out) (Nat.le_succ _) _ _ _ _⟩
  · have e : crs p true false n = ⟨1, wrt p true false n, 1, Fp.mul p (wrt p true false n) (wrt p true false n)⟩ := by simp [crs]
    rw [e]
    have hz : (2 : Int) * (n : Int) = ((Fp.od true n : Nat) : Int) := by simp [Fp.od]
    have hb : Fp.od true n ≤ 8192 := by simp [Fp.od]; omega
    generalize Fp.od true n = o at HR hz hb
    generalize wrt p true false n = u at HR r0 r1 ⊢
    clear hE hd h hG e
    go_enter Tryd.func49, Tryd.ntmps49
    go_wp2_with (first
      | (go_at_call 46; refine (HR.out _ (HG.out.then (below_al (below_al (Below.refl _ _) _) _))).mono ?_; rintro e w2 ⟨rfl, hB2⟩; have F2 := (Four.new (w.alloc (.cells #[.int .i64 (n : Int), .bool true] 26)) 55 (.int .u64 0) (.int .u64 0) (.int .u64 0) (.int .u64 0)).below hB2 (by simp); rw [World.size_alloc] at F2; have B2 := Lib.hid hB2; clear hB2)
      | (go_at_call 24; refine (mul_any _ _ _ _ (by omega) (by omega) (by omega) (by omega)).mono ?_; rintro e w' ⟨rfl, nd, rfl⟩; replace F2 := F2.draws nd; have k0 := F2.c0; have k1 := F2.c1; have k2 := F2.c2; have k3 := F2.c3; have f0 := F2.fr 0; have f1 := F2.fr 1; have f2 := F2.fr 2; have f3 := F2.fr 3; have F3 := Lib.hid F2; clear F2))
    refine bodyPost_ret (results_cell_row rfl _ _ (w.heap.size + 1) _ _ _ _ rfl (F3.out.set _ _ _ _).is Tryd.underlying55 rfl cells_course) rfl ?_
    exact ⟨rfl, below_set4 (below_draws (below_then (below_al (below_al (Below.refl _ _) _) _) B2.out) _) (Nat.le_succ _) _ _ _ _⟩

theorem red_len {p : Int} (h : Fp.kn p = true) {n : Nat} (n1 : 1 ≤ n) (n2 : n ≤ 4096) : Fp.red p (n : Int) ≠ 0 := by
  obtain ⟨p1, p2⟩ := Fp.kn_bd h
  rw [Fp.red_kn _ h, Int.emod_eq_of_lt (by omega) (by omega)]
  omega

set_option maxRecDepth 100000 in
set_option maxHeartbeats 2000000 in
theorem cback_any (p : Int) (n : Nat) (neg : Bool) (w : World) (hG : Gl w) (h : Fp.kn p = true) (n1 : 1 ≤ n) (n2 : n ≤ 4096) (hd : (p - 1) % ((Fp.od neg n : Nat) : Int) = 0) :
    Calls Tryd.prog 48 #[.int .u64 p, .agg #[.int .i64 (n : Int), .bool neg]] w (RetB (crsV (crs p neg true n)) w) := by
  have hE := rootE_yes h n1 n2 hd
  obtain ⟨r0, r1⟩ := wrt_bd p neg true n
  have HR : Hid (∀ W, Gl W → Calls Tryd.prog 70 #[.int .u64 p, .int .i64 ((Fp.od neg n : Nat) : Int)] W (RetB (.tuple #[.int .u64 (wrt p neg true n), .int .i64 0]) W)) := Lib.hid (fun W hW => by
    have := back_any p ((Fp.od neg n : Nat) : Int) W hW (by have := Fp.od_bd neg n1 n2; omega)
    unfold backN at this
    rw [hE, if_pos rfl, Int.toNat_natCast] at this
    have e : wrt p neg true n = Fp.inv p (Fp.rt p (Fp.od neg n)) := by simp [wrt, rtl, bkl]
    rw [e]
    exact this)
  have HI := Lib.hid (fun W => inv_yes p (n : Int) W h (by omega) (by omega) (red_len h n1 n2))
  have HG := Lib.hid hG
  cases neg
  · have e : crs p false true n = ⟨Fp.inv p n, 1, 1, wrt p false true n⟩ := by simp [crs]
    rw [e]
    have eo : Fp.od false n = n := by simp [Fp.od]
    rw [eo] at HR
    generalize wrt p false true n = u at HR r0 r1 ⊢
    generalize Fp.inv p (n : Int) = iv at HI ⊢
    clear hE hd h hG e eo
    go_enter Tryd.func48, Tryd.ntmps48
    go_wp2_with (first
      | (go_at_call 69; refine (HI.out _).mono ?_; rintro e w' ⟨rfl, nd, rfl⟩)
      | (go_at_call 70; refine (HR.out _ (HG.out.then (below_draws (below_al (below_al (Below.refl _ _) _) _) nd))).mono ?_; rintro e w2 ⟨rfl, hB2⟩; have F2 := ((Four.new (w.alloc (.cells #[.int .i64 (n : Int), .bool false] 26)) 55 (.int .u64 0) (.int .u64 0) (.int .u64 0) (.int .u64 0)).draws nd).below hB2 (by simp [World.drewN]); rw [World.size_alloc] at F2; have k0 := F2.c0; have k1 := F2.c1; have k2 := F2.c2; have k3 := F2.c3; have f0 := F2.fr 0; have f1 := F2.fr 1; have f2 := F2.fr 2; have f3 := F2.fr 3; have F3 := Lib.hid F2; have B2 := Lib.hid hB2; clear F2 hB2))
    refine bodyPost_ret (results_cell_row rfl _ _ (w.heap.size + 1) _ _ _ _ rfl (F3.out.set _ _ _ _).is Tryd.underlying55 rfl cells_course) rfl ?_
    exact ⟨rfl, below_set4 (below_then (below_draws (below_al (below_al (Below.refl _ _) _) _) nd) B2.out) (Nat.le_succ _) _ _ _ _⟩
  · have e : crs p true true n = ⟨Fp.inv p n, 1, wrt p true true n, Fp.mul p (wrt p true true n) (wrt p true true n)⟩ := by simp [crs]
    rw [e]
    have hz : (2 : Int) * (n : Int) = ((Fp.od true n : Nat) : Int) := by simp [Fp.od]
    have hb : Fp.od true n ≤ 8192 := by simp [Fp.od]; omega
    generalize Fp.od true n = o at HR hz hb
    generalize wrt p true true n = u at HR r0 r1 ⊢
    generalize Fp.inv p (n : Int) = iv at HI ⊢
    clear hE hd h hG e
    go_enter Tryd.func48, Tryd.ntmps48
    go_wp2_with (first
      | (go_at_call 69; refine (HI.out _).mono ?_; rintro e w' ⟨rfl, n1, rfl⟩)
      | (go_at_call 70; refine (HR.out _ (HG.out.then (below_draws (below_al (below_al (Below.refl _ _) _) _) n1))).mono ?_; rintro e w2 ⟨rfl, hB2⟩; have F2 := ((Four.new (w.alloc (.cells #[.int .i64 (n : Int), .bool true] 26)) 55 (.int .u64 0) (.int .u64 0) (.int .u64 0) (.int .u64 0)).draws n1).below hB2 (by simp [World.drewN]); rw [World.size_alloc] at F2; have B2 := Lib.hid hB2; clear hB2)
      | (go_at_call 24; refine (mul_any _ _ _ _ (by omega) (by omega) (by omega) (by omega)).mono ?_; rintro e w' ⟨rfl, nd, rfl⟩; replace F2 := F2.draws nd; have k0 := F2.c0; have k1 := F2.c1; have k2 := F2.c2; have k3 := F2.c3; have f0 := F2.fr 0; have f1 := F2.fr 1; have f2 := F2.fr 2; have f3 := F2.fr 3; have F3 := Lib.hid F2; clear F2))
    refine bodyPost_ret (results_cell_row rfl _ _ (w.heap.size + 1) _ _ _ _ rfl (F3.out.set _ _ _ _).is Tryd.underlying55 rfl cells_course) rfl ?_
    exact ⟨rfl, below_set4 (below_draws (below_then (below_draws (below_al (below_al (Below.refl _ _) _) _) _) B2.out) _) (Nat.le_succ _) _ _ _ _⟩

set_option maxRecDepth 100000 in
set_option maxHeartbeats 2000000 in
theorem course_any (p : Int) (n : Nat) (neg inv : Bool) (w : World) (hG : Gl w) (h : Fp.kn p = true) (n1 : 1 ≤ n) (n2 : n ≤ 4096) (hd : (p - 1) % ((Fp.od neg n : Nat) : Int) = 0) :
    Calls Tryd.prog 29 #[.int .u64 p, .agg #[.int .i64 (n : Int), .bool neg], .bool inv] w (RetB (crsV (crs p neg inv n)) w) := by
  have hW : Below w.heap.size w ((w.alloc (.cells #[.int .i64 (n : Int), .bool neg] 26)).alloc (.cells #[.int .u64 0, .int .u64 0, .int .u64 0, .int .u64 0] 55)) := below_al (below_al (Below.refl _ _) _) _
  have HW := Lib.hid hW
  cases inv
  · have HT := Lib.hid (cthere_any p n neg _ (hG.then hW) h n1 n2 hd)
    obtain ⟨c, hc⟩ : ∃ c, c = crs p neg false n := ⟨_, rfl⟩
    rw [← hc] at HT ⊢
    obtain ⟨a, b, c, d⟩ := c
    unfold crsV at HT ⊢
    clear hc hG h hd hW
    go_enter Tryd.func29, Tryd.ntmps29
    go_wp2_with (go_at_call 49; refine HT.out.mono ?_; rintro e w2 ⟨rfl, hB2⟩; have F2 := (Four.new (w.alloc (.cells #[.int .i64 (n : Int), .bool neg] 26)) 55 (.int .u64 0) (.int .u64 0) (.int .u64 0) (.int .u64 0)).below hB2 (by simp); rw [World.size_alloc] at F2; have k0 := F2.c0; have k1 := F2.c1; have k2 := F2.c2; have k3 := F2.c3; have f0 := F2.fr 0; have f1 := F2.fr 1; have f2 := F2.fr 2; have f3 := F2.fr 3; have F3 := Lib.hid F2; have B2 := Lib.hid hB2; clear F2 hB2)
    refine bodyPost_ret (results_cell_row rfl _ _ (w.heap.size + 1) _ _ _ _ rfl (F3.out.set _ _ _ _).is Tryd.underlying55 rfl cells_course) rfl ?_
    exact ⟨rfl, below_set4 (below_then HW.out B2.out) (Nat.le_succ _) _ _ _ _⟩
  · have HT := Lib.hid (cback_any p n neg _ (hG.then hW) h n1 n2 hd)
    obtain ⟨c, hc⟩ : ∃ c, c = crs p neg true n := ⟨_, rfl⟩
    rw [← hc] at HT ⊢
    obtain ⟨a, b, c, d⟩ := c
    unfold crsV at HT ⊢
    clear hc hG h hd hW
    go_enter Tryd.func29, Tryd.ntmps29
    go_wp2_with (go_at_call 48; refine HT.out.mono ?_; rintro e w2 ⟨rfl, hB2⟩; have F2 := (Four.new (w.alloc (.cells #[.int .i64 (n : Int), .bool neg] 26)) 55 (.int .u64 0) (.int .u64 0) (.int .u64 0) (.int .u64 0)).below hB2 (by simp); rw [World.size_alloc] at F2; have k0 := F2.c0; have k1 := F2.c1; have k2 := F2.c2; have k3 := F2.c3; have f0 := F2.fr 0; have f1 := F2.fr 1; have f2 := F2.fr 2; have f3 := F2.fr 3; have F3 := Lib.hid F2; have B2 := Lib.hid hB2; clear F2 hB2)
    refine bodyPost_ret (results_cell_row rfl _ _ (w.heap.size + 1) _ _ _ _ rfl (F3.out.set _ _ _ _).is Tryd.underlying55 rfl cells_course) rfl ?_
    exact ⟨rfl, below_set4 (below_then HW.out B2.out) (Nat.le_succ _) _ _ _ _⟩

set_option maxRecDepth 100000 in
set_option maxHeartbeats 2000000 in
/-- A word's weight by a course. -/
theorem cweight_any (p : Int) (n : Nat) (c : Crs) (s t z : Int) (w : World) (h : Fp.kn p = true) (n2 : n ≤ 4096) (hc : (0 ≤ c.all ∧ c.all < 18446744069414584321) ∧ (0 ≤ c.turn ∧ c.turn < 18446744069414584321))
    (s0 : 0 ≤ s) (s1 : s < 18446744073709551616) (t0 : 0 ≤ t) (t1 : t < 18446744073709551616) (z0 : 0 ≤ z) (z1 : z < 18446744073709551616) :
    Calls Tryd.prog 30 #[crsV c, .int .u64 p, .int .i64 (n : Int), .int .u64 s, .int .u64 t, .int .u64 z] w (RetB (.int .u64 (c.wt p n s t z)) w) := by
  obtain ⟨a, b, c, d⟩ := c
  obtain ⟨⟨a0, a1⟩, c0, c1⟩ := hc
  dsimp only at a0 a1 c0 c1
  unfold crsV Crs.wt
  dsimp only
  obtain ⟨u0, u1, -⟩ := Fp.mul_bd p c t
  obtain ⟨v0, v1, -⟩ := Fp.mul_bd p z (Fp.mul p c t)
  obtain ⟨x0, x1, -⟩ := Fp.mul_bd p a s
  obtain ⟨g0, g1, -⟩ := Fp.gsum_bd p (Fp.mul p z (Fp.mul p c t)) n
  have HS : Hid (∀ W, Calls Tryd.prog 50 #[.int .u64 p, .int .u64 (Fp.mul p z (Fp.mul p c t)), .int .i64 (n : Int)] W (RetQ (.tuple #[.int .u64 (Fp.gsum p (Fp.mul p z (Fp.mul p c t)) n), .int .i64 0]) W)) := Lib.hid (fun W => by
    have := Sum_any p (Fp.mul p z (Fp.mul p c t)) (n : Int) W v0 (by omega) (by omega) (by omega)
    have e := sumE_ok (n := (n : Int)) h (by omega) (by omega)
    rwa [sumN_ok e, e, Int.toNat_natCast] at this)
  clear h
  go_enter Tryd.func30, Tryd.ntmps30
  go_wp2_with (first
    | (go_at_call 24; refine (mul_any _ _ _ _ (by omega) (by omega) (by omega) (by omega)).mono ?_; rintro e w' ⟨rfl, nd, rfl⟩)
    | (go_at_call 50; refine (HS.out _).mono ?_; rintro e w' ⟨rfl, nd, rfl⟩))
  go_ret
  exact ⟨rfl, by repeat (first | exact below_al (Below.refl _ _) _ | refine below_draws ?_ _)⟩

end Go.Proofs.YtmeeldhejbdgjaaDoor
