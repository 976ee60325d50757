/-
  What code.fits, code.missing, code.suspect and code.mend come to.
-/
import Derived.Test.YtpdiilfpbkmebaaCodePut
namespace Go.Proofs.Ytpdiilfpbkmebaa
open Go.RowKit Go.Shelf

set_option maxRecDepth 100000 in
set_option maxHeartbeats 2000000 in
theorem fits_any (p : Int) (x : Option Addr) (n cap : Nat) (xs : List Int) (g h : Int) (w : World) (hk : Fp.kn p = true) (hx : Reads .u64 w w.heap.size x xs) (hn : xs.length = n) (hl : n ≤ 4096) (hw : Words xs) :
    Calls Try.prog 48 #[.int .u64 p, .slice x n cap, arV g h] w (RetB (.bool (Cd.fit p xs g h)) w) := by
  have e0 : Cd.smE p n = 0 := by unfold Cd.smE; rw [if_neg (by rw [hk]; decide), if_neg (by omega)]
  have e2 : Cd.sm0 p xs = Cd.s0 p xs := by unfold Cd.sm0; rw [hn, if_pos e0]
  have e3 : Cd.sm1 p xs = Cd.s1 p xs := by unfold Cd.sm1; rw [hn, if_pos e0]
  have HB0 : Hid (Below w.heap.size w (w.alloc (.cells #[.int .u64 g, .int .u64 h] 25))) := Lib.hid (below_al (Below.refl _ _) _)
  have HS := Lib.hid (fun W (hW : Below w.heap.size w W) => csums_any p x n cap xs W (hx.later hW) hn hw)
  rw [e0, e2, e3] at HS
  have HI := Lib.hid (fun W (hW : Below w.heap.size w W) => cin_any p x n cap xs W w.heap.size (hx.below hW) hn (by omega))
  have hq := fun W => eql_ar (Cd.s0 p xs) (Cd.s1 p xs) g h W
  have hf : Cd.fit p xs g h = ((decide (Cd.s0 p xs = g) && decide (Cd.s1 p xs = h)) && Cd.inp p xs) := by
    unfold Cd.fit
    cases Cd.inp p xs <;> simp
  rw [hf]
  have HA := Lib.hid (fun W (hW : Below (w.alloc (.cells #[.int .u64 g, .int .u64 h] 25)).heap.size (w.alloc (.cells #[.int .u64 g, .int .u64 h] 25)) W) => (Ar.new w g h).then hW)
  generalize Cd.s0 p xs = a at HS hq ⊢
  generalize Cd.s1 p xs = b at HS hq ⊢
  generalize Cd.inp p xs = i at HI ⊢
  unfold RetAr at HS
  unfold arV at HS hq ⊢
  clear hx hn hw hf e0 e2 e3
  have g1 := run_eqGuard_agg (P := Try.prog) (t := 25) (hm := by kernel_rfl)
  cases hab : (decide (a = g) && decide (b = h))
  · rw [hab] at hq
    clear hab
    go_enter Try.func48, Try.ntmps48
    go_wp2_with (go_at_call 11; refine (HS.out _ HB0.out).mono ?_; rintro e w1 ⟨rfl, hB⟩; have A0 := (HA.out w1 hB).then (below_al (Below.refl _ w1) (.cells #[.int .u64 a, .int .u64 b] 25)); have k0 := A0.c0; have k1 := A0.c1; have B1 := Lib.hid (below_on' HB0.out hB); clear hB A0)
    go_ret
    exact ⟨rfl, below_al B1.out _⟩
  · rw [hab] at hq
    clear hab
    rw [Bool.true_and]
    go_enter Try.func48, Try.ntmps48
    go_wp2_with (first
      | (go_at_call 11; refine (HS.out _ HB0.out).mono ?_; rintro e w1 ⟨rfl, hB⟩; have A0 := (HA.out w1 hB).then (below_al (Below.refl _ w1) (.cells #[.int .u64 a, .int .u64 b] 25)); have k0 := A0.c0; have k1 := A0.c1; have B1 := Lib.hid (below_on' HB0.out hB); clear hB A0)
      | (go_at_call 22; refine (HI.out _ (below_al B1.out _)).mono ?_; rintro e w2 ⟨rfl, rfl⟩))
    go_ret
    exact ⟨rfl, below_al B1.out _⟩

theorem Ar.apart {w : World} {G : Nat} {a b : Int} (h : Ar w G a b) {p : Addr} (hp : p.block ≠ G) (u : Value) : Ar (w.setCell p u) G a b := ⟨(Below.heap_setCell _ _ _ _ (fun e => hp e.symm)).trans h.is⟩

set_option maxRecDepth 100000 in
set_option maxHeartbeats 4000000 in
theorem missing_any (p : Int) (x : Option Addr) (n cap : Nat) (xs : List Int) (g h : Int) (w : World) (hk : Fp.kn p = true) (hx : Reads .u64 w w.heap.size x xs) (hn : xs.length = n) (hl : n ≤ 4096) (hw : Words xs)
    (g0 : 0 ≤ g) (g1 : g < 18446744073709551616) (h0 : 0 ≤ h) (h1 : h < 18446744073709551616) :
    Calls Try.prog 49 #[.int .u64 p, .slice x n cap, arV g h] w (RetAr w (Fp.sub p g (Cd.s0 p xs)) (Fp.sub p h (Cd.s1 p xs)) 0) := by
  have hmx : Try.prog.follows .mixedOrders = true := by kernel_rfl
  have e0 : Cd.smE p n = 0 := by unfold Cd.smE; rw [if_neg (by rw [hk]; decide), if_neg (by omega)]
  have e2 : Cd.sm0 p xs = Cd.s0 p xs := by unfold Cd.sm0; rw [hn, if_pos e0]
  have e3 : Cd.sm1 p xs = Cd.s1 p xs := by unfold Cd.sm1; rw [hn, if_pos e0]
  obtain ⟨wz, hwz⟩ : ∃ wz, wz = (w.alloc (.cells #[.int .u64 g, .int .u64 h] 25)).alloc (.cells #[.int .u64 0, .int .u64 0] 25) := ⟨_, rfl⟩
  have hB0 : Below w.heap.size w wz := by rw [hwz]; exact below_al (below_al (Below.refl _ _) _) _
  have hAw : Ar wz w.heap.size g h := by rw [hwz]; exact (Ar.new w g h).then (below_al (Below.refl _ _) _)
  have hAr : Ar wz (w.heap.size + 1) 0 0 := by
    have := Ar.new (w.alloc (.cells #[.int .u64 g, .int .u64 h] 25)) 0 0
    rw [World.size_alloc] at this
    rw [hwz]; exact this
  have hS := csums_any p x n cap xs wz (hx.later hB0) hn hw
  rw [e0, e2, e3] at hS
  have hab : (0 ≤ Cd.s0 p xs ∧ Cd.s0 p xs < 18446744073709551616) ∧ (0 ≤ Cd.s1 p xs ∧ Cd.s1 p xs < 18446744073709551616) := ⟨md_word hk _, md_word hk _⟩
  generalize Cd.s0 p xs = a at hS hab ⊢
  generalize Cd.s1 p xs = b at hS hab ⊢
  obtain ⟨⟨a0, a1⟩, b0, b1⟩ := hab
  have HU := Lib.hid (fun W => sub_any p g a W g0 g1 a0 a1)
  have HV := Lib.hid (fun W => sub_any p h b W h0 h1 b0 b1)
  generalize Fp.sub p g a = u at HU ⊢
  generalize Fp.sub p h b = v at HV ⊢
  have HS := Lib.hid hS
  unfold RetAr arV at HS
  have HB0 := Lib.hid hB0
  have HAw := Lib.hid hAw
  have HAr := Lib.hid hAr
  have HWZ : Hid (wz.heap.size = w.heap.size + 1 + 1) := Lib.hid (by rw [hwz]; simp)
  unfold arV
  rw [hwz] at HS
  clear hx hn hw e0 e2 e3 hS hB0 hAw hAr g0 g1 h0 h1 a0 a1 b0 b1 hk
  go_enter Try.func49, Try.ntmps49
  go_wp2_with (go_at_call 11; refine HS.out.mono ?_; rintro e w1 ⟨rfl, hB⟩; rw [← hwz] at hB; have B1 := Lib.hid hB; clear hB HS hwz)
  have hb1 := below_al B1.out (.cells #[.int .u64 a, .int .u64 b] 25)
  have hs1 : w.heap.size + 1 + 1 ≤ w1.heap.size := by have := B1.out.size; have := HWZ.out; omega
  have HI0 : Hid (Ar (w1.alloc (.cells #[.int .u64 a, .int .u64 b] 25)) w.heap.size g h ∧ Ar (w1.alloc (.cells #[.int .u64 a, .int .u64 b] 25)) (w.heap.size + 1) 0 0 ∧ Ar (w1.alloc (.cells #[.int .u64 a, .int .u64 b] 25)) w1.heap.size (if 0 < 0 then u else a) (if 1 < 0 then v else b) ∧ Below w.heap.size w (w1.alloc (.cells #[.int .u64 a, .int .u64 b] 25))) :=
    Lib.hid ⟨HAw.out.then hb1, HAr.out.then hb1, Ar.new w1 a b, below_on' HB0.out hb1⟩
  have HS1 := Lib.hid hs1
  clear hb1 hs1 HAw HAr HB0 HWZ B1
  go_loopw [21] (fun i wr => ∃ k : Nat, k ≤ 2 ∧ i = .int .i64 (k : Int) ∧ Hid (Ar wr w.heap.size g h ∧ Ar wr (w.heap.size + 1) 0 0 ∧ Ar wr w1.heap.size (if 0 < k then u else a) (if 1 < k then v else b) ∧ Below w.heap.size w wr)) (fun i _ => 2 - (intOf i).toNat)
  case atStart => exact ⟨0, by omega, rfl, HI0⟩
  case round =>
    obtain ⟨k, hk2, rfl, HI⟩ := hrel
    clear HI0
    obtain rfl | rfl | rfl : k = 0 ∨ k = 1 ∨ k = 2 := by omega
    · have k0 := HI.out.1.c0
      have k1 := HI.out.2.2.1.c0
      have f1 := HI.out.2.2.1.fr 0
      rw [if_neg (by omega)] at k1
      go_wp2
      refine region_quiet_tail 9 hmx (by kernel_rfl) ?_
      simp only [List.take_succ_cons, List.take_zero, List.drop_succ_cons, List.drop_zero]
      repeat (go_big_quiet_step ((go_at_call 55; exact Calls.quiet_of (HU.out _))))
      refine wpQuiet_nil ?_
      rintro w' ⟨nq, rfl⟩
      go_wp2
      go_roundw
      case rel => exact ⟨1, by omega, by go_num, Lib.hid ⟨(HI.out.1.draws nq).apart (by have := HS1.out; dsimp only; omega) _, (HI.out.2.1.draws nq).apart (by have := HS1.out; dsimp only; omega) _, (HI.out.2.2.1.draws nq).set0 u, (below_draws HI.out.2.2.2 nq).setCell (p := ⟨w1.heap.size, 0, none⟩) (by have := HS1.out; dsimp only; omega) _⟩⟩
      case measure => simp [intOf]
    · have k0 := HI.out.1.c1
      have k1 := HI.out.2.2.1.c1
      have f1 := HI.out.2.2.1.fr 1
      rw [if_neg (by omega)] at k1
      go_wp2
      refine region_quiet_tail 9 hmx (by kernel_rfl) ?_
      simp only [List.take_succ_cons, List.take_zero, List.drop_succ_cons, List.drop_zero]
      repeat (go_big_quiet_step ((go_at_call 55; exact Calls.quiet_of (HV.out _))))
      refine wpQuiet_nil ?_
      rintro w' ⟨nq, rfl⟩
      go_wp2
      go_roundw
      case rel => exact ⟨2, by omega, by go_num, Lib.hid ⟨(HI.out.1.draws nq).apart (by have := HS1.out; dsimp only; omega) _, (HI.out.2.1.draws nq).apart (by have := HS1.out; dsimp only; omega) _, (HI.out.2.2.1.draws nq).set1 v, (below_draws HI.out.2.2.2 nq).setCell (p := ⟨w1.heap.size, 1, none⟩) (by have := HS1.out; dsimp only; omega) _⟩⟩
      case measure => simp [intOf]
    · have k0 := HI.out.2.2.1.c0
      have k1 := HI.out.2.2.1.c1
      have j0 := HI.out.2.1.c0
      have j1 := HI.out.2.1.c1
      have f0 := HI.out.2.1.fr 0
      have f1 := HI.out.2.1.fr 1
      rw [if_pos (by omega)] at k0 k1
      go_wp2
      refine bodyPost_ret (results_ar rfl _ _ (w.heap.size + 1) _ _ rfl (HI.out.2.1.set _ _)) rfl ?_
      exact ⟨rfl, below_set2 HI.out.2.2.2 (by omega) _ _⟩

set_option maxHeartbeats 1000000 in
theorem sus1_any (p u : Int) (Bp : Nat) (W : World) (hp : W.cell? ⟨Bp, 0, none⟩ = some (.int .u64 p)) :
    Calls Try.prog 57 #[.int .u64 u, .pointer (some ⟨Bp, 0, none⟩)] W (RetB (.bool (!Cd.inp p [u])) W) := by
  have HI := Lib.hid (cin_any p (some ⟨W.heap.size, 0, none⟩) 1 1 [u] (W.alloc (.cells #[.int .u64 u] 22)) _ (owns_one W .u64 22 u 0 (Nat.zero_le _)).rd rfl (by omega))
  generalize Cd.inp p [u] = i at HI ⊢
  go_enter Try.func57, Try.ntmps57
  go_wp2_with (go_at_call 22; refine HI.out.mono ?_; rintro e w2 ⟨rfl, rfl⟩)
  go_ret
  exact ⟨rfl, below_al (Below.refl _ _) _⟩

theorem inp_one {p u : Int} (h : Fp.kn p = true) : Cd.inp p [u] = true ↔ u < p := by
  rw [Cd.inp_iff h]
  exact ⟨fun a => by simpa using a 0 (by simp), fun a j hj => by obtain rfl : j = 0 := by simp at hj; omega
                                                                 simpa using a⟩

/-- What suspect returns. -/
def RetSus (p : Int) (xs : List Int) (d0 d1 : Int) (w : World) (e : Ending) (w' : World) : Prop := ∃ s : Int, e = .returned (.int .i64 s) ∧ Cd.Sus p xs d0 d1 s ∧ Below w.heap.size w w'

set_option maxRecDepth 100000 in
set_option maxHeartbeats 4000000 in
theorem suspect_any (p : Int) (x : Option Addr) (n cap : Nat) (xs : List Int) (d0 d1 : Int) (w : World) (hk : Fp.kn p = true) (hx : Reads .u64 w w.heap.size x xs) (hn : xs.length = n) (hl : n ≤ 4096)
    (a0 : 0 ≤ d0) (a1 : d0 < 18446744073709551616) :
    Calls Try.prog 50 #[.int .u64 p, .slice x n cap, arV d0 d1] w (RetSus p xs d0 d1 w) := by
  have hE : ∀ args W, (callFunc 57 args).run Try.prog W = .ok (.enter 57 args) W := enters_of Try.func57 (by kernel_rfl) rfl
  obtain ⟨wz, hwz⟩ : ∃ wz, wz = (w.alloc (.cells #[.int .u64 p] 22)).alloc (.cells #[.int .u64 d0, .int .u64 d1] 25) := ⟨_, rfl⟩
  have hB0 : Below w.heap.size w wz := by rw [hwz]; exact below_al (below_al (Below.refl _ _) _) _
  have hb2 : w.heap.size + 1 < wz.heap.size := by rw [hwz]; simp
  have hP : wz.cell? ⟨w.heap.size, 0, none⟩ = some (.int .u64 p) := by
    rw [hwz]
    exact ((below_al (Below.refl _ (w.alloc (.cells #[.int .u64 p] 22))) _).cell (p := ⟨w.heap.size, 0, none⟩) (by simp)).trans (Boxed.new w 22 (.int .u64 p)).cell
  have hA : Ar wz (w.heap.size + 1) d0 d1 := by
    have := Ar.new (w.alloc (.cells #[.int .u64 p] 22)) d0 d1
    rw [World.size_alloc] at this
    rw [hwz]; exact this
  have HI := Lib.hid (indexW_any 57 #[.pointer (some ⟨w.heap.size, 0, none⟩)] hE x n cap xs (fun k => !Cd.inp p [xs.getD k 0]) wz (hx.later hB0) hn (by omega) (fun W hW k _ => sus1_any p _ w.heap.size W ((hW.cell (p := ⟨w.heap.size, 0, none⟩) (by dsimp only; omega)).trans hP)))
  have HB0 := Lib.hid hB0
  have HK := Lib.hid (fun W (hW : Below wz.heap.size wz W) => And.intro ((hW.cell (p := ⟨w.heap.size, 0, none⟩) (by dsimp only; omega)).trans hP) (hA.then hW))
  have HN := Lib.hid hn
  have H := Lib.hid hk
  have HM := Lib.hid (fun (k : Nat) (hk2 : k ≤ 4096) W => mul_any p ((k : Int) + 1) d0 W (by omega) (by omega) a0 a1)
  rw [hwz] at HI
  unfold arV
  clear hx hn hB0 hb2 hP hA hk a0 a1
  go_enter Try.func50, Try.ntmps50
  go_wp2_with fail
  refine HI.out.mono ?_
  rw [← hwz]
  rintro e w3 ⟨s, rfl, hs, hB⟩
  have B3 := Lib.hid (below_on' HB0.out hB)
  obtain ⟨hp3, hA3⟩ := HK.out w3 hB
  have A3 := Lib.hid hA3
  clear hB HI HK hwz hA3 HB0
  rcases hs with ⟨k, hk, rfl, hf⟩ | ⟨rfl, hf⟩
  · have HF : Hid (Cd.Sus p xs d0 d1 (k : Int)) := Lib.hid (.inl ⟨k, by have := HN.out; omega, rfl, fun c => by have e := (inp_one H.out).2 c; dsimp only at hf; rw [e] at hf; cases hf⟩)
    clear hf
    go_wp2
    go_ret
    exact ⟨_, rfl, HF.out, B3.out⟩
  · have HF : Hid (∀ j, j < xs.length → xs.getD j 0 < p) := Lib.hid (fun j hj => by
      have := hf j (by have := HN.out; omega)
      exact (inp_one H.out).1 (by simpa using this))
    clear hf
    have k0 := A3.out.c0
    have k1 := A3.out.c1
    go_wp2
    go_loopw [17] (fun i wr => ∃ k q : Nat, k ≤ n ∧ i = .int .i64 (k : Int) ∧ wr = w3.drewN q ∧ Hid (∀ j : Nat, j < k → Fp.mul p ((j : Int) + 1) d0 ≠ d1)) (fun i _ => n - (intOf i).toNat)
    case atStart => exact ⟨0, 0, Nat.zero_le _, rfl, rfl, Lib.hid (fun j hj => by omega)⟩
    case round =>
      obtain ⟨k, q, hk, rfl, rfl, HQ⟩ := hrel
      by_cases hlt : k < n
      · have hdk : decide (k < n) = true := by simpa using hlt
        have HM1 := Lib.hid (HM.out k (by omega))
        obtain ⟨m, hm⟩ : ∃ m, m = Fp.mul p ((k : Int) + 1) d0 := ⟨_, rfl⟩
        rw [← hm] at HM1
        by_cases he : m = d1
        · have t1 : (m == d1) = true := by simpa using he
          have HF2 : Hid (Cd.Sus p xs d0 d1 (k : Int)) := Lib.hid (.inr ⟨HF.out, .inl ⟨k, by have := HN.out; omega, rfl, by rw [← hm, he]⟩⟩)
          clear he hm
          go_wp2
          go_quiet ((go_at_call 24; exact quiet_more (HM1.out _)))
          go_wp2
          go_ret
          exact ⟨_, rfl, HF2.out, below_draws (below_draws B3.out _) _⟩
        · have t1 : (m == d1) = false := by simpa using he
          have HQ2 : Hid (∀ j : Nat, j < k + 1 → Fp.mul p ((j : Int) + 1) d0 ≠ d1) := Lib.hid (fun j hj => by
            by_cases e : j = k
            · rw [e, ← hm]; exact he
            · exact HQ.out j (by omega))
          clear he hm
          go_wp2
          go_quiet ((go_at_call 24; exact quiet_more (HM1.out _)))
          go_wp2
          go_roundw
          case rel => exact ⟨k + 1, _, by omega, by go_num, rfl, HQ2⟩
          case measure => simp [intOf]; omega
      · obtain rfl : k = n := by omega
        have hdk : decide (k < k) = false := by simp
        go_wp2
        go_ret
        exact ⟨_, rfl, .inr ⟨HF.out, .inr ⟨rfl, fun j hj => HQ.out j (by have := HN.out; omega)⟩⟩, below_draws B3.out _⟩

/-- What mend returns: words, or that none are right. -/
def RetM (w : World) (n : Nat) (o : Option (List Int)) (e : Ending) (w' : World) : Prop :=
  (match o with
    | some ys => ∃ x c, e = .returned (.tuple #[.slice x n c, .int .i64 0]) ∧ n ≤ c ∧ c ≤ maxLen ∧ Reads .u64 w' w'.heap.size x ys
    | none => e = .returned (.tuple #[.slice none 0 0, .int .i64 10])) ∧ Below w.heap.size w w'

set_option maxRecDepth 100000 in
set_option maxHeartbeats 4000000 in
theorem mend_fit (p : Int) (x : Option Addr) (n cap : Nat) (xs : List Int) (g h : Int) (w : World) (hk : Fp.kn p = true) (hx : Reads .u64 w w.heap.size x xs) (hn : xs.length = n) (hc : n ≤ cap) (hcm : cap ≤ maxLen) (hl : n ≤ 4096) (hw : Words xs) (hf : Cd.fit p xs g h = true) :
    Calls Try.prog 38 #[.int .u64 p, .slice x n cap, arV g h] w (RetM w n (some xs) ) := by
  have HB0 : Hid (Below w.heap.size w (w.alloc (.cells #[.int .u64 g, .int .u64 h] 25))) := Lib.hid (below_al (Below.refl _ _) _)
  have HF := Lib.hid (fits_any p x n cap xs g h (w.alloc (.cells #[.int .u64 g, .int .u64 h] 25)) hk (hx.later HB0.out) hn hl hw)
  rw [hf] at HF
  have HX := Lib.hid (fun W (hW : Below w.heap.size w W) => hx.later hW)
  have HC := Lib.hid (And.intro hc hcm)
  have A0 := Ar.new w g h
  have k0 := A0.c0
  have k1 := A0.c1
  unfold arV at HF ⊢
  clear hx hf hw hk A0
  go_enter Try.func38, Try.ntmps38
  go_wp2_with (go_at_call 48; refine HF.out.mono ?_; rintro e w2 ⟨rfl, hB⟩; have B2 := Lib.hid (below_on' HB0.out hB); clear hB)
  go_ret2
  exact ⟨⟨_, _, rfl, HC.out.1, HC.out.2, HX.out _ B2.out⟩, B2.out⟩

set_option maxRecDepth 100000 in
set_option maxHeartbeats 8000000 in
theorem mend_not (p : Int) (x : Option Addr) (n cap : Nat) (xs : List Int) (g h : Int) (w : World) (hk : Fp.kn p = true) (hx : Reads .u64 w w.heap.size x xs) (hn : xs.length = n) (h1n : 0 < n) (hl : n ≤ 4096) (hw : Words xs)
    (g0 : 0 ≤ g) (g1 : g < 18446744073709551616) (h0 : 0 ≤ h) (h1 : h < 18446744073709551616) (hf : Cd.fit p xs g h = false) :
    Calls Try.prog 38 #[.int .u64 p, .slice x n cap, arV g h] w (RetM w n (Cd.mn p xs g h)) := by
  have hmx : Try.prog.follows .mixedOrders = true := by kernel_rfl
  have HB0 : Hid (Below w.heap.size w (w.alloc (.cells #[.int .u64 g, .int .u64 h] 25))) := Lib.hid (below_al (Below.refl _ _) _)
  have HF := Lib.hid (fits_any p x n cap xs g h (w.alloc (.cells #[.int .u64 g, .int .u64 h] 25)) hk (hx.later HB0.out) hn hl hw)
  rw [hf] at HF
  have HM := Lib.hid (fun W (hW : Below w.heap.size w W) => missing_any p x n cap xs g h W hk (hx.later hW) hn hl hw g0 g1 h0 h1)
  have hd0 := Fp.sub_bd p g (Cd.s0 p xs)
  have HS := Lib.hid (fun W (hW : Below w.heap.size w W) => suspect_any p x n cap xs (Fp.sub p g (Cd.s0 p xs)) (Fp.sub p h (Cd.s1 p xs)) W hk (hx.later hW) hn hl hd0.1 (by omega))
  have HMN := Lib.hid (fun s hs => Cd.sus_mn (g := g) (h := h) hk (by omega) hf (s := s) hs)
  have HA5 := Lib.hid (fun W (hW : Below (w.alloc (.cells #[.int .u64 g, .int .u64 h] 25)).heap.size (w.alloc (.cells #[.int .u64 g, .int .u64 h] 25)) W) => (Ar.new w g h).then hW)
  have HX := Lib.hid (fun W (hW : Below w.heap.size w W) => hx.later hW)
  have HW := Lib.hid hw
  have HN := Lib.hid hn
  have H := Lib.hid hk
  have HNX := Lib.hid (fun i => Cd.nx_add (xs := xs) (g := g) hk i)
  have HD0 : Hid (0 ≤ Fp.sub p g (Cd.s0 p xs) ∧ Fp.sub p g (Cd.s0 p xs) < 18446744073709551616) := Lib.hid ⟨hd0.1, by omega⟩
  have A0 := Ar.new w g h
  have k0 := A0.c0
  have k1 := A0.c1
  generalize Fp.sub p g (Cd.s0 p xs) = d0 at HM HS HMN HNX HD0
  generalize Fp.sub p h (Cd.s1 p xs) = d1 at HM HS HMN
  unfold RetAr at HM
  unfold arV at HF HM HS ⊢
  clear hx hf hw hk hn A0 hd0 g0 g1 h0 h1
  go_enter Try.func38, Try.ntmps38
  go_wp2_with (first
    | (go_at_call 48; refine HF.out.mono ?_; rintro e w2 ⟨rfl, hB⟩; have B2 := Lib.hid hB; have A2 := HA5.out _ hB; have k0 := A2.c0; have k1 := A2.c1; clear hB A2)
    | (go_at_call 49; refine (HM.out w2 (below_on' HB0.out B2.out)).mono ?_; rintro e w3 ⟨rfl, hB⟩; have B3 := Lib.hid (below_on' B2.out hB); have k0 := (Ar.new w3 d0 d1).c0; have k1 := (Ar.new w3 d0 d1).c1; clear hB))
  have B3a := Lib.hid (below_al B3.out (.cells #[.int .u64 d0, .int .u64 d1] 25))
  refine (HS.out _ (below_on' HB0.out B3a.out)).mono ?_
  rintro e w5 ⟨s, rfl, hs, hB⟩
  have B5 := Lib.hid (below_on' B3a.out hB)
  have A8 := Lib.hid ((Ar.new w3 d0 d1).then hB)
  have HS3 : Hid (w.heap.size < w3.heap.size) := Lib.hid (by have := B3.out.size; simp at this; omega)
  have HS5 : Hid (w3.heap.size < w5.heap.size) := Lib.hid (by have := hB.size; simp at this; omega)
  clear hB HS HM HF B2 B3 B3a
  rcases HMN.out s hs with ⟨rfl, hm⟩ | ⟨k, hk, rfl, hm⟩
  · have HO := Lib.hid hm
    clear hm hs HMN
    go_wp2
    go_ret2
    rw [HO.out]
    exact ⟨rfl, below_on' HB0.out B5.out⟩
  · have hkn : k < n := by have := HN.out; omega
    have HB5 : Hid (Below w.heap.size w w5) := Lib.hid (below_on' HB0.out B5.out)
    have HCl := Lib.hid (clone_any x n cap xs w5 ((HX.out w5 HB5.out).toSrc HN.out h1n) (by omega))
    obtain ⟨b, off, rfl, hb, hc⟩ := HX.out w5 HB5.out (by have := HN.out; omega)
    have hc1 := hc k hk
    obtain ⟨u, hu⟩ : ∃ u, u = Cd.nx p xs g k := ⟨_, rfl⟩
    have hub := Cd.nx_bd H.out xs g k
    have hxk := HW.out k
    have HAdd := Lib.hid (fun W => add_any p (xs.getD k 0) d0 W hxk.1 hxk.2 HD0.out.1 HD0.out.2)
    rw [HNX.out k, ← hu] at HAdd
    rw [← hu] at hub
    have HU : Hid (0 ≤ u ∧ u < 18446744073709551616) := Lib.hid ⟨hub.1, by have := Fp.kn_bd H.out; omega⟩
    have HMD : Hid (Cd.md p xs g k = xs.set k u) := Lib.hid (by unfold Cd.md; rw [hu])
    rw [HMD.out] at hm
    have HWS : Hid (Words (xs.set k u)) := Lib.hid (Words.put HW.out k HU.out.1 HU.out.2)
    have HLS : Hid ((xs.set k u).length = n) := Lib.hid (by rw [List.length_set]; exact HN.out)
    obtain ⟨y, hy⟩ : ∃ y, y = xs.getD k 0 := ⟨_, rfl⟩
    rw [← hy] at hc1 HAdd
    have HM2 := Lib.hid hm
    clear hub hxk hu hy hc hs HMN HX HNX HMD HW hm
    go_wp2_with (go_at_call 51; refine HCl.out.mono ?_; rintro e w6 ⟨v6, rfl, hO6, hB6⟩; obtain ⟨x6, c6, hv6, hn6, hm6, -, hf6⟩ := hO6.form; rw [HN.out] at hv6 hn6 hf6; obtain ⟨g6, rfl, hg6, hg6'⟩ := hf6 h1n; subst hv6; have A8' := (A8.out.then hB6); have k8 := A8'.c0; have hc6 := (hB6.cell (p := ⟨b, off + k, none⟩) hb).trans hc1; have ho6 := hO6.num HN.out (j := k) hkn; have hmel := hO6.melt HN.out k; have O6 := Lib.hid hO6; have B6 := Lib.hid hB6; have HC6 := Lib.hid (And.intro hn6 (And.intro hm6 (And.intro hg6 hg6'))); clear hO6 hB6 hf6 A8' hn6 hm6 hg6 hg6')
    refine region_quiet_tail 10 hmx (by kernel_rfl) ?_
    simp only [List.take_succ_cons, List.take_zero, List.drop_succ_cons, List.drop_zero]
    repeat (go_big_quiet_step ((go_at_call 23; exact Calls.quiet_of (HAdd.out _))))
    refine wpQuiet_nil ?_
    rintro w' ⟨nq, rfl⟩
    have hB7 : Below w.heap.size w ((w6.drewN nq).setCell ⟨g6, k, none⟩ (.int .u64 u)) := (below_draws (below_on' HB5.out B6.out) nq).setCell (p := ⟨g6, k, none⟩) (by have := HC6.out; have := HS3.out; have := HS5.out; dsimp only; omega) _
    have hA7 : Ar ((w6.drewN nq).setCell ⟨g6, k, none⟩ (.int .u64 u)) w.heap.size g h := (((HA5.out _ B5.out).then B6.out).draws nq).apart (by have := HC6.out; have := HS3.out; have := HS5.out; dsimp only; omega) _
    have q0 := hA7.c0
    have q1 := hA7.c1
    have hO7 := (O6.out.draws nq).put HN.out k u
    have HF7 := Lib.hid (fits_any p (some ⟨g6, 0, none⟩) n c6 (xs.set k u) g h _ H.out hO7.rd HLS.out hl HWS.out)
    have R7 := Lib.hid hO7.rd
    have B7 := Lib.hid hB7
    unfold arV at HF7
    clear hB7 hA7 hO7
    rcases HM2.out with ⟨hf, hm⟩ | ⟨hf, hm⟩
    · rw [hf] at HF7
      have HMN := Lib.hid hm
      clear hf hm HM2 HA5
      go_wp2_with (go_at_call 48; refine HF7.out.mono ?_; rintro e w8 ⟨rfl, hB⟩; have B8 := Lib.hid hB; clear hB)
      go_ret2
      rw [HMN.out]
      exact ⟨⟨_, _, rfl, HC6.out.1, HC6.out.2.1, R7.out.later B8.out⟩, below_on' B7.out B8.out⟩
    · rw [hf] at HF7
      have HMN := Lib.hid hm
      clear hf hm HM2 HA5
      go_wp2_with (go_at_call 48; refine HF7.out.mono ?_; rintro e w8 ⟨rfl, hB⟩; have B8 := Lib.hid hB; clear hB)
      go_ret2
      rw [HMN.out]
      exact ⟨rfl, below_on' B7.out B8.out⟩

/-- mend, of whatever words. -/
theorem mend_any (p : Int) (x : Option Addr) (n cap : Nat) (xs : List Int) (g h : Int) (w : World) (hk : Fp.kn p = true) (hx : Reads .u64 w w.heap.size x xs) (hn : xs.length = n) (hc : n ≤ cap) (hcm : cap ≤ maxLen) (h1n : 0 < n) (hl : n ≤ 4096) (hw : Words xs)
    (g0 : 0 ≤ g) (g1 : g < 18446744073709551616) (h0 : 0 ≤ h) (h1 : h < 18446744073709551616) :
    Calls Try.prog 38 #[.int .u64 p, .slice x n cap, arV g h] w (RetM w n (Cd.mn p xs g h)) := by
  cases hf : Cd.fit p xs g h
  · exact mend_not p x n cap xs g h w hk hx hn h1n hl hw g0 g1 h0 h1 hf
  · rw [Cd.mn_fit hf]; exact mend_fit p x n cap xs g h w hk hx hn hc hcm hl hw hf

end Go.Proofs.Ytpdiilfpbkmebaa
