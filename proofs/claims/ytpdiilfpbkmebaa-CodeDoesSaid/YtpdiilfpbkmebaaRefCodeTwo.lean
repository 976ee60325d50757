/-
  What the document's Put, Look and right of layer 14 come to, once more: where there is nothing wrong.
-/
import Derived.Test.YtpdiilfpbkmebaaRefCode
namespace Go.Proofs.Ytpdiilfpbkmebaa
open Go.RowKit

theorem reads_duo (w : World) (k : IntKind) (e : TypeId) (a b : Int) : Reads k (w.alloc (.cells #[.int k a, .int k b] e)) (w.alloc (.cells #[.int k a, .int k b] e)).heap.size (some ⟨w.heap.size, 0, none⟩) [a, b] := fun _ => by
  refine ⟨w.heap.size, 0, rfl, by simp, fun j hj => ?_⟩
  obtain rfl | rfl : j = 0 ∨ j = 1 := by simp at hj; omega
  all_goals simp

set_option maxRecDepth 100000 in
set_option maxHeartbeats 4000000 in
theorem rkput_ok (p : Int) (x : Option Addr) (n cap : Nat) (xs : List Int) (w : World) (hx : Reads .u64 w w.heap.size x xs) (hn : xs.length = n) (hw : Words xs) (h0 : Cd.kpE p xs = 0) :
    Calls Try.prog 14 #[.int .u64 p, .slice x n cap] w (RetP w (Cd.cw p xs) 0) := by
  obtain ⟨hk, h1, h2, hi'⟩ := Cd.kpE_zero.1 h0
  have HI := Lib.hid (rcin_any p x n cap xs w w.heap.size hx hn (by omega))
  rw [hi'] at HI
  have H := Lib.hid hk
  have d1 : decide ((n : Int) < 1) = false := by simp; omega
  have d2 : decide ((4096 : Int) < (n : Int)) = false := by simp; omega
  have hS := rsums14_any p x n cap xs w hx hn hw
  have e0 : Cd.smE p n = 0 := by unfold Cd.smE; rw [if_neg (by rw [hk]; decide), if_neg (by omega)]
  have e2 : Cd.sm0 p xs = Cd.s0 p xs := by unfold Cd.sm0; rw [hn, if_pos e0]
  have e3 : Cd.sm1 p xs = Cd.s1 p xs := by unfold Cd.sm1; rw [hn, if_pos e0]
  rw [e0, e2, e3] at hS
  unfold Cd.cw
  generalize Cd.s0 p xs = a at hS ⊢
  generalize Cd.s1 p xs = b at hS ⊢
  have HS := Lib.hid hS
  unfold RetAr arV at HS
  obtain ⟨i0, hi, hz0, hz1, hz2⟩ := info_parts info_u64
  have HP := Lib.hid (fun (W : World) => rput_any (some ⟨W.heap.size, 0, none⟩) 2 2 [a, b] (W.alloc (.cells #[.int .u64 a, .int .u64 b] 22)) (reads_duo W .u64 22 a b) rfl)
  have e4 : ptL [a, b] = thrice [a, b] := rfl
  have e5 : ptE [a, b] = 0 := rfl
  rw [e4, e5] at HP
  have HX := Lib.hid (fun W (hW : Below w.heap.size w W) => (hx.below hW).toSrc (cap := cap) hn (by omega))
  have HN := Lib.hid hn
  have hl : n ≤ 4096 := by omega
  clear hx hn hw h0 hi' hk h1 h2 e0 e2 e3 e4 e5 hS
  go_enter Try.func14, Try.ntmps14
  go_wp2_with (first
    | (go_at_call 28; refine (rknown_yes p _ H.out).mono ?_; rintro e w' ⟨rfl, rfl⟩)
    | (go_at_call 33; refine HI.out.mono ?_; rintro e w' ⟨rfl, rfl⟩)
    | (go_at_call 12; refine HS.out.mono ?_; rintro e w1 ⟨rfl, hB⟩; have B1 := Lib.hid (below_al hB (.cells #[.int .u64 a, .int .u64 b] 25)); have k0 := (Ar.new w1 a b).c0; have k1 := (Ar.new w1 a b).c1; clear hB)
    | (go_at_call 34; have HPx := HP.out (w1.alloc (.cells #[.int .u64 a, .int .u64 b] 25)); rw [World.size_alloc] at HPx; refine HPx.mono ?_; clear HPx; rintro e w3 hr; obtain ⟨x3, c3, rfl, hO, -, -, hB⟩ := hr.open (n := 6) rfl; have B3 := Lib.hid (below_on' (below_al B1.out _) hB); have O3 := Lib.hid (hO.source rfl); clear hr hO hB)
    | (at_builtin; refine wpList_copy_new rfl _ _ 23 rfl 22 i0 .u64 8 Try.underlying23 hi hz0 hz1 hz2 _ n cap xs rfl rfl (HX.out _ B3.out) (by unfold maxLen; omega) (by omega) ?_; intro v4 w4 hO4 hB4; have O4 := Lib.hid hO4; have B4 := Lib.hid hB4; clear hO4 hB4)
    | (at_builtin; refine wpList_append_list rfl _ _ 23 rfl w3.heap.size 22 i0 .u64 8 Try.underlying23 hi hz0 hz1 hz2 v4 xs rfl O4.out x3 6 c3 (thrice [a, b]) rfl (O3.out.keep B4.out) (by rw [HN.out]; unfold maxLen; omega) (by rw [HN.out]; omega) B4.out.size ?_; intro v5 w5 hO5 hg5; have O5 := Lib.hid hO5; have B5 := Lib.hid (B4.out.grown hg5 B4.out.size (fun g e => O4.out.ownBlock g e)); clear hO5 hg5))
  go_ret2
  exact ⟨_, rfl, O5.out.mono B3.out.size, below_on' B3.out B5.out⟩

/-- Put, of whatever words. -/
theorem rkput_any (p : Int) (x : Option Addr) (n cap : Nat) (xs : List Int) (w : World) (hx : Reads .u64 w w.heap.size x xs) (hn : xs.length = n) (hl : n ≤ 140737488355328) (hw : Words xs) :
    Calls Try.prog 14 #[.int .u64 p, .slice x n cap] w (RetP w (Cd.kpL p xs) (Cd.kpE p xs)) := by
  by_cases h : Cd.kpE p xs = 0
  · have e4 : Cd.kpL p xs = Cd.cw p xs := by unfold Cd.kpL; rw [if_pos h]
    rw [e4, h]; exact rkput_ok p x n cap xs w hx hn hw h
  · have e4 : Cd.kpL p xs = [] := by unfold Cd.kpL; rw [if_neg h]
    rw [e4]; exact rkput_no p x n cap xs w hx hn hl h

set_option maxHeartbeats 2000000 in
theorem rklook_no (p : Int) (x : Option Addr) (n cap : Nat) (w : World) (h0 : Cd.lnE p n ≠ 0) :
    Calls Try.prog 16 #[.int .u64 p, .slice x n cap] w (RetB (.tuple #[.bool false, .int .i64 (Cd.lnE p n)]) w) := by
  unfold Cd.lnE at h0 ⊢
  cases hk : Fp.kn p
  · rw [if_pos rfl]
    have H := Lib.hid hk
    clear hk h0
    go_enter Try.func16, Try.ntmps16
    go_wp2_with (go_at_call 28; refine (rknown_no p _ H.out).mono ?_; rintro e w' ⟨rfl, rfl⟩)
    go_ret2
    exact ⟨rfl, Below.refl _ _⟩
  · have H := Lib.hid hk
    rw [hk, if_neg (by decide)] at h0
    rw [if_neg (by decide)]
    by_cases h1 : n < 7
    · have d1 : decide ((n : Int) < 7) = true := by simp; omega
      rw [if_pos (.inl h1)]
      clear hk h0
      go_enter Try.func16, Try.ntmps16
      go_wp2_with (go_at_call 28; refine (rknown_yes p _ H.out).mono ?_; rintro e w' ⟨rfl, rfl⟩)
      go_ret2
      exact ⟨rfl, Below.refl _ _⟩
    · have d1 : decide ((n : Int) < 7) = false := by simp; omega
      have h2 : 4102 < n := by
        rcases Nat.lt_or_ge 4102 n with h | h
        · exact h
        · rw [if_neg (by omega)] at h0; exact absurd rfl h0
      have d2 : decide ((4102 : Int) < (n : Int)) = true := by simp; omega
      rw [if_pos (.inr h2)]
      clear hk h0
      go_enter Try.func16, Try.ntmps16
      go_wp2_with (go_at_call 28; refine (rknown_yes p _ H.out).mono ?_; rintro e w' ⟨rfl, rfl⟩)
      go_ret2
      exact ⟨rfl, Below.refl _ _⟩

set_option maxRecDepth 100000 in
set_option maxHeartbeats 4000000 in
theorem rklook_ok (p : Int) (x : Option Addr) (n cap : Nat) (xs : List Int) (w : World) (hx : Reads .u64 w w.heap.size x xs) (hn : xs.length = n) (hc : n ≤ cap) (hcm : cap ≤ maxLen) (hw : Words xs) (hC : Cd.lnE p n = 0) :
    Calls Try.prog 16 #[.int .u64 p, .slice x n cap] w (RetB (.tuple #[.bool (Cd.lkB p xs), .int .i64 0]) w) := by
  obtain ⟨hk, h7, h8⟩ := Cd.lnE_zero.1 hC
  have hcm' : cap ≤ 9223372036854775807 := hcm
  have H := Lib.hid hk
  have d1 : decide ((n : Int) < 7) = false := by simp; omega
  have d2 : decide ((4102 : Int) < (n : Int)) = false := by simp; omega
  obtain ⟨m, hm⟩ : ∃ m : Nat, m = n - 6 := ⟨_, rfl⟩
  have hz : (n : Int) - 6 = (m : Int) := by omega
  have hmn : m ≤ n := by omega
  have hmc : m ≤ cap := by omega
  have hhd : Cd.hd xs = xs.take m := by unfold Cd.hd; rw [hn, ← hm]
  have hwt : Words (xs.take m) := fun j => by
    by_cases hj : j < m
    · rw [List.getD_eq_getElem?_getD, List.getElem?_take, if_pos hj, ← List.getD_eq_getElem?_getD]; exact hw j
    · rw [List.getD_eq_getElem?_getD, List.getElem?_take, if_neg hj]; simp
  have HP := Lib.hid (rkput_any p x m cap (xs.take m) w (hx.take m) (by rw [List.length_take]; omega) (by omega) hwt)
  have hlk : Cd.lkB p xs = (decide (Cd.kpE p (xs.take m) = 0) && decide (xs = Cd.cw p (xs.take m))) := by
    unfold Cd.lkB; rw [hhd, decide_eq_true (by rw [hn]; exact hC)]; rfl
  rw [hlk]
  by_cases he : Cd.kpE p (xs.take m) = 0
  · have e4 : Cd.kpL p (xs.take m) = Cd.cw p (xs.take m) := by unfold Cd.kpL; rw [if_pos he]
    rw [he, e4] at HP
    have hlen : (Cd.cw p (xs.take m)).length = n := by rw [Cd.cw_len, List.length_take]; omega
    have HQ := Lib.hid (fun W y c (hW : Below w.heap.size w W) (hy : Reads .u64 W W.heap.size y (Cd.cw p (xs.take m))) => sameW_any x y n n cap c xs (Cd.cw p (xs.take m)) W W.heap.size (hx.later hW) hy hn hlen (by omega) (by omega))
    rw [decide_eq_true he]
    have HLen := Lib.hid hlen
    generalize Cd.cw p (xs.take m) = ys at HP HQ HLen ⊢
    clear hx hn hm hlk hw hwt hhd he e4 hlen hC hk
    go_enter Try.func16, Try.ntmps16
    go_wp2_with (first
      | (go_at_call 28; refine (rknown_yes p _ H.out).mono ?_; rintro e w' ⟨rfl, rfl⟩)
      | (go_at_call 14; refine HP.out.mono ?_; rintro e w3 hr; obtain ⟨x3, c3, rfl, hO, -, -, hB⟩ := hr.open HLen.out; have B3 := Lib.hid hB; have R3 := Lib.hid hO.rd; clear hr hO hB)
      | (go_at_call 19; refine (HQ.out w3 x3 c3 B3.out R3.out).mono ?_; rintro e w4 ⟨rfl, nq, rfl⟩))
    go_ret2
    exact ⟨by simp, below_draws B3.out _⟩
  · rw [decide_eq_false he]
    have hne : (Cd.kpE p (xs.take m) == 0) = false := by rw [beq_eq_false_iff_ne]; exact he
    have HLen : Hid ((Cd.kpL p (xs.take m)).length = 0) := Lib.hid (by unfold Cd.kpL; rw [if_neg he]; rfl)
    generalize Cd.kpE p (xs.take m) = er at HP hne
    generalize Cd.kpL p (xs.take m) = ys at HP HLen
    clear hx hn hm hlk hw hwt hhd he hC hk
    go_enter Try.func16, Try.ntmps16
    go_wp2_with (first
      | (go_at_call 28; refine (rknown_yes p _ H.out).mono ?_; rintro e w' ⟨rfl, rfl⟩)
      | (go_at_call 14; refine HP.out.mono ?_; rintro e w3 hr; obtain ⟨x3, c3, rfl, hO, -, -, hB⟩ := hr.open HLen.out; have B3 := Lib.hid hB; clear hr hO hB))
    go_ret2
    exact ⟨rfl, B3.out⟩

/-- Look, of whatever words. -/
theorem rklook_any (p : Int) (x : Option Addr) (n cap : Nat) (xs : List Int) (w : World) (hx : Reads .u64 w w.heap.size x xs) (hn : xs.length = n) (hc : n ≤ cap) (hcm : cap ≤ maxLen) (hw : Words xs) :
    Calls Try.prog 16 #[.int .u64 p, .slice x n cap] w (RetB (.tuple #[.bool (Cd.lkB p xs), .int .i64 (Cd.lnE p n)]) w) := by
  by_cases h : Cd.lnE p n = 0
  · rw [h]; exact rklook_ok p x n cap xs w hx hn hc hcm hw h
  · rw [Cd.lk_no (by rw [hn]; exact h)]; exact rklook_no p x n cap w h

theorem right_any (p : Int) (x : Option Addr) (n cap : Nat) (xs : List Int) (w : World) (hx : Reads .u64 w w.heap.size x xs) (hn : xs.length = n) (hc : n ≤ cap) (hcm : cap ≤ maxLen) (hw : Words xs) (h0 : Cd.lnE p n = 0) :
    Calls Try.prog 41 #[.int .u64 p, .slice x n cap] w (RetB (.bool (Cd.lkB p xs)) w) := by
  have HL := Lib.hid (rklook_any p x n cap xs w hx hn hc hcm hw)
  rw [h0] at HL
  clear hx hn hc hcm hw h0
  cases hb : Cd.lkB p xs
  · rw [hb] at HL
    clear hb
    go_enter Try.func41, Try.ntmps41
    go_wp2_with (go_at_call 16; refine HL.out.mono ?_; rintro e w2 ⟨rfl, hB⟩; have B2 := Lib.hid hB; clear hB)
    go_ret
    exact ⟨rfl, B2.out⟩
  · rw [hb] at HL
    clear hb
    go_enter Try.func41, Try.ntmps41
    go_wp2_with (go_at_call 16; refine HL.out.mono ?_; rintro e w2 ⟨rfl, hB⟩; have B2 := Lib.hid hB; clear hB)
    go_ret
    exact ⟨rfl, B2.out⟩

end Go.Proofs.Ytpdiilfpbkmebaa
