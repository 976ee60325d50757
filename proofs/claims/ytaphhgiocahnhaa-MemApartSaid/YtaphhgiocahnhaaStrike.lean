/-
  What Strike of package script, and of the document's, comes to: the words, struck, in a row of their own.
-/
import Derived.Test.YtaphhgiocahnhaaScriptQuiet
import Derived.Test.YtaphhgiocahnhaaQuietTail
import Derived.Laws.BitsAllLaws
import Derived.Lib.SliceRun
namespace Go.Proofs.Ytaphhgiocahnhaa
open Go.RowKit

/-- What a call returns that makes a list of words, or tells why not. -/
def RetS (w : World) (xs : List Int) (er : Int) (e : Ending) (w' : World) : Prop :=
  ∃ v, e = .returned (.tuple #[v, .int .i64 er]) ∧ Owns .u64 33 w' w.heap.size v xs ∧ Below w.heap.size w w'

theorem Owns.set {k : IntKind} {e : TypeId} {w : World} {base g n cap : Nat} {xs : List Int} (h : Owns k e w base (.slice (some ⟨g, 0, none⟩) n cap) xs) (hn : xs.length = n) (j : Nat) (u : Int) : Owns k e (w.setCell ⟨g, j, none⟩ (.int k u)) base (.slice (some ⟨g, 0, none⟩) n cap) (xs.set j u) := by
  subst hn
  have := (World.ownsRow.stored h j (.int k u)).1
  rw [map_set] at this
  unfold Owns
  rw [List.length_set]
  exact this
theorem Owns.cell {k : IntKind} {e : TypeId} {w : World} {base g n cap : Nat} {xs : List Int} (h : Owns k e w base (.slice (some ⟨g, 0, none⟩) n cap) xs) (hn : xs.length = n) {j : Nat} (hj : j < n) : w.cell? ⟨g, j, none⟩ = some (.int k (xs.getD j 0)) := by
  subst hn
  rw [World.ownsRow.cellAt h j (by omega)]
  simp [hj]
theorem Owns.frozen {k : IntKind} {e : TypeId} {w : World} {base g n cap : Nat} {xs : List Int} (h : Owns k e w base (.slice (some ⟨g, 0, none⟩) n cap) xs) (hn : xs.length = n) (j : Nat) : w.frozen? ⟨g, j, none⟩ = false := by
  subst hn
  exact World.ownsRow.frozenAt h j
theorem Owns.empty (w : World) (k : IntKind) (e : TypeId) (base : Nat) (hb : base ≤ w.heap.size) : Owns k e (w.alloc (.cells #[] e)) base (.slice (some ⟨w.heap.size, 0, none⟩) 0 0) [] :=
  ⟨rfl, .inr ⟨w.heap.size, 0, #[], rfl, hb, World.alloc_heap_new w _, Nat.le_refl _, by unfold maxLen; omega, rfl, rfl⟩⟩
theorem Src.reads {k : IntKind} {w : World} {x : Option Addr} {n cap : Nat} {xs : List Int} (h : Src k w x n cap xs) : x = none → n = 0 ∧ cap = 0 := fun e => by
  obtain ⟨_, ⟨_, h1, h2⟩ | ⟨ad, h1, _⟩⟩ := h
  · exact ⟨h1, h2⟩
  · rw [e] at h1; cases h1

set_option maxHeartbeats 1000000 in
theorem clone_any (x : Option Addr) (n cap : Nat) (xs : List Int) (w : World) (hx : Src .u64 w x n cap xs) (hl : n ≤ 17592186044416) :
    Calls Try.prog 32 #[.slice x n cap] w fun e w' => ∃ v, e = .returned v ∧ Owns .u64 33 w' w.heap.size v xs ∧ Below w.heap.size w w' := by
  obtain ⟨i0, hi, hz0, hz1, hz2⟩ := info_parts info_u64
  have hne := fun (w : World) => Lib.run_eql_slice_nil (P := Try.prog) w 42 33 x n cap 0 0 Try.underlying42
  cases x with
  | none =>
    simp only [Option.isNone_none] at hne
    obtain ⟨rfl, rfl⟩ := hx.reads rfl
    obtain rfl : xs = [] := List.length_eq_zero_iff.1 hx.1
    clear hx hi hz0 hz1 hz2
    go_enter Try.func32, Try.ntmps32
    go_wp2
    go_ret
    exact ⟨_, rfl, Owns.nil, Below.refl _ _⟩
  | some ad =>
    simp only [Option.isNone_some] at hne
    have HS := Lib.hid hx
    have HE := Lib.hid (Owns.empty w .u64 33 w.heap.size (Nat.le_refl _))
    have HB := Lib.hid (below_al (Below.refl _ w) (.cells #[] 33))
    have HL := Lib.hid hx.1
    clear hx
    go_enter Try.func32, Try.ntmps32
    go_wp2_with (at_builtin; refine wpList_append_list rfl _ _ 42 rfl w.heap.size 33 i0 .u64 8 Try.underlying42 hi hz0 hz1 hz2 _ [] rfl HE.out (some ad) n cap xs rfl (HS.out.keep HB.out) (by simp [maxLen]; omega) (by simp; omega) (by simp) ?_; intro v' w2 hO hg)
    go_ret
    refine ⟨_, rfl, ?_, HB.out.grown hg HB.out.size (fun g e => HE.out.ownBlock g e)⟩
    simpa using hO

theorem xor_run {a b : Int} (ha : 0 ≤ a ∧ a < 18446744073709551616) (hb : 0 ≤ b ∧ b < 18446744073709551616) : bits .xor .u64 a b = xr a b := u64_xor a b ha.1 ha.2 hb.1 hb.2

set_option maxRecDepth 100000 in
set_option maxHeartbeats 4000000 in
theorem Strike_ok (x : Option Addr) (n cap : Nat) (es : List Ev) (y : Option Addr) (m cap' : Nat) (ws : List Int) (w : World) (hx : ReadsE w w.heap.size x es) (hn : es.length = n) (ho : EvsOk es) (hl : n ≤ 1024) (hy : Src .u64 w y m cap' ws) (hw : Words ws) (hm : m ≤ 16384) :
    Calls Try.prog 28 #[.slice x n cap, .slice y m cap'] w (RetS w (strike es ws) 0) := by
  subst hn
  have HC := Lib.hid (check_any x es.length cap w)
  rw [chk_ok (by omega)] at HC
  have HCl := Lib.hid (clone_any y m cap' ws w hy (by omega))
  have hd : decide (16384 < (m : Int)) = false := by simp; omega
  have HWL := Lib.hid hy.1
  have HW := Lib.hid hw
  have HX := Lib.hid hx
  have HO := Lib.hid ho
  have hmx : Try.prog.follows .mixedOrders = true := by kernel_rfl
  clear hx ho hy hw
  go_enter Try.func28, Try.ntmps28
  go_wp2_with (first
    | (go_at_call 34; refine HC.out.mono ?_; rintro e w' ⟨rfl, rfl⟩)
    | (go_at_call 32; refine HCl.out.mono ?_; rintro e w1 ⟨v, rfl, hO1, hB1⟩))
  obtain ⟨x0, c0, rfl, h1, h2, -, h4⟩ := hO1.form
  have HO1 := Lib.hid hO1
  have HB1 := Lib.hid hB1
  have HF := Lib.hid h4
  clear HC HCl hO1 hB1 h4
  rw [HWL.out] at HO1 HF h1 ⊢
  go_loopw [22] (fun i wr => ∃ k : Nat, k ≤ es.length ∧ i = .int .i64 (k : Int) ∧ Hid (Owns .u64 33 wr w.heap.size (.slice x0 m c0) (strike (es.take k) ws) ∧ Below w.heap.size w wr)) (fun i _ => es.length - (intOf i).toNat)
  case atStart => exact ⟨0, Nat.zero_le _, rfl, Lib.hid ⟨HO1.out, HB1.out⟩⟩
  case round =>
    obtain ⟨k, hk, rfl, HI⟩ := hrel
    clear HO1 HB1
    by_cases hlt : k < es.length
    · obtain ⟨b, off, rfl, hb, hc⟩ := (HX.out.below HI.out.2) (by omega)
      have hok := HO.out.at k
      have hT := take_getD es k hlt
      obtain ⟨u, hu⟩ : ∃ u, u = es.getD k noEv := ⟨_, rfl⟩
      have hcu := hc k hlt
      rw [← hu] at hok hT hcu
      have HN := Lib.hid (fun W => idle_any u (m : Int) W hok)
      have hlen : (strike (es.take k) ws).length = m := by rw [strike_len, HWL.out]
      have HT := Lib.hid (show strike (es.take (k + 1)) ws = hit (strike (es.take k) ws) u by rw [hT, strike_snoc])
      have hWk : Words (strike (es.take k) ws) := strike_words (fun s hs => HO.out s (List.mem_of_mem_take hs)) HW.out
      obtain ⟨z, hz⟩ : ∃ z, z = strike (es.take k) ws := ⟨_, rfl⟩
      rw [← hz] at hlen HT hWk HI
      cases hnu : nul u m
      · rw [hnu] at HN
        obtain ⟨hm0, a0, a1⟩ := nul_false hnu
        obtain ⟨g, rfl, g1, g2⟩ := HF.out (by omega)
        obtain ⟨a, b', c, d, f, q⟩ := u
        obtain ⟨j, rfl⟩ : ∃ j : Nat, f = (j : Int) := ⟨f.toNat, by dsimp only at a0; omega⟩
        dsimp only at a0 a1 hm0
        have HQ : Hid (strike (es.take (k + 1)) ws = z.set j (xr (z.getD j 0) q)) := Lib.hid (by rw [HT.out, hit_set (by rw [hlen]; exact hnu)]; simp)
        obtain ⟨c0', c1, c2, c3, c4, c5⟩ := hcu
        unfold evV at HN
        dsimp only at HN c0' c1 c2 c3 c4 c5
        have hq := hok.2.2.2.2.2
        dsimp only at hq
        have hxr := xor_run (hWk j) hq
        obtain ⟨o, ho'⟩ : ∃ o, o = z.getD j 0 := ⟨_, rfl⟩
        obtain ⟨y', hy'⟩ : ∃ y', y' = xr o q := ⟨_, rfl⟩
        rw [← ho', ← hy'] at hxr HQ
        have HZ := Lib.hid hz
        have HLn := Lib.hid hlen
        have HOz := Lib.hid ho'
        clear hc hT hu HX HO HT hnu hok hz hlen hWk hy' ho' HF
        go_wp2_with (go_at_call 38; refine (HN.out _).mono ?_; rintro e W ⟨rfl, hb1⟩)
        have hOW : Owns .u64 33 W w.heap.size (.slice (some ⟨g, 0, none⟩) m c0) z := (HI.out.1.alloc _).below hb1
        have hBW := below_on (below_al HI.out.2 (.cells #[.int .i64 a, .int .i64 b', .int .i64 c, .int .i64 d, .int .i64 (j : Int), .int .u64 q] 47)) hb1
        have hE := (EvAt.new wr ⟨a, b', c, d, (j : Int), q⟩ 47).below hb1
        have k4 := hE.2.2.2.2.1
        have k5 := hE.2.2.2.2.2
        dsimp only at k4 k5
        have kc := hOW.cell HLn.out (j := j) (by omega)
        rw [← HOz.out] at kc
        have kf := hOW.frozen HLn.out j
        have kg : g < W.heap.size := by
          have := World.block_lt_of_cell? _ _ kc
          exact this
        have HOW := Lib.hid hOW
        have HBW := Lib.hid hBW
        clear hb1 hOW hBW hE c0' c1 c2 c3 c4 c5 HN hb
        refine region_quiet_tail 9 hmx (by kernel_rfl) ?_
        simp only [List.take_succ_cons, List.take_zero, List.drop_succ_cons, List.drop_zero]
        repeat (first | go_big_quiet_step (fail) | quiet_step (fail))
        refine wpQuiet_nil ?_
        rintro w' ⟨nq, rfl⟩
        go_wp2
        go_roundw
        case rel => exact ⟨k + 1, by omega, by congr 1, Lib.hid ⟨by rw [HQ.out]; exact (HOW.out.draws nq).set HLn.out j y', (below_draws HBW.out nq).setCell (p := ⟨g, j, none⟩) (by exact g1) _⟩⟩
        case measure => simp [intOf]; omega
      · rw [hnu] at HN
        have HQ : Hid (strike (es.take (k + 1)) ws = z) := Lib.hid (by rw [HT.out, hit_nul (by rw [hlen]; exact hnu)])
        obtain ⟨a, b', c, d, f, q⟩ := u
        obtain ⟨c0', c1, c2, c3, c4, c5⟩ := hcu
        unfold evV at HN
        dsimp only at HN c0' c1 c2 c3 c4 c5
        clear hc hT hu HX HO HT hnu hok hz hlen hWk HF
        go_wp2_with (go_at_call 38; refine (HN.out _).mono ?_; rintro e W ⟨rfl, hb1⟩)
        go_roundw
        case rel => exact ⟨k + 1, by omega, by congr 1, Lib.hid ⟨by rw [HQ.out]; exact (HI.out.1.alloc _).below hb1, below_on (below_al HI.out.2 _) hb1⟩⟩
        case measure => simp [intOf]; omega
    · have HR : Hid (RetS w (strike es ws) 0 (.returned (.tuple #[.slice x0 m c0, .int .i64 0])) wr) := Lib.hid (by
        have := HI.out
        rw [List.take_of_length_le (by omega)] at this
        exact ⟨_, rfl, this⟩)
      clear HX HO HI HF
      go_wp2
      go_ret2
      exact HR.out

theorem Strike_bad (x : Option Addr) (n cap : Nat) (y : Option Addr) (m cap' : Nat) (w : World) (h : 1024 < n ∨ 16384 < m) :
    Calls Try.prog 28 #[.slice x n cap, .slice y m cap'] w (RetS w [] 1) := by
  have HC := Lib.hid (check_any x n cap w)
  by_cases h1 : 1024 < n
  · rw [chk_bad h1] at HC
    go_enter Try.func28, Try.ntmps28
    go_wp2_with (go_at_call 34; refine HC.out.mono ?_; rintro e w' ⟨rfl, rfl⟩)
    go_ret2
    exact ⟨_, rfl, Owns.nil, Below.refl _ _⟩
  · rw [chk_ok (by omega)] at HC
    have hd : decide (16384 < (m : Int)) = true := by simp; omega
    go_enter Try.func28, Try.ntmps28
    go_wp2_with (go_at_call 34; refine HC.out.mono ?_; rintro e w' ⟨rfl, rfl⟩)
    go_ret2
    exact ⟨_, rfl, Owns.nil, Below.refl _ _⟩

/-- What Strike tells. -/
def stkL (es : List Ev) (ws : List Int) : List Int := if stkE es.length ws.length = 0 then strike es ws else []
theorem stkL_ok {es : List Ev} {ws : List Int} (h : es.length ≤ 1024) (h' : ws.length ≤ 16384) : stkL es ws = strike es ws := by unfold stkL; rw [if_pos (stkE_ok h h')]
theorem stkL_bad {es : List Ev} {ws : List Int} (h : 1024 < es.length ∨ 16384 < ws.length) : stkL es ws = [] := by unfold stkL; rw [if_neg (by rw [stkE_bad h]; decide)]

theorem Strike_any (x : Option Addr) (n cap : Nat) (es : List Ev) (y : Option Addr) (m cap' : Nat) (ws : List Int) (w : World) (hx : ReadsE w w.heap.size x es) (hn : es.length = n) (ho : EvsOk es) (hy : Src .u64 w y m cap' ws) (hw : Words ws) :
    Calls Try.prog 28 #[.slice x n cap, .slice y m cap'] w (RetS w (stkL es ws) (stkE n m)) := by
  have hm := hy.1
  by_cases h : 1024 < n ∨ 16384 < m
  · rw [stkE_bad h, stkL_bad (by omega)]
    exact Strike_bad x n cap y m cap' w h
  · rw [stkE_ok (by omega) (by omega), stkL_ok (by omega) (by omega)]
    exact Strike_ok x n cap es y m cap' ws w hx hn ho (by omega) hy hw (by omega)

set_option maxRecDepth 100000 in
set_option maxHeartbeats 4000000 in
theorem rStrike_ok (x : Option Addr) (n cap : Nat) (es : List Ev) (y : Option Addr) (m cap' : Nat) (ws : List Int) (w : World) (hx : ReadsE w w.heap.size x es) (hn : es.length = n) (ho : EvsOk es) (hl : n ≤ 1024) (hy : Src .u64 w y m cap' ws) (hw : Words ws) (hm : m ≤ 16384) :
    Calls Try.prog 40 #[.slice x n cap, .slice y m cap'] w (RetS w (strike es ws) 0) := by
  subst hn
  have HC := Lib.hid (rcheck_any x es.length cap w)
  rw [chk_ok (by omega)] at HC
  have HSr := Lib.hid hy
  obtain ⟨i0, hi, hz0, hz1, hz2⟩ := info_parts info_u64
  have hd : decide (16384 < (m : Int)) = false := by simp; omega
  have HWL := Lib.hid hy.1
  have HW := Lib.hid hw
  have HX := Lib.hid hx
  have HO := Lib.hid ho
  have hmx : Try.prog.follows .mixedOrders = true := by kernel_rfl
  clear hx ho hy hw
  go_enter Try.func40, Try.ntmps40
  go_wp2_with (first
    | (go_at_call 29; refine HC.out.mono ?_; rintro e w' ⟨rfl, rfl⟩)
    | (at_builtin; refine wpList_copy_new rfl _ _ 42 rfl 33 i0 .u64 8 Try.underlying42 hi hz0 hz1 hz2 y m cap' ws rfl rfl HSr.out (by unfold maxLen; omega) (by omega) ?_; intro v w1 hO1 hB1))
  obtain ⟨x0, c0, rfl, h1, h2, -, h4⟩ := hO1.form
  have HO1 := Lib.hid hO1
  have HB1 := Lib.hid hB1
  have HF := Lib.hid h4
  clear HC HSr hO1 hB1 h4 hi hz0 hz1 hz2
  rw [HWL.out] at HO1 HF h1 ⊢
  go_loopw [22] (fun i wr => ∃ k : Nat, k ≤ es.length ∧ i = .int .i64 (k : Int) ∧ Hid (Owns .u64 33 wr w.heap.size (.slice x0 m c0) (strike (es.take k) ws) ∧ Below w.heap.size w wr)) (fun i _ => es.length - (intOf i).toNat)
  case atStart => exact ⟨0, Nat.zero_le _, rfl, Lib.hid ⟨HO1.out, HB1.out⟩⟩
  case round =>
    obtain ⟨k, hk, rfl, HI⟩ := hrel
    clear HO1 HB1
    by_cases hlt : k < es.length
    · obtain ⟨b, off, rfl, hb, hc⟩ := (HX.out.below HI.out.2) (by omega)
      have hok := HO.out.at k
      have hT := take_getD es k hlt
      obtain ⟨u, hu⟩ : ∃ u, u = es.getD k noEv := ⟨_, rfl⟩
      have hcu := hc k hlt
      rw [← hu] at hok hT hcu
      have HN := Lib.hid (fun W => nothing_any u (m : Int) W hok)
      have hlen : (strike (es.take k) ws).length = m := by rw [strike_len, HWL.out]
      have HT := Lib.hid (show strike (es.take (k + 1)) ws = hit (strike (es.take k) ws) u by rw [hT, strike_snoc])
      have hWk : Words (strike (es.take k) ws) := strike_words (fun s hs => HO.out s (List.mem_of_mem_take hs)) HW.out
      obtain ⟨z, hz⟩ : ∃ z, z = strike (es.take k) ws := ⟨_, rfl⟩
      rw [← hz] at hlen HT hWk HI
      cases hnu : nul u m
      · rw [hnu] at HN
        obtain ⟨hm0, a0, a1⟩ := nul_false hnu
        obtain ⟨g, rfl, g1, g2⟩ := HF.out (by omega)
        obtain ⟨a, b', c, d, f, q⟩ := u
        obtain ⟨j, rfl⟩ : ∃ j : Nat, f = (j : Int) := ⟨f.toNat, by dsimp only at a0; omega⟩
        dsimp only at a0 a1 hm0
        have HQ : Hid (strike (es.take (k + 1)) ws = z.set j (xr (z.getD j 0) q)) := Lib.hid (by rw [HT.out, hit_set (by rw [hlen]; exact hnu)]; simp)
        obtain ⟨c0', c1, c2, c3, c4, c5⟩ := hcu
        unfold evV at HN
        dsimp only at HN c0' c1 c2 c3 c4 c5
        have hq := hok.2.2.2.2.2
        dsimp only at hq
        have hxr := xor_run (hWk j) hq
        obtain ⟨o, ho'⟩ : ∃ o, o = z.getD j 0 := ⟨_, rfl⟩
        obtain ⟨y', hy'⟩ : ∃ y', y' = xr o q := ⟨_, rfl⟩
        rw [← ho', ← hy'] at hxr HQ
        have HZ := Lib.hid hz
        have HLn := Lib.hid hlen
        have HOz := Lib.hid ho'
        clear hc hT hu HX HO HT hnu hok hz hlen hWk hy' ho' HF
        go_wp2_with (go_at_call 44; refine (HN.out _).mono ?_; rintro e W ⟨rfl, hb1⟩)
        have hOW : Owns .u64 33 W w.heap.size (.slice (some ⟨g, 0, none⟩) m c0) z := (HI.out.1.alloc _).below hb1
        have hBW := below_on (below_al HI.out.2 (.cells #[.int .i64 a, .int .i64 b', .int .i64 c, .int .i64 d, .int .i64 (j : Int), .int .u64 q] 47)) hb1
        have hE := (EvAt.new wr ⟨a, b', c, d, (j : Int), q⟩ 47).below hb1
        have k4 := hE.2.2.2.2.1
        have k5 := hE.2.2.2.2.2
        dsimp only at k4 k5
        have kc := hOW.cell HLn.out (j := j) (by omega)
        rw [← HOz.out] at kc
        have kf := hOW.frozen HLn.out j
        have kg : g < W.heap.size := by
          have := World.block_lt_of_cell? _ _ kc
          exact this
        have HOW := Lib.hid hOW
        have HBW := Lib.hid hBW
        clear hb1 hOW hBW hE c0' c1 c2 c3 c4 c5 HN hb
        refine region_quiet_tail 9 hmx (by kernel_rfl) ?_
        simp only [List.take_succ_cons, List.take_zero, List.drop_succ_cons, List.drop_zero]
        repeat (first | go_big_quiet_step (fail) | quiet_step (fail))
        refine wpQuiet_nil ?_
        rintro w' ⟨nq, rfl⟩
        go_wp2
        go_roundw
        case rel => exact ⟨k + 1, by omega, by congr 1, Lib.hid ⟨by rw [HQ.out]; exact (HOW.out.draws nq).set HLn.out j y', (below_draws HBW.out nq).setCell (p := ⟨g, j, none⟩) (by exact g1) _⟩⟩
        case measure => simp [intOf]; omega
      · rw [hnu] at HN
        have HQ : Hid (strike (es.take (k + 1)) ws = z) := Lib.hid (by rw [HT.out, hit_nul (by rw [hlen]; exact hnu)])
        obtain ⟨a, b', c, d, f, q⟩ := u
        obtain ⟨c0', c1, c2, c3, c4, c5⟩ := hcu
        unfold evV at HN
        dsimp only at HN c0' c1 c2 c3 c4 c5
        clear hc hT hu HX HO HT hnu hok hz hlen hWk HF
        go_wp2_with (go_at_call 44; refine (HN.out _).mono ?_; rintro e W ⟨rfl, hb1⟩)
        go_roundw
        case rel => exact ⟨k + 1, by omega, by congr 1, Lib.hid ⟨by rw [HQ.out]; exact (HI.out.1.alloc _).below hb1, below_on (below_al HI.out.2 _) hb1⟩⟩
        case measure => simp [intOf]; omega
    · have HR : Hid (RetS w (strike es ws) 0 (.returned (.tuple #[.slice x0 m c0, .int .i64 0])) wr) := Lib.hid (by
        have := HI.out
        rw [List.take_of_length_le (by omega)] at this
        exact ⟨_, rfl, this⟩)
      clear HX HO HI HF
      go_wp2
      go_ret2
      exact HR.out

theorem rStrike_bad (x : Option Addr) (n cap : Nat) (y : Option Addr) (m cap' : Nat) (w : World) (h : 1024 < n ∨ 16384 < m) :
    Calls Try.prog 40 #[.slice x n cap, .slice y m cap'] w (RetS w [] 1) := by
  have HC := Lib.hid (rcheck_any x n cap w)
  by_cases h1 : 1024 < n
  · rw [chk_bad h1] at HC
    go_enter Try.func40, Try.ntmps40
    go_wp2_with (go_at_call 29; refine HC.out.mono ?_; rintro e w' ⟨rfl, rfl⟩)
    go_ret2
    exact ⟨_, rfl, Owns.nil, Below.refl _ _⟩
  · rw [chk_ok (by omega)] at HC
    have hd : decide (16384 < (m : Int)) = true := by simp; omega
    go_enter Try.func40, Try.ntmps40
    go_wp2_with (go_at_call 29; refine HC.out.mono ?_; rintro e w' ⟨rfl, rfl⟩)
    go_ret2
    exact ⟨_, rfl, Owns.nil, Below.refl _ _⟩

theorem rStrike_any (x : Option Addr) (n cap : Nat) (es : List Ev) (y : Option Addr) (m cap' : Nat) (ws : List Int) (w : World) (hx : ReadsE w w.heap.size x es) (hn : es.length = n) (ho : EvsOk es) (hy : Src .u64 w y m cap' ws) (hw : Words ws) :
    Calls Try.prog 40 #[.slice x n cap, .slice y m cap'] w (RetS w (stkL es ws) (stkE n m)) := by
  have hm := hy.1
  by_cases h : 1024 < n ∨ 16384 < m
  · rw [stkE_bad h, stkL_bad (by omega)]
    exact rStrike_bad x n cap y m cap' w h
  · rw [stkE_ok (by omega) (by omega), stkL_ok (by omega) (by omega)]
    exact rStrike_ok x n cap es y m cap' ws w hx hn ho (by omega) hy hw (by omega)

end Go.Proofs.Ytaphhgiocahnhaa
