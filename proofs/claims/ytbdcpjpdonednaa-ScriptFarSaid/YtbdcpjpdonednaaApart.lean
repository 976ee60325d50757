/-
  What script.apart comes to: it puts the windows in order, and tells whether any two of them differ by 2 or more.
-/
import Derived.Test.YtbdcpjpdonednaaTries
import Derived.Test.YtbdcpjpdonednaaStrike
import Derived.Test.YtbdcpjpdonednaaShelf
import Derived.Sort.OwnSortedInts
import Derived.Shelf.Slices.In.SortNone
import Derived.BigQuiet
namespace Go.Proofs.Ytbdcpjpdonednaa
open Go.RowKit Go.Shelf Go.Sort

theorem sortI_any (g n cap base : Nat) (zs : List Int) (w : World) (hO : Owns .i64 3 w base (.slice (some ⟨g, 0, none⟩) n cap) zs) (hn : zs.length = n) (hl : n ≤ 4611686018427387903) :
    Calls Try.prog 33 #[.slice (some ⟨g, 0, none⟩) n cap] w fun e w' => e = .returned (.tuple #[]) ∧ Owns .i64 3 w' base (.slice (some ⟨g, 0, none⟩) n cap) (srt zs) ∧ w.grownBy w' (some g) := by
  subst hn
  rcases hO.2 with ⟨e, _⟩ | ⟨g', cap', cur, e, hbase, hb, h1, h2, h3, h4⟩
  · cases e
  · cases e
    have hH := holds_of_blockI (ss := zs) hb (by simpa using h4)
    have hg : g < w.heap.size := (Array.getElem?_eq_some_iff.1 hb).1
    refine (Any.slices_Sort_int Try.lays189 g 0 cap zs w hH hg (by omega)).mono ?_
    rintro e w' ⟨rfl, n, os, rfl⟩
    refine ⟨rfl, ?_, grownBy_sortedI _⟩
    have := ownsRow_sortedI (n := n) (os := os) (ss := zs) (ts := srt zs) (srt_len zs) hbase hb h1 h2 h3
    unfold Owns
    rw [srt_len]
    exact this

theorem sortI_none (x : Option Addr) (cap : Nat) (w : World) : Calls Try.prog 33 #[.slice x 0 cap] w fun e w' => e = .returned (.tuple #[]) ∧ w' = w :=
  Any.slices_Sort_int_none Try.lays189 x cap w

theorem wrap_diff {u v : Int} (hu : OkI u) (hv : OkI v) (h : u ≤ v) : IntKind.u64.wrap (IntKind.u64.wrap v - IntKind.u64.wrap u) = v - u := by
  obtain ⟨a, b⟩ := hu
  obtain ⟨c, d⟩ := hv
  have e : ∀ n : Int, IntKind.u64.wrap n = n % 18446744073709551616 := fun n => by simp [IntKind.wrap, IntKind.bits, IntKind.signed]
  rw [e, e, e]
  omega

theorem grown_draws {w w' : World} {row : Option Nat} (h : w.grownBy w' row) (q p : Nat) : w.grownBy ((w'.drewN q).drewN p) row := ⟨h.os, h.tape, h.output, h.size, h.block⟩

theorem ret_bt {a b : Bool} (h : a = b) : Ending.returned (.bool a) = .returned (.bool b) := by rw [h]

set_option maxHeartbeats 1000000 in
theorem apart_any (x : Option Addr) (n cap base : Nat) (zs : List Int) (w : World) (hO : Owns .i64 3 w base (.slice x n cap) zs) (hn : zs.length = n) (hl : n ≤ 1024) (hz : ∀ z ∈ zs, OkI z) :
    Calls Try.prog 26 #[.slice x n cap] w fun e w' => e = .returned (.bool (decide (Far zs))) ∧ w.grownBy w' (Value.slice x n cap).ownBlock := by
  by_cases h0 : n = 0
  · subst h0
    obtain rfl : zs = [] := List.length_eq_zero_iff.1 hn
    rw [decide_eq_true far_nil]
    have HS := Lib.hid (sortI_none x cap w)
    have HG : Hid (w.grownBy w (Value.slice x 0 cap).ownBlock) := Lib.hid ⟨rfl, rfl, rfl, Nat.le_refl _, fun _ _ _ => rfl⟩
    clear hO hz
    go_enter Try.func26, Try.ntmps26
    go_wp2_with (go_at_call 33; refine HS.out.mono ?_; rintro e w' ⟨rfl, rfl⟩)
    refine wp_loop_rounds 1 ?_
    rw [rounds_succ]
    go_wp2
    go_ret
    exact ⟨rfl, HG.out⟩
  · obtain ⟨x', cap', e, -, -, -, hf⟩ := hO.form
    simp only [Value.slice.injEq] at e
    obtain ⟨rfl, -, rfl⟩ := e
    obtain ⟨g, rfl, hg1, hg2⟩ := hf (by omega)
    have HS := Lib.hid (sortI_any g n cap base zs w hO hn (by omega))
    have HLe := Lib.hid (fun i => srt_le zs (i := i))
    have HOk := Lib.hid (srt_ok hz)
    have HL := Lib.hid (srt_len zs)
    have HF := Lib.hid (far_srt zs)
    have hmx : Try.prog.follows .mixedOrders = true := by kernel_rfl
    clear hO hz hf
    go_enter Try.func26, Try.ntmps26
    go_wp2_with (go_at_call 33; refine HS.out.mono ?_; rintro e w1 ⟨rfl, hO1, hG1⟩)
    have HO1 := Lib.hid hO1
    have HG1 := Lib.hid hG1
    clear hO1 hG1 HS
    obtain ⟨m, rfl⟩ : ∃ m, n = m + 1 := ⟨n - 1, by omega⟩
    go_loopw [9] (fun i wr => ∃ k q : Nat, k ≤ m ∧ i = .int .i64 (k : Int) ∧ wr = w1.drewN q ∧ Hid (Adj (srt zs) k)) (fun i _ => m - (intOf i).toNat)
    case atStart => exact ⟨0, 0, Nat.zero_le _, rfl, rfl, Lib.hid (fun i hi _ => by omega)⟩
    case round =>
      obtain ⟨k, q, hk, rfl, rfl, HA⟩ := hrel
      by_cases hlt : k < m
      · have c0 : (w1.drewN q).cell? ⟨g, k, none⟩ = _ := (HO1.out.draws q).cell (by rw [HL.out, hn]) (j := k) (by omega)
        have c1 : (w1.drewN q).cell? ⟨g, k + 1, none⟩ = _ := (HO1.out.draws q).cell (by rw [HL.out, hn]) (j := k + 1) (by omega)
        have hle := HLe.out k (by omega)
        have hd := wrap_diff (HOk.out k) (HOk.out (k + 1)) hle
        obtain ⟨u, hu⟩ : ∃ u, u = (srt zs).getD k 0 := ⟨_, rfl⟩
        obtain ⟨v, hv⟩ : ∃ v, v = (srt zs).getD (k + 1) 0 := ⟨_, rfl⟩
        rw [← hu] at c0 hd
        rw [← hv] at c1 hd
        obtain ⟨u', hu'⟩ : ∃ u', IntKind.u64.wrap u = u' := ⟨_, rfl⟩
        obtain ⟨v', hv'⟩ : ∃ v', IntKind.u64.wrap v = v' := ⟨_, rfl⟩
        rw [hu', hv'] at hd
        obtain ⟨d, hd'⟩ : ∃ d, d = v - u := ⟨_, rfl⟩
        rw [← hd'] at hd
        have HD := Lib.hid (show d = (srt zs).getD (k + 1) 0 - (srt zs).getD k 0 by rw [hd', hu, hv])
        obtain ⟨W, hW⟩ : ∃ W, W = w1.drewN q := ⟨_, rfl⟩
        have HW := Lib.hid hW
        rw [← hW] at c0 c1 ⊢
        clear hu hv hd' hle hW
        by_cases h2 : d < 2
        · have t2 : decide (d < 2) = true := by simpa using h2
          have HR : Hid (decide (Far zs) = false) := Lib.hid (decide_eq_false (fun hF => by
            have := HF.out.1 hF k (by rw [HL.out, hn]; omega) (by rw [HL.out, hn]; omega)
            rw [← HD.out] at this
            omega))
          clear h2
          go_wp2
          go_quiet (fail)
          go_wp2
          go_ret
          exact ⟨ret_bt HR.out.symm, by rw [HW.out]; exact grown_draws HG1.out q nq⟩
        · have t2 : decide (d < 2) = false := by simpa using h2
          have HA' : Hid (Adj (srt zs) (k + 1)) := Lib.hid (fun i hi hi' => by
            by_cases e : i = k
            · subst e; rw [← HD.out]; omega
            · exact HA.out i (by omega) hi')
          clear h2
          go_wp2
          go_quiet (fail)
          go_wp2
          go_roundw
          case rel => exact ⟨k + 1, q + nq, by omega, by go_num, by rw [HW.out, World.drewN_drewN], HA'⟩
          case measure => simp [intOf]; omega
      · have HR : Hid (decide (Far zs) = true) := Lib.hid (decide_eq_true (HF.out.2 fun i _ hi' => HA.out i (by rw [HL.out, hn] at hi'; omega) hi'))
        go_wp2
        go_ret
        exact ⟨ret_bt HR.out.symm, grown_draws HG1.out q 0⟩

end Go.Proofs.Ytbdcpjpdonednaa
