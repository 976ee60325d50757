/-
  What Quiet of package script, and of the document's, comes to.
-/
import Derived.Test.YtbdcpjpdonednaaScriptOne
namespace Go.Proofs.Ytbdcpjpdonednaa
open Go.RowKit

/-- What Quiet tells. -/
def qtB (es : List Ev) (m : Int) : Bool := decide (es.length ≤ 1024) && quiet es m
theorem qtB_ok {es : List Ev} {m : Int} (h : es.length ≤ 1024) : qtB es m = quiet es m := by unfold qtB; rw [decide_eq_true h, Bool.true_and]
theorem qtB_bad {es : List Ev} {m : Int} (h : 1024 < es.length) : qtB es m = false := by unfold qtB; rw [decide_eq_false (by omega), Bool.false_and]
theorem take_getD (es : List Ev) (k : Nat) (h : k < es.length) : es.take (k + 1) = es.take k ++ [es.getD k noEv] := by
  rw [List.take_succ_eq_append_getElem h]
  simp [h]
theorem quiet_stop {es : List Ev} {m : Int} {k : Nat} (h : k < es.length) (hn : nul (es.getD k noEv) m = false) : quiet es m = false := by
  unfold quiet
  rw [List.all_eq_false]
  refine ⟨es.getD k noEv, ?_, by rw [hn]; exact Bool.false_ne_true⟩
  rw [List.getD_eq_getElem?_getD, List.getElem?_eq_getElem h]
  exact List.getElem_mem h
theorem ret_be {a b : Bool} {e : Int} (h : a = b) : Ending.returned (.tuple #[.bool a, .int .i64 e]) = .returned (.tuple #[.bool b, .int .i64 e]) := by rw [h]

set_option maxHeartbeats 1000000 in
theorem Quiet_any (x : Option Addr) (n cap : Nat) (es : List Ev) (m : Int) (w : World) (hx : ReadsE w w.heap.size x es) (hn : es.length = n) (ho : EvsOk es) (hl : n ≤ 2932031007403) :
    Calls Try.prog 14 #[.slice x n cap, .int .i64 m] w (RetB (.tuple #[.bool (qtB es m), .int .i64 (chk n)]) w) := by
  subst hn
  have HC := Lib.hid (check_any x es.length cap w)
  by_cases h : 1024 < es.length
  · rw [qtB_bad h, chk_bad h]
    rw [chk_bad h] at HC
    clear hx ho h
    go_enter Try.func14, Try.ntmps14
    go_wp2_with (go_at_call 20; refine HC.out.mono ?_; rintro e w' ⟨rfl, rfl⟩)
    go_ret2
    exact ⟨rfl, Below.refl _ _⟩
  · rw [qtB_ok (by omega), chk_ok (by omega)]
    rw [chk_ok (by omega)] at HC
    have HX := Lib.hid hx
    have HO := Lib.hid ho
    clear hx ho
    go_enter Try.func14, Try.ntmps14
    go_wp2_with (go_at_call 20; refine HC.out.mono ?_; rintro e w' ⟨rfl, rfl⟩)
    clear HC
    go_loopw [16] (fun i wr => ∃ k : Nat, k ≤ es.length ∧ i = .int .i64 (k : Int) ∧ Hid (quiet (es.take k) m = true ∧ Below w.heap.size w wr)) (fun i _ => es.length - (intOf i).toNat)
    case atStart => exact ⟨0, Nat.zero_le _, rfl, Lib.hid ⟨rfl, Below.refl _ _⟩⟩
    case round =>
      obtain ⟨k, hk, rfl, HI⟩ := hrel
      by_cases hlt : k < es.length
      · obtain ⟨b, off, rfl, hb, hc⟩ := (HX.out.below HI.out.2) (by omega)
        have hok := HO.out.at k
        have hT := take_getD es k hlt
        have hS := quiet_stop (m := m) hlt
        obtain ⟨u, hu⟩ : ∃ u, u = es.getD k noEv := ⟨_, rfl⟩
        have hcu := hc k hlt
        rw [← hu] at hok hT hS hcu
        have HN := Lib.hid (fun W => idle_any u m W hok)
        have HT := Lib.hid (show quiet (es.take (k + 1)) m = (quiet (es.take k) m && nul u m) by rw [hT, quiet_snoc])
        have HS := Lib.hid hS
        cases hnu : nul u m
        · rw [hnu] at HN
          have HQ := Lib.hid (HS.out hnu)
          clear hT hS hc hu HX HO HT HS hnu
          obtain ⟨a, b', c, d, f, g⟩ := u
          obtain ⟨c0, c1, c2, c3, c4, c5⟩ := hcu
          unfold evV at HN
          dsimp only at HN c0 c1 c2 c3 c4 c5
          clear hok
          go_wp2_with (go_at_call 28; refine (HN.out _).mono ?_; rintro e w' ⟨rfl, hb1⟩)
          go_ret2
          exact ⟨ret_be HQ.out.symm, below_on (below_al HI.out.2 _) hb1⟩
        · rw [hnu] at HN
          have HQ : Hid (quiet (es.take (k + 1)) m = true) := Lib.hid (by rw [HT.out, HI.out.1, hnu]; rfl)
          clear hT hS hc hu HX HO HT HS hnu
          obtain ⟨a, b', c, d, f, g⟩ := u
          obtain ⟨c0, c1, c2, c3, c4, c5⟩ := hcu
          unfold evV at HN
          dsimp only at HN c0 c1 c2 c3 c4 c5
          clear hok
          go_wp2_with (go_at_call 28; refine (HN.out _).mono ?_; rintro e w' ⟨rfl, hb1⟩)
          go_roundw
          case rel => exact ⟨k + 1, by omega, by congr 1, Lib.hid ⟨HQ.out, below_on (below_al HI.out.2 _) hb1⟩⟩
          case measure => simp [intOf]; omega
      · have HQ : Hid (quiet es m = true) := Lib.hid (by have := HI.out.1; rwa [List.take_of_length_le (by omega)] at this)
        clear HX HO
        go_wp2
        go_ret2
        exact ⟨ret_be HQ.out.symm, HI.out.2⟩

set_option maxHeartbeats 1000000 in
theorem rQuiet_any (x : Option Addr) (n cap : Nat) (es : List Ev) (m : Int) (w : World) (hx : ReadsE w w.heap.size x es) (hn : es.length = n) (ho : EvsOk es) (hl : n ≤ 2932031007403) :
    Calls Try.prog 15 #[.slice x n cap, .int .i64 m] w (RetB (.tuple #[.bool (qtB es m), .int .i64 (chk n)]) w) := by
  subst hn
  have HC := Lib.hid (rcheck_any x es.length cap w)
  by_cases h : 1024 < es.length
  · rw [qtB_bad h, chk_bad h]
    rw [chk_bad h] at HC
    clear hx ho h
    go_enter Try.func15, Try.ntmps15
    go_wp2_with (go_at_call 21; refine HC.out.mono ?_; rintro e w' ⟨rfl, rfl⟩)
    go_ret2
    exact ⟨rfl, Below.refl _ _⟩
  · rw [qtB_ok (by omega), chk_ok (by omega)]
    rw [chk_ok (by omega)] at HC
    have HX := Lib.hid hx
    have HO := Lib.hid ho
    clear hx ho
    go_enter Try.func15, Try.ntmps15
    go_wp2_with (go_at_call 21; refine HC.out.mono ?_; rintro e w' ⟨rfl, rfl⟩)
    clear HC
    go_loopw [16] (fun i wr => ∃ k : Nat, k ≤ es.length ∧ i = .int .i64 (k : Int) ∧ Hid (quiet (es.take k) m = true ∧ Below w.heap.size w wr)) (fun i _ => es.length - (intOf i).toNat)
    case atStart => exact ⟨0, Nat.zero_le _, rfl, Lib.hid ⟨rfl, Below.refl _ _⟩⟩
    case round =>
      obtain ⟨k, hk, rfl, HI⟩ := hrel
      by_cases hlt : k < es.length
      · obtain ⟨b, off, rfl, hb, hc⟩ := (HX.out.below HI.out.2) (by omega)
        have hok := HO.out.at k
        have hT := take_getD es k hlt
        have hS := quiet_stop (m := m) hlt
        obtain ⟨u, hu⟩ : ∃ u, u = es.getD k noEv := ⟨_, rfl⟩
        have hcu := hc k hlt
        rw [← hu] at hok hT hS hcu
        have HN := Lib.hid (fun W => nothing_any u m W hok)
        have HT := Lib.hid (show quiet (es.take (k + 1)) m = (quiet (es.take k) m && nul u m) by rw [hT, quiet_snoc])
        have HS := Lib.hid hS
        cases hnu : nul u m
        · rw [hnu] at HN
          have HQ := Lib.hid (HS.out hnu)
          clear hT hS hc hu HX HO HT HS hnu
          obtain ⟨a, b', c, d, f, g⟩ := u
          obtain ⟨c0, c1, c2, c3, c4, c5⟩ := hcu
          unfold evV at HN
          dsimp only at HN c0 c1 c2 c3 c4 c5
          clear hok
          go_wp2_with (go_at_call 29; refine (HN.out _).mono ?_; rintro e w' ⟨rfl, hb1⟩)
          go_ret2
          exact ⟨ret_be HQ.out.symm, below_on (below_al HI.out.2 _) hb1⟩
        · rw [hnu] at HN
          have HQ : Hid (quiet (es.take (k + 1)) m = true) := Lib.hid (by rw [HT.out, HI.out.1, hnu]; rfl)
          clear hT hS hc hu HX HO HT HS hnu
          obtain ⟨a, b', c, d, f, g⟩ := u
          obtain ⟨c0, c1, c2, c3, c4, c5⟩ := hcu
          unfold evV at HN
          dsimp only at HN c0 c1 c2 c3 c4 c5
          clear hok
          go_wp2_with (go_at_call 29; refine (HN.out _).mono ?_; rintro e w' ⟨rfl, hb1⟩)
          go_roundw
          case rel => exact ⟨k + 1, by omega, by congr 1, Lib.hid ⟨HQ.out, below_on (below_al HI.out.2 _) hb1⟩⟩
          case measure => simp [intOf]; omega
      · have HQ : Hid (quiet es m = true) := Lib.hid (by have := HI.out.1; rwa [List.take_of_length_le (by omega)] at this)
        clear HX HO
        go_wp2
        go_ret2
        exact ⟨ret_be HQ.out.symm, HI.out.2⟩

end Go.Proofs.Ytbdcpjpdonednaa
