/-
  The walk of ScriptBack: what is struck twice is what it was; struck one by one it is as struck by all.
-/
import Derived.Test.YtbdcpjpdonednaaScriptLive
namespace Go.Proofs.Ytbdcpjpdonednaa
open Go.RowKit

/-- One event, made anew. -/
theorem one_reads (W : World) (s : Ev) : ReadsE (W.alloc (evO s)) (W.alloc (evO s)).heap.size (some ⟨W.heap.size, 0, none⟩) [s] := fun _ => by
  refine ⟨W.heap.size, 0, rfl, by simp [evO], fun j hj => ?_⟩
  obtain rfl : j = 0 := by simp at hj; omega
  exact EvAt.new W s 38
theorem one_ok {s : Ev} (h : EvOk s) : EvsOk [s] := fun t ht => by
  obtain rfl : t = s := by simpa using ht
  exact h
/-- What Strike has made, as a slice that is read, and that is a source. -/
theorem RetS.open {w w' : World} {xs : List Int} {er : Int} {e : Ending} (h : RetS w xs er e w') :
    ∃ x cap, e = .returned (.tuple #[.slice x xs.length cap, .int .i64 er]) ∧ Reads .u64 w' w'.heap.size x xs ∧ Src .u64 w' x xs.length cap xs ∧ Owns .u64 36 w' w.heap.size (.slice x xs.length cap) xs ∧ Below w.heap.size w w' := by
  obtain ⟨v, rfl, hO, hB⟩ := h
  obtain ⟨x, cap, rfl, _, _, hR, _⟩ := hO.form
  obtain ⟨x', cap', e, hS⟩ := hO.src
  simp only [Value.slice.injEq, true_and] at e
  obtain ⟨rfl, rfl⟩ := e
  exact ⟨x, cap, rfl, hR, hS, hO, hB⟩
theorem Reads.since {k : IntKind} {w w' : World} {x : Option Addr} {xs : List Int} (h : Reads k w w.heap.size x xs) (hb : Below w.heap.size w w') : Reads k w' w'.heap.size x xs := (h.below hb).more hb.size

set_option maxRecDepth 100000 in
set_option maxHeartbeats 4000000 in
theorem walk_ScriptBack (x : Option Addr) (len cap : Nat) (es : List Ev) (y : Option Addr) (m cap' : Nat) (zs : List Int) (w : World) (hE : EventIn w x len cap es) (_hlb : len ≤ 2932031007403) (hr : RowIn .u64 w y m cap' zs) :
    Calls Try.prog 4 #[.slice x len cap, .slice y m cap'] w fun e w' => e = .returned (.bool true) ∧ Below w.heap.size w w' := by
  obtain ⟨hn, hc1, hc2, hx, ho⟩ := hE
  obtain ⟨ws, hws, hm, hcp, hml, hy, hw⟩ := hr.reads
  have hsy := hr.src
  rw [← hws] at hsy
  have HV := Lib.hid (live10_any w)
  by_cases h1 : 60 < len
  · have hd : decide (60 < (len : Int)) = true := by simp; omega
    clear hx ho hy hw hsy hr hws
    go_enter Try.func4, Try.ntmps4
    go_wp2_with (go_at_call 9; refine HV.out.mono ?_; rintro e w1 ⟨rfl, hb1⟩)
    go_ret
    exact ⟨rfl, hb1⟩
  · have hd : decide (60 < (len : Int)) = false := by simp; omega
    by_cases h2 : 60 < m
    · have hd2 : decide (60 < (m : Int)) = true := by simp; omega
      clear hx ho hy hw hsy hr hws
      go_enter Try.func4, Try.ntmps4
      go_wp2_with (go_at_call 9; refine HV.out.mono ?_; rintro e w1 ⟨rfl, hb1⟩)
      go_ret
      exact ⟨rfl, hb1⟩
    · have hd2 : decide (60 < (m : Int)) = false := by simp; omega
      have hL : (strike es ws).length = m := by rw [strike_len, hm]
      have HX := Lib.hid hx
      have HN := Lib.hid hn
      have HO := Lib.hid ho
      have HY := Lib.hid hy
      have HSY := Lib.hid hsy
      have HW := Lib.hid hw
      have HM := Lib.hid hm
      have S1 := Lib.hid (fun W (hB : Below w.heap.size w W) => Strike_ok x len cap es y m cap' ws W (hx.since hB) hn ho (by omega) (hsy.keep hB) hw (by omega))
      have S2 := Lib.hid (fun W (hB : Below w.heap.size w W) a c (hS : Src .u64 W a m c (strike es ws)) => Strike_ok x len cap es a m c (strike es ws) W (hx.since hB) hn ho (by omega) hS (strike_words ho hw) (by omega))
      rw [strike_back ho hw] at S2
      have tok1 : True := trivial
      clear hx ho hy hw hsy hr hws hn hm
      go_enter Try.func4, Try.ntmps4
      go_wp2_with (first
        | (go_at_call 9; refine HV.out.mono ?_; rintro e w1 ⟨rfl, hb1⟩; have B1 := Lib.hid hb1; clear hb1)
        | (go_at_call 16; have _t := tok1; refine (S1.out _ B1.out).mono ?_; rintro e w2 hr2; obtain ⟨xa, ca, rfl, hRa, hSa, -, hb2⟩ := hr2.open; rw [hL] at hSa ⊢; have B2 := Lib.hid (below_on B1.out hb2); have RA := Lib.hid hRa; have SA := Lib.hid hSa; clear hb2 hRa hSa hr2 tok1 S1)
        | (go_at_call 16; refine (S2.out _ B2.out _ _ SA.out).mono ?_; rintro e w3 hr3; obtain ⟨xb, cb, rfl, hRb, -, -, hb3⟩ := hr3.open; rw [HM.out]; have B3 := Lib.hid (below_on B2.out hb3); have RB := Lib.hid hRb; have RA3 := Lib.hid (RA.out.since hb3); clear hb3 hRb hr3 S2)
        | (go_at_call 19; refine (sameW_any xb y m m cb cap' ws ws _ w3.heap.size RB.out (HY.out.since B3.out) HM.out HM.out (by omega) (by omega)).mono ?_; rw [decide_eq_true rfl]; rintro e w4 ⟨rfl, nd, rfl⟩))
      obtain ⟨W4, hW4⟩ : ∃ W4, W4 = w3.drewN nd := ⟨_, rfl⟩
      rw [← hW4]
      have B4 : Hid (Below w.heap.size w W4) := Lib.hid (by rw [hW4]; exact below_draws B3.out nd)
      have RA4 : Hid (Reads .u64 W4 W4.heap.size xa (strike es ws)) := Lib.hid (by rw [hW4]; exact RA3.out.draws nd)
      clear hW4 RA RA3 RB B2 B3 SA HV B1
      go_loopw [9, 51] (fun v i wr => ∃ (k : Nat) (x9 : Option Addr) (c9 : Nat), k ≤ len ∧ i = .int .i64 (k : Int) ∧ v = .slice x9 m c9 ∧ Hid (Src .u64 wr x9 m c9 (strike (es.take k) ws) ∧ Reads .u64 wr wr.heap.size x9 (strike (es.take k) ws) ∧ Below W4.heap.size W4 wr)) (fun _ i _ => len - (intOf i).toNat)
      case atStart => exact ⟨0, _, _, Nat.zero_le _, rfl, rfl, Lib.hid ⟨HSY.out.keep B4.out, HY.out.since B4.out, Below.refl _ _⟩⟩
      case round =>
        obtain ⟨k, x9, c9, hk, rfl, rfl, HI⟩ := hrel
        by_cases hlt : k < len
        · have hBw := below_on B4.out HI.out.2.2
          obtain ⟨b, off, rfl, hb, hc⟩ := (HX.out.since hBw) (by have := HN.out; omega)
          have hok := HO.out.at k
          have hT := take_getD es k (by have := HN.out; omega)
          have hcu := hc k (by have := HN.out; omega)
          obtain ⟨u, hu⟩ : ∃ u, u = es.getD k noEv := ⟨_, rfl⟩
          rw [← hu] at hok hT hcu
          have hWk : Words (strike (es.take k) ws) := strike_words (fun s hs => HO.out s (List.mem_of_mem_take hs)) HW.out
          have HT : Hid (strike [u] (strike (es.take k) ws) = strike (es.take (k + 1)) ws) := Lib.hid (by rw [hT, strike_snoc, strike_one])
          have HLk : Hid ((strike (es.take (k + 1)) ws).length = m) := Lib.hid (by rw [strike_len, HM.out])
          have S3 := Strike_ok (some ⟨(wr.alloc (evO u)).heap.size, 0, none⟩) 1 1 [u] x9 m c9 (strike (es.take k) ws) ((wr.alloc (evO u)).alloc (evO u)) (one_reads (wr.alloc (evO u)) u) rfl (one_ok hok) (by omega) ((HI.out.1.keep (below_al (Below.refl _ _) _)).keep (below_al (Below.refl _ _) _)) hWk (by omega)
          rw [HT.out, World.size_alloc] at S3
          clear hc hu hT hWk hok HX HO HT
          obtain ⟨a, c, z, d, f, q⟩ := u
          obtain ⟨c0, c1, c2, c3, c4, c5⟩ := hcu
          unfold evO at S3
          dsimp only at S3 c0 c1 c2 c3 c4 c5
          have HS3 := Lib.hid S3
          clear S3
          go_wp2_with (go_at_call 16; refine HS3.out.mono ?_; rintro e w5 hr5; obtain ⟨x5, c5, rfl, hR5, hS5, -, hb5⟩ := hr5.open; rw [HLk.out] at hS5 ⊢)
          go_roundw
          case rel => exact ⟨k + 1, x5, c5, by omega, by congr 1, rfl, Lib.hid ⟨hS5, hR5, below_on (below_al (below_al HI.out.2.2 _) _) hb5⟩⟩
          case measure => simp [intOf]; omega
        · have HR : Hid (Reads .u64 wr wr.heap.size x9 (strike es ws)) := Lib.hid (by
            have := HI.out.2.1
            rwa [List.take_of_length_le (by have := HN.out; omega)] at this)
          have HLs := Lib.hid hL
          clear hL
          go_wp2_with (go_at_call 19; refine (sameW_any x9 xa m m c9 ca (strike es ws) (strike es ws) _ wr.heap.size HR.out (RA4.out.since HI.out.2.2) HLs.out HLs.out (by omega) (by omega)).mono ?_; rw [decide_eq_true rfl]; rintro e w6 ⟨rfl, nd, rfl⟩)
          go_ret
          exact ⟨rfl, below_draws (below_on B4.out HI.out.2.2) nd⟩

end Go.Proofs.Ytbdcpjpdonednaa
