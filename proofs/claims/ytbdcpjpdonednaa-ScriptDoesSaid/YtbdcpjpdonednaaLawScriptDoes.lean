/-
  The walk of ScriptDoes: whether any events may be, those of any window, whether they are sparse, whether they are quiet, and what they make of any words, or why not; what is handed in stays as it was.
-/
import Derived.Test.YtbdcpjpdonednaaRefOf
import Derived.Test.YtbdcpjpdonednaaRefSparse
import Derived.Test.YtbdcpjpdonednaaLawScriptBack
namespace Go.Proofs.Ytbdcpjpdonednaa
open Go.RowKit

/-- A row of the call's own, whatever stands in it, but that at place c of each part of it there is a word. -/
def RowS (w : World) (base : Nat) (e : TypeId) (sz c : Nat) (v : Value) (n : Nat) : Prop := ∃ vs : List Value, w.ownsRow base e sz v n vs ∧ ∀ j, j < n → ∃ y, vs[j * sz + c]? = some (.int .u64 y)
section
variable {w w' : World} {base sz c n g cap : Nat} {e : TypeId} {v : Value}
theorem RowS.cell (h : RowS w base e sz c (.slice (some ⟨g, 0, none⟩) n cap) n) {j : Nat} (hj : j < n) : ∃ y, w.cell? ⟨g, j * sz + c, none⟩ = some (.int .u64 y) := by
  obtain ⟨vs, h1, h2⟩ := h
  obtain ⟨y, hy⟩ := h2 j hj
  have hl : j * sz + c < vs.length := (List.getElem?_eq_some_iff.1 hy).1
  exact ⟨y, (h1.cellAt (j * sz + c) (by rw [← h1.1]; exact hl)).trans hy⟩
theorem RowS.frozen (h : RowS w base e sz c (.slice (some ⟨g, 0, none⟩) n cap) n) (j : Nat) : w.frozen? ⟨g, j, none⟩ = false := h.choose_spec.1.frozenAt j
theorem RowS.set (h : RowS w base e sz c (.slice (some ⟨g, 0, none⟩) n cap) n) (j : Nat) (y : Int) : RowS (w.setCell ⟨g, j, none⟩ (.int .u64 y)) base e sz c (.slice (some ⟨g, 0, none⟩) n cap) n := by
  obtain ⟨vs, h1, h2⟩ := h
  refine ⟨_, (h1.stored j (.int .u64 y)).1, fun i hi => ?_⟩
  rw [List.getElem?_set]
  by_cases e : j = i * sz + c
  · subst e
    obtain ⟨z, hz⟩ := h2 i hi
    have hl : i * sz + c < vs.length := (List.getElem?_eq_some_iff.1 hz).1
    exact ⟨y, by rw [if_pos rfl, if_pos hl]⟩
  · rw [if_neg e]; exact h2 i hi
theorem RowS.block (h : RowS w base e sz c v n) (hk : ∀ g, base ≤ g → g < w.heap.size → v.ownBlock = some g → w'.heap[g]? = w.heap[g]?) : RowS w' base e sz c v n := by
  obtain ⟨vs, h1, h2⟩ := h
  refine ⟨vs, ⟨h1.1, ?_⟩, h2⟩
  rcases h1.2 with h3 | ⟨g, cap, cur, e1, e2, e3, e4⟩
  · exact .inl h3
  · have hg : g < w.heap.size := by
      rcases Nat.lt_or_ge g w.heap.size with hlt | hge
      · exact hlt
      · rw [Array.getElem?_eq_none hge] at e3; cases e3
    exact .inr ⟨g, cap, cur, e1, e2, (hk g e2 hg (by rw [e1]; rfl)).trans e3, e4⟩
theorem RowS.keep (h : RowS w base e sz c v n) (hb : Below w.heap.size w w') : RowS w' base e sz c v n := h.block fun g _ hg _ => hb.block g hg
theorem RowS.else (h : RowS w base e sz c v n) {g' : Nat} (hg' : g' < base) (j : Nat) (u : Value) : RowS (w.setCell ⟨g', j, none⟩ u) base e sz c v n := h.block fun g h1 _ _ => Below.heap_setCell _ _ _ _ (by show g ≠ g'; omega)
theorem RowS.addr {x : Option Addr} (h : RowS w base e sz c (.slice x n cap) n) (hn : 0 < n) : ∃ g, x = some ⟨g, 0, none⟩ ∧ base ≤ g := by
  obtain ⟨vs, h1, -⟩ := h
  rcases h1.2 with ⟨-, h3⟩ | ⟨g, cap, cur, e1, e2, -⟩
  · omega
  · simp only [Value.slice.injEq] at e1
    exact ⟨g, e1.1, e2⟩
theorem RowS.lt (h : RowS w base e sz c v n) {g : Nat} (hv : v.ownBlock = some g) : base ≤ g := (World.ownsRow.lt h.choose_spec.1 g hv).1
end
theorem OwnsE.rowS {w : World} {base : Nat} {v : Value} {es : List Ev} (h : OwnsE w base v es) : RowS w base 38 6 5 v es.length := ⟨_, h, fun j hj => ⟨(es.getD j noEv).msk, by rw [flatE_get es j hj 5 (by omega)]; rfl⟩⟩
theorem Owns.rowS {w : World} {base : Nat} {v : Value} {xs : List Int} (h : Owns .u64 36 w base v xs) : RowS w base 36 1 0 v xs.length := ⟨_, h, fun j hj => ⟨xs[j], by simp [hj]⟩⟩

def ofA (es : List Ev) (a b c : Int) : List Ev := if es.length ≤ 1024 then ofW es a b c else []
theorem ofA_len (es : List Ev) (a b c : Int) : (ofA es a b c).length ≤ 1024 := by
  unfold ofA
  split
  · have := own_len es a b c; rw [ofW_len]; omega
  · simp
theorem Of_any (x : Option Addr) (n cap : Nat) (es : List Ev) (a b c : Int) (w : World) (hx : ReadsE w w.heap.size x es) (hn : es.length = n) :
    Calls Try.prog 10 #[.slice x n cap, .int .i64 a, .int .i64 b, .int .i64 c] w (RetV w (ofA es a b c) (chk n)) := by
  unfold ofA
  by_cases h : n ≤ 1024
  · rw [if_pos (by omega), chk_ok h]; exact Of_ok x n cap es a b c w hx hn h
  · rw [if_neg (by omega), chk_bad (by omega)]; exact Of_bad x n cap a b c w (by omega)
theorem rOf_bad (x : Option Addr) (n cap : Nat) (a b c : Int) (w : World) (h : 1024 < n) :
    Calls Try.prog 11 #[.slice x n cap, .int .i64 a, .int .i64 b, .int .i64 c] w (RetV w [] 1) := by
  have HC := Lib.hid (rcheck_any x n cap w)
  rw [chk_bad h] at HC
  go_enter Try.func11, Try.ntmps11
  go_wp2_with (go_at_call 21; refine HC.out.mono ?_; rintro e w' ⟨rfl, rfl⟩)
  go_ret2
  exact ⟨_, rfl, OwnsE.nil, Below.refl _ _⟩
theorem rOf_any (x : Option Addr) (n cap : Nat) (es : List Ev) (a b c : Int) (w : World) (hx : ReadsE w w.heap.size x es) (hn : es.length = n) :
    Calls Try.prog 11 #[.slice x n cap, .int .i64 a, .int .i64 b, .int .i64 c] w (RetV w (ofA es a b c) (chk n)) := by
  unfold ofA
  by_cases h : n ≤ 1024
  · rw [if_pos (by omega), chk_ok h]; exact rOf_ok x n cap es a b c w hx hn h
  · rw [if_neg (by omega), chk_bad (by omega)]; exact rOf_bad x n cap a b c w (by omega)
theorem rSparse_any (x : Option Addr) (n cap : Nat) (es : List Ev) (w : World) (hx : ReadsE w w.heap.size x es) (hn : es.length = n) (ho : EvsOk es) (hcap : n ≤ cap) (hcm : cap ≤ maxLen) :
    Calls Try.prog 13 #[.slice x n cap] w (RetB (.tuple #[.bool (spB es), .int .i64 (chk n)]) w) := by
  by_cases h : 1024 < n
  · rw [spB_bad (by omega), chk_bad h]
    have HC := Lib.hid (rcheck_any x n cap w)
    rw [chk_bad h] at HC
    go_enter Try.func13, Try.ntmps13
    go_wp2_with (go_at_call 21; refine HC.out.mono ?_; rintro e w' ⟨rfl, rfl⟩)
    go_ret2
    exact ⟨rfl, Below.refl _ _⟩
  · rw [spB_ok (by omega), chk_ok (by omega)]
    exact rSparse_ok x n cap es w hx hn ho (by omega) hcap hcm

set_option maxRecDepth 100000 in
set_option maxHeartbeats 16000000 in
theorem does_a (x : Option Addr) (len cap : Nat) (es : List Ev) (y : Option Addr) (m cap' : Nat) (ws : List Int) (a b c n : Int) (w : World) (hcap : len ≤ cap) (hcm : cap ≤ maxLen) (hn : es.length = len) (hsx : SrcE w x len cap es) (hx : ReadsE w w.heap.size x es) (ho : EvsOk es) (hm : ws.length = m) (hsy : Src .u64 w y m cap' ws) (hy : Reads .u64 w w.heap.size y ws) (hw : Words ws)
    (hl1 : len ≤ 60) (hl2 : m ≤ 60) :
    Calls Try.prog 3 #[.slice x len cap, .slice y m cap', .int .i64 a, .int .i64 b, .int .i64 c, .int .i64 n] w fun e w' => e = .returned (.bool true) ∧ Below w.heap.size w w' := by
  have HV := Lib.hid (live10_any w)
  have d1 : decide ((60 : Int) < (len : Int)) = false := by simp; omega
  have d3 : decide ((1030 : Int) < (len : Int)) = false := by simp; omega
  have d4 : decide ((60 : Int) < (m : Int)) = false := by simp; omega
  have d6 : decide ((16390 : Int) < (m : Int)) = false := by simp; omega
  have hlb : len ≤ 1030 ∧ m ≤ 16390 := by omega
  have HX := Lib.hid hx
  have HY := Lib.hid hy
  have HN := Lib.hid hn
  have HM := Lib.hid hm
  have HSX := Lib.hid (fun W (hB : Below w.heap.size w W) => hsx.keep hB)
  have HSY := Lib.hid (fun W (hB : Below w.heap.size w W) => hsy.keep hB)
  obtain ⟨i0, hi, hz0, hz1, hz2⟩ := info_parts info_u64
  have K1 := Lib.hid (fun W (hB : Below w.heap.size w W) => Of_any x len cap es a b c W (hx.since hB) hn)
  have K2 := Lib.hid (fun W (hB : Below w.heap.size w W) => rOf_any x len cap es a b c W (hx.since hB) hn)
  have K3 := Lib.hid (fun W (hB : Below w.heap.size w W) => Sparse_any x len cap es W (hx.since hB) hn ho)
  have K4 := Lib.hid (fun W (hB : Below w.heap.size w W) => rSparse_any x len cap es W (hx.since hB) hn ho hcap hcm)
  have K5 := Lib.hid (fun W (hB : Below w.heap.size w W) => Quiet_any x len cap es n W (hx.since hB) hn ho (by omega))
  have K6 := Lib.hid (fun W (hB : Below w.heap.size w W) => rQuiet_any x len cap es n W (hx.since hB) hn ho (by omega))
  have K7 := Lib.hid (fun W (hB : Below w.heap.size w W) => Strike_any x len cap es y m cap' ws W (hx.since hB) hn ho (hsy.keep hB) hw)
  have K8 := Lib.hid (fun W (hB : Below w.heap.size w W) => rStrike_any x len cap es y m cap' ws W (hx.since hB) hn ho (hsy.keep hB) hw)
  have K9 := Lib.hid (fun W => check_any x len cap W)
  have K10 := Lib.hid (fun W => rcheck_any x len cap W)
  obtain ⟨er, her⟩ : ∃ er, er = chk len := ⟨_, rfl⟩
  rw [← her] at K1 K2 K3 K4 K5 K6 K9 K10
  obtain ⟨es2, hes2⟩ : ∃ es2, es2 = stkE len m := ⟨_, rfl⟩
  rw [← hes2] at K7 K8
  obtain ⟨sp, hsp⟩ : ∃ sp, sp = spB es := ⟨_, rfl⟩
  rw [← hsp] at K3 K4
  obtain ⟨qu, hqu⟩ : ∃ qu, qu = qtB es n := ⟨_, rfl⟩
  rw [← hqu] at K5 K6
  have hl4 := ofA_len es a b c
  obtain ⟨os, hos⟩ : ∃ os, os = ofA es a b c := ⟨_, rfl⟩
  rw [← hos] at K1 K2 hl4
  have hl5 : (stkL es ws).length ≤ 16390 := by
    unfold stkL
    split
    · rw [strike_len]; omega
    · simp
  obtain ⟨ss, hss⟩ : ∃ ss, ss = stkL es ws := ⟨_, rfl⟩
  rw [← hss] at K7 K8 hl5
  obtain ⟨m4, hm4⟩ : ∃ m4, m4 = os.length := ⟨_, rfl⟩
  obtain ⟨m5, hm5⟩ : ∃ m5, m5 = ss.length := ⟨_, rfl⟩
  have HM4 : Hid (os.length = m4) := Lib.hid hm4.symm
  have HM5 : Hid (ss.length = m5) := Lib.hid hm5.symm
  rw [← hm4] at hl4
  rw [← hm5] at hl5
  clear hx hy hn hm hsx hsy ho hw her hes2 hsp hqu hos hss hm4 hm5 hcap hcm
  go_enter Try.func3, Try.ntmps3
  go_wp2_with (first
    | (go_at_call 9; refine HV.out.mono ?_; rintro e w1 ⟨rfl, hb1⟩; have B1 := Lib.hid hb1; clear hb1)
    | (at_builtin; refine wpList_append_ev rfl _ _ rfl w1.heap.size _ [] rfl OwnsE.nil x len cap es rfl (HSX.out _ B1.out) (by simp; omega) (Nat.le_refl _) ?_; intro v2 w2 hO2 hg2; have hb2 := (Below.refl w1.heap.size w1).grown hg2 (Nat.le_refl _) (fun g e => by cases e); obtain ⟨x2, k2, rfl, -, -, hR2, -⟩ := hO2.form; rw [List.nil_append] at hR2; rw [List.nil_append, HN.out]; have R2 := Lib.hid hR2; have B2 := Lib.hid (below_on B1.out hb2); clear hO2 hg2 hb2 hR2 HSX)
    | (at_builtin; refine wpList_copy_new rfl _ _ 23 rfl 36 i0 .u64 8 Try.underlying23 hi hz0 hz1 hz2 y m cap' ws rfl rfl (HSY.out _ B2.out) (by unfold maxLen; omega) (by omega) ?_; intro v3 w3 hO3 hb3; obtain ⟨x3, k3, rfl, -, -, hR3, -⟩ := hO3.form; rw [HM.out]; have R3 := Lib.hid hR3; have R2' := Lib.hid (R2.out.since hb3); have B3 := Lib.hid (below_on B2.out hb3); clear hO3 hb3 hR3 HSY R2)
    | (go_at_call 10; refine (K1.out _ B3.out).mono ?_; rintro e w4 hr4; obtain ⟨x4, k4, rfl, hR4, -, hO4, hb4⟩ := hr4.open; have O4 := Lib.hid hO4.rowS; have HG4 := Lib.hid (fun g (e : x4 = some ⟨g, 0, none⟩) => (World.ownsRow.lt hO4 g (by rw [e]; rfl)).2); rw [HM4.out] at O4 ⊢; have R4 := Lib.hid hR4; have B4 := Lib.hid (below_on B3.out hb4); have D4 := Lib.hid hb4; clear hr4 hR4 hO4 hb4 K1)
    | (go_at_call 11; refine (K2.out _ B4.out).mono ?_; rintro e w5 hr5; obtain ⟨x5, k5, rfl, hR5, -, -, hb5⟩ := hr5.open; rw [HM4.out]; have R5 := Lib.hid hR5; have B5 := Lib.hid (below_on B4.out hb5); have D5 := Lib.hid (below_on D4.out hb5); have E5 := Lib.hid hb5; clear hr5 hR5 hb5 K2)
    | (go_at_call 12; refine (K3.out _ B5.out).mono ?_; rintro e w6 ⟨rfl, hb6⟩; have B6 := Lib.hid (below_on B5.out hb6); have D6 := Lib.hid (below_on D5.out hb6); have E6 := Lib.hid (below_on E5.out hb6); have F6 := Lib.hid hb6; clear hb6 K3)
    | (go_at_call 13; refine (K4.out _ B6.out).mono ?_; rintro e w7 ⟨rfl, hb7⟩; have B7 := Lib.hid (below_on B6.out hb7); have D7 := Lib.hid (below_on D6.out hb7); have E7 := Lib.hid (below_on E6.out hb7); have F7 := Lib.hid (below_on F6.out hb7); clear hb7 K4)
    | (go_at_call 14; refine (K5.out _ B7.out).mono ?_; rintro e w8 ⟨rfl, hb8⟩; have B8 := Lib.hid (below_on B7.out hb8); have D8 := Lib.hid (below_on D7.out hb8); have E8 := Lib.hid (below_on E7.out hb8); have F8 := Lib.hid (below_on F7.out hb8); clear hb8 K5)
    | (go_at_call 15; refine (K6.out _ B8.out).mono ?_; rintro e w9 ⟨rfl, hb9⟩; have B9 := Lib.hid (below_on B8.out hb9); have D9 := Lib.hid (below_on D8.out hb9); have E9 := Lib.hid (below_on E8.out hb9); have F9 := Lib.hid (below_on F8.out hb9); clear hb9 K6)
    | (go_at_call 16; refine (K7.out _ B9.out).mono ?_; rintro e w10 hr10; obtain ⟨x10, k10, rfl, hR10, -, hO10, hb10⟩ := hr10.open; have O10 := Lib.hid hO10.rowS; rw [HM5.out] at O10 ⊢; have R10 := Lib.hid hR10; have B10 := Lib.hid (below_on B9.out hb10); have D10 := Lib.hid (below_on D9.out hb10); have E10 := Lib.hid (below_on E9.out hb10); have F10 := Lib.hid (below_on F9.out hb10); clear hr10 hR10 hO10 hb10 K7)
    | (go_at_call 17; refine (K8.out _ B10.out).mono ?_; rintro e w11 hr11; obtain ⟨x11, k11, rfl, hR11, -, -, hb11⟩ := hr11.open; rw [HM5.out]; have R11 := Lib.hid hR11; have B11 := Lib.hid (below_on B10.out hb11); have D11 := Lib.hid (below_on D10.out hb11); have T4 := Lib.hid (R4.out.since (below_on E10.out hb11)); have T5 := Lib.hid (R5.out.since (below_on F10.out hb11)); have T10 := Lib.hid (R10.out.since hb11); have P4 := Lib.hid (O4.out.keep (below_on E10.out hb11)); have P10 := Lib.hid (O10.out.keep hb11); have HS49 : Hid (w4.heap.size ≤ w9.heap.size) := Lib.hid E9.out.size; clear hr11 hR11 hb11 K8 R4 R5 R10 O4 O10 B4 B5 B6 B7 B8 B9 B10 D5 D6 D7 D8 D9 D10 E5 E6 E7 E8 E9 E10 F6 F7 F8 F9 F10)
    | (go_at_call 18; refine (sameE_any x4 x5 m4 m4 k4 k5 os os _ w11.heap.size T4.out T5.out HM4.out HM4.out (by omega) (by omega)).mono ?_; rw [decide_eq_true rfl]; rintro e w' ⟨rfl, q1, rfl⟩; clear T4 T5)
    | (go_at_call 19; refine (sameW_any x10 x11 m5 m5 k10 k11 ss ss _ w11.heap.size (T10.out.draws _) (R11.out.draws _) HM5.out HM5.out (by omega) (by omega)).mono ?_; rw [decide_eq_true rfl]; rintro e w' ⟨rfl, q2, rfl⟩; clear T10 R11)
    | (go_at_call 20; refine (K9.out _).mono ?_; rintro e w' ⟨rfl, rfl⟩)
    | (go_at_call 21; refine (K10.out _).mono ?_; rintro e w' ⟨rfl, rfl⟩))
  clear HV K9 K10 hi hz0 hz1 hz2 B1 B2
  go_loopw [165] (fun i wr => ∃ j : Nat, j ≤ m4 ∧ i = .int .i64 (j : Int) ∧ Hid (RowS wr w3.heap.size 38 6 5 (.slice x4 m4 k4) m4 ∧ RowS wr w9.heap.size 36 1 0 (.slice x10 m5 k10) m5 ∧ Below w3.heap.size w3 wr)) (fun i _ => m4 - (intOf i).toNat)
  case atStart => exact ⟨0, Nat.zero_le _, rfl, Lib.hid ⟨P4.out, P10.out, by first | exact below_draws D11.out _ | exact below_draws (below_draws D11.out _) _⟩⟩
  case round =>
    clear P4 P10 D11
    obtain ⟨j, hj, rfl, HI⟩ := hrel
    by_cases hlt : j < m4
    · obtain ⟨g, hg0, hg1⟩ := HI.out.1.addr (by omega)
      have hg2 := HG4.out g hg0
      subst hg0
      obtain ⟨yv, hc⟩ := HI.out.1.cell hlt
      have hf := HI.out.1.frozen (j * 6 + 5)
      have HG1 := Lib.hid hg1
      have HG2 : Hid (g < w9.heap.size) := Lib.hid (by have := HS49.out; omega)
      clear hg1 hg2
      go_wp2
      go_roundw
      case rel => exact ⟨j + 1, by omega, by go_num, Lib.hid ⟨HI.out.1.set _ _, HI.out.2.1.else HG2.out _ _, HI.out.2.2.setCell (p := ⟨g, j * 6 + 5, none⟩) HG1.out _⟩⟩
      case measure => simp [intOf]; omega
    · have HI1 : Hid (RowS wr w9.heap.size 36 1 0 (.slice x10 m5 k10) m5 ∧ Below w3.heap.size w3 wr) := Lib.hid HI.out.2
      clear HI
      go_wp2
      go_loopw [179] (fun i wr => ∃ j : Nat, j ≤ m5 ∧ i = .int .i64 (j : Int) ∧ Hid (RowS wr w9.heap.size 36 1 0 (.slice x10 m5 k10) m5 ∧ Below w3.heap.size w3 wr)) (fun i _ => m5 - (intOf i).toNat)
      case atStart => exact ⟨0, Nat.zero_le _, rfl, HI1⟩
      case round =>
        clear HI1
        obtain ⟨j2, hj2, rfl, HI⟩ := hrel
        by_cases hlt2 : j2 < m5
        · obtain ⟨g, hg0, hg1⟩ := HI.out.1.addr (by omega)
          subst hg0
          obtain ⟨yv, hc⟩ := HI.out.1.cell hlt2
          have hf := HI.out.1.frozen (j2 * 1 + 0)
          rw [Nat.mul_one, Nat.add_zero] at hc hf
          have HG1 : Hid (w3.heap.size ≤ g) := Lib.hid (by have := HS49.out; have := D4.out.size; omega)
          clear hg1
          go_wp2
          go_roundw
          case rel => exact ⟨j2 + 1, by omega, by go_num, Lib.hid ⟨HI.out.1.set _ _, HI.out.2.setCell (p := ⟨g, j2, none⟩) HG1.out _⟩⟩
          case measure => simp [intOf]; omega
        · have HF := Lib.hid (below_on B3.out HI.out.2)
          have S1 := Lib.hid (sameE_any x x2 len len cap k2 es es wr wr.heap.size (HX.out.since HF.out) (R2'.out.since HI.out.2) HN.out HN.out (by omega) (by omega))
          have S2 := Lib.hid (fun q => sameW_any y x3 m m cap' k3 ws ws (wr.drewN q) wr.heap.size ((HY.out.since HF.out).draws _) ((R3.out.since HI.out.2).draws _) HM.out HM.out (by omega) (by omega))
          rw [decide_eq_true rfl] at S1 S2
          clear HI
          go_wp2_with (first
            | (go_at_call 18; refine S1.out.mono ?_; rintro e w' ⟨rfl, q3, rfl⟩)
            | (go_at_call 19; refine (S2.out _).mono ?_; rintro e w' ⟨rfl, q4, rfl⟩))
          go_ret
          exact ⟨by simp, by first | exact below_draws HF.out _ | exact below_draws (below_draws HF.out _) _⟩

set_option maxRecDepth 100000 in
set_option maxHeartbeats 16000000 in
theorem does_b (x : Option Addr) (len cap : Nat) (es : List Ev) (y : Option Addr) (m cap' : Nat) (ws : List Int) (a b c n : Int) (w : World) (hcap : len ≤ cap) (hcm : cap ≤ maxLen) (hn : es.length = len) (hsx : SrcE w x len cap es) (hx : ReadsE w w.heap.size x es) (ho : EvsOk es) (hm : ws.length = m) (hsy : Src .u64 w y m cap' ws) (hy : Reads .u64 w w.heap.size y ws) (hw : Words ws)
    (hl1 : len ≤ 60) (hl2 : 16384 < m ∧ m ≤ 16390) :
    Calls Try.prog 3 #[.slice x len cap, .slice y m cap', .int .i64 a, .int .i64 b, .int .i64 c, .int .i64 n] w fun e w' => e = .returned (.bool true) ∧ Below w.heap.size w w' := by
  have HV := Lib.hid (live10_any w)
  have d1 : decide ((60 : Int) < (len : Int)) = false := by simp; omega
  have d3 : decide ((1030 : Int) < (len : Int)) = false := by simp; omega
  have d4 : decide ((60 : Int) < (m : Int)) = true := by simp; omega
  have d5 : decide ((m : Int) ≤ 16384) = false := by simp; omega
  have d6 : decide ((16390 : Int) < (m : Int)) = false := by simp; omega
  have hlb : len ≤ 1030 ∧ m ≤ 16390 := by omega
  have HX := Lib.hid hx
  have HY := Lib.hid hy
  have HN := Lib.hid hn
  have HM := Lib.hid hm
  have HSX := Lib.hid (fun W (hB : Below w.heap.size w W) => hsx.keep hB)
  have HSY := Lib.hid (fun W (hB : Below w.heap.size w W) => hsy.keep hB)
  obtain ⟨i0, hi, hz0, hz1, hz2⟩ := info_parts info_u64
  have K1 := Lib.hid (fun W (hB : Below w.heap.size w W) => Of_any x len cap es a b c W (hx.since hB) hn)
  have K2 := Lib.hid (fun W (hB : Below w.heap.size w W) => rOf_any x len cap es a b c W (hx.since hB) hn)
  have K3 := Lib.hid (fun W (hB : Below w.heap.size w W) => Sparse_any x len cap es W (hx.since hB) hn ho)
  have K4 := Lib.hid (fun W (hB : Below w.heap.size w W) => rSparse_any x len cap es W (hx.since hB) hn ho hcap hcm)
  have K5 := Lib.hid (fun W (hB : Below w.heap.size w W) => Quiet_any x len cap es n W (hx.since hB) hn ho (by omega))
  have K6 := Lib.hid (fun W (hB : Below w.heap.size w W) => rQuiet_any x len cap es n W (hx.since hB) hn ho (by omega))
  have K7 := Lib.hid (fun W (hB : Below w.heap.size w W) => Strike_any x len cap es y m cap' ws W (hx.since hB) hn ho (hsy.keep hB) hw)
  have K8 := Lib.hid (fun W (hB : Below w.heap.size w W) => rStrike_any x len cap es y m cap' ws W (hx.since hB) hn ho (hsy.keep hB) hw)
  have K9 := Lib.hid (fun W => check_any x len cap W)
  have K10 := Lib.hid (fun W => rcheck_any x len cap W)
  obtain ⟨er, her⟩ : ∃ er, er = chk len := ⟨_, rfl⟩
  rw [← her] at K1 K2 K3 K4 K5 K6 K9 K10
  obtain ⟨es2, hes2⟩ : ∃ es2, es2 = stkE len m := ⟨_, rfl⟩
  rw [← hes2] at K7 K8
  obtain ⟨sp, hsp⟩ : ∃ sp, sp = spB es := ⟨_, rfl⟩
  rw [← hsp] at K3 K4
  obtain ⟨qu, hqu⟩ : ∃ qu, qu = qtB es n := ⟨_, rfl⟩
  rw [← hqu] at K5 K6
  have hl4 := ofA_len es a b c
  obtain ⟨os, hos⟩ : ∃ os, os = ofA es a b c := ⟨_, rfl⟩
  rw [← hos] at K1 K2 hl4
  have hl5 : (stkL es ws).length ≤ 16390 := by
    unfold stkL
    split
    · rw [strike_len]; omega
    · simp
  obtain ⟨ss, hss⟩ : ∃ ss, ss = stkL es ws := ⟨_, rfl⟩
  rw [← hss] at K7 K8 hl5
  obtain ⟨m4, hm4⟩ : ∃ m4, m4 = os.length := ⟨_, rfl⟩
  obtain ⟨m5, hm5⟩ : ∃ m5, m5 = ss.length := ⟨_, rfl⟩
  have HM4 : Hid (os.length = m4) := Lib.hid hm4.symm
  have HM5 : Hid (ss.length = m5) := Lib.hid hm5.symm
  rw [← hm4] at hl4
  rw [← hm5] at hl5
  clear hx hy hn hm hsx hsy ho hw her hes2 hsp hqu hos hss hm4 hm5 hcap hcm
  go_enter Try.func3, Try.ntmps3
  go_wp2_with (first
    | (go_at_call 9; refine HV.out.mono ?_; rintro e w1 ⟨rfl, hb1⟩; have B1 := Lib.hid hb1; clear hb1)
    | (at_builtin; refine wpList_append_ev rfl _ _ rfl w1.heap.size _ [] rfl OwnsE.nil x len cap es rfl (HSX.out _ B1.out) (by simp; omega) (Nat.le_refl _) ?_; intro v2 w2 hO2 hg2; have hb2 := (Below.refl w1.heap.size w1).grown hg2 (Nat.le_refl _) (fun g e => by cases e); obtain ⟨x2, k2, rfl, -, -, hR2, -⟩ := hO2.form; rw [List.nil_append] at hR2; rw [List.nil_append, HN.out]; have R2 := Lib.hid hR2; have B2 := Lib.hid (below_on B1.out hb2); clear hO2 hg2 hb2 hR2 HSX)
    | (at_builtin; refine wpList_copy_new rfl _ _ 23 rfl 36 i0 .u64 8 Try.underlying23 hi hz0 hz1 hz2 y m cap' ws rfl rfl (HSY.out _ B2.out) (by unfold maxLen; omega) (by omega) ?_; intro v3 w3 hO3 hb3; obtain ⟨x3, k3, rfl, -, -, hR3, -⟩ := hO3.form; rw [HM.out]; have R3 := Lib.hid hR3; have R2' := Lib.hid (R2.out.since hb3); have B3 := Lib.hid (below_on B2.out hb3); clear hO3 hb3 hR3 HSY R2)
    | (go_at_call 10; refine (K1.out _ B3.out).mono ?_; rintro e w4 hr4; obtain ⟨x4, k4, rfl, hR4, -, hO4, hb4⟩ := hr4.open; have O4 := Lib.hid hO4.rowS; have HG4 := Lib.hid (fun g (e : x4 = some ⟨g, 0, none⟩) => (World.ownsRow.lt hO4 g (by rw [e]; rfl)).2); rw [HM4.out] at O4 ⊢; have R4 := Lib.hid hR4; have B4 := Lib.hid (below_on B3.out hb4); have D4 := Lib.hid hb4; clear hr4 hR4 hO4 hb4 K1)
    | (go_at_call 11; refine (K2.out _ B4.out).mono ?_; rintro e w5 hr5; obtain ⟨x5, k5, rfl, hR5, -, -, hb5⟩ := hr5.open; rw [HM4.out]; have R5 := Lib.hid hR5; have B5 := Lib.hid (below_on B4.out hb5); have D5 := Lib.hid (below_on D4.out hb5); have E5 := Lib.hid hb5; clear hr5 hR5 hb5 K2)
    | (go_at_call 12; refine (K3.out _ B5.out).mono ?_; rintro e w6 ⟨rfl, hb6⟩; have B6 := Lib.hid (below_on B5.out hb6); have D6 := Lib.hid (below_on D5.out hb6); have E6 := Lib.hid (below_on E5.out hb6); have F6 := Lib.hid hb6; clear hb6 K3)
    | (go_at_call 13; refine (K4.out _ B6.out).mono ?_; rintro e w7 ⟨rfl, hb7⟩; have B7 := Lib.hid (below_on B6.out hb7); have D7 := Lib.hid (below_on D6.out hb7); have E7 := Lib.hid (below_on E6.out hb7); have F7 := Lib.hid (below_on F6.out hb7); clear hb7 K4)
    | (go_at_call 14; refine (K5.out _ B7.out).mono ?_; rintro e w8 ⟨rfl, hb8⟩; have B8 := Lib.hid (below_on B7.out hb8); have D8 := Lib.hid (below_on D7.out hb8); have E8 := Lib.hid (below_on E7.out hb8); have F8 := Lib.hid (below_on F7.out hb8); clear hb8 K5)
    | (go_at_call 15; refine (K6.out _ B8.out).mono ?_; rintro e w9 ⟨rfl, hb9⟩; have B9 := Lib.hid (below_on B8.out hb9); have D9 := Lib.hid (below_on D8.out hb9); have E9 := Lib.hid (below_on E8.out hb9); have F9 := Lib.hid (below_on F8.out hb9); clear hb9 K6)
    | (go_at_call 16; refine (K7.out _ B9.out).mono ?_; rintro e w10 hr10; obtain ⟨x10, k10, rfl, hR10, -, hO10, hb10⟩ := hr10.open; have O10 := Lib.hid hO10.rowS; rw [HM5.out] at O10 ⊢; have R10 := Lib.hid hR10; have B10 := Lib.hid (below_on B9.out hb10); have D10 := Lib.hid (below_on D9.out hb10); have E10 := Lib.hid (below_on E9.out hb10); have F10 := Lib.hid (below_on F9.out hb10); clear hr10 hR10 hO10 hb10 K7)
    | (go_at_call 17; refine (K8.out _ B10.out).mono ?_; rintro e w11 hr11; obtain ⟨x11, k11, rfl, hR11, -, -, hb11⟩ := hr11.open; rw [HM5.out]; have R11 := Lib.hid hR11; have B11 := Lib.hid (below_on B10.out hb11); have D11 := Lib.hid (below_on D10.out hb11); have T4 := Lib.hid (R4.out.since (below_on E10.out hb11)); have T5 := Lib.hid (R5.out.since (below_on F10.out hb11)); have T10 := Lib.hid (R10.out.since hb11); have P4 := Lib.hid (O4.out.keep (below_on E10.out hb11)); have P10 := Lib.hid (O10.out.keep hb11); have HS49 : Hid (w4.heap.size ≤ w9.heap.size) := Lib.hid E9.out.size; clear hr11 hR11 hb11 K8 R4 R5 R10 O4 O10 B4 B5 B6 B7 B8 B9 B10 D5 D6 D7 D8 D9 D10 E5 E6 E7 E8 E9 E10 F6 F7 F8 F9 F10)
    | (go_at_call 18; refine (sameE_any x4 x5 m4 m4 k4 k5 os os _ w11.heap.size T4.out T5.out HM4.out HM4.out (by omega) (by omega)).mono ?_; rw [decide_eq_true rfl]; rintro e w' ⟨rfl, q1, rfl⟩; clear T4 T5)
    | (go_at_call 19; refine (sameW_any x10 x11 m5 m5 k10 k11 ss ss _ w11.heap.size (T10.out.draws _) (R11.out.draws _) HM5.out HM5.out (by omega) (by omega)).mono ?_; rw [decide_eq_true rfl]; rintro e w' ⟨rfl, q2, rfl⟩; clear T10 R11)
    | (go_at_call 20; refine (K9.out _).mono ?_; rintro e w' ⟨rfl, rfl⟩)
    | (go_at_call 21; refine (K10.out _).mono ?_; rintro e w' ⟨rfl, rfl⟩))
  clear HV K9 K10 hi hz0 hz1 hz2 B1 B2
  go_loopw [165] (fun i wr => ∃ j : Nat, j ≤ m4 ∧ i = .int .i64 (j : Int) ∧ Hid (RowS wr w3.heap.size 38 6 5 (.slice x4 m4 k4) m4 ∧ RowS wr w9.heap.size 36 1 0 (.slice x10 m5 k10) m5 ∧ Below w3.heap.size w3 wr)) (fun i _ => m4 - (intOf i).toNat)
  case atStart => exact ⟨0, Nat.zero_le _, rfl, Lib.hid ⟨P4.out, P10.out, by first | exact below_draws D11.out _ | exact below_draws (below_draws D11.out _) _⟩⟩
  case round =>
    clear P4 P10 D11
    obtain ⟨j, hj, rfl, HI⟩ := hrel
    by_cases hlt : j < m4
    · obtain ⟨g, hg0, hg1⟩ := HI.out.1.addr (by omega)
      have hg2 := HG4.out g hg0
      subst hg0
      obtain ⟨yv, hc⟩ := HI.out.1.cell hlt
      have hf := HI.out.1.frozen (j * 6 + 5)
      have HG1 := Lib.hid hg1
      have HG2 : Hid (g < w9.heap.size) := Lib.hid (by have := HS49.out; omega)
      clear hg1 hg2
      go_wp2
      go_roundw
      case rel => exact ⟨j + 1, by omega, by go_num, Lib.hid ⟨HI.out.1.set _ _, HI.out.2.1.else HG2.out _ _, HI.out.2.2.setCell (p := ⟨g, j * 6 + 5, none⟩) HG1.out _⟩⟩
      case measure => simp [intOf]; omega
    · have HI1 : Hid (RowS wr w9.heap.size 36 1 0 (.slice x10 m5 k10) m5 ∧ Below w3.heap.size w3 wr) := Lib.hid HI.out.2
      clear HI
      go_wp2
      go_loopw [179] (fun i wr => ∃ j : Nat, j ≤ m5 ∧ i = .int .i64 (j : Int) ∧ Hid (RowS wr w9.heap.size 36 1 0 (.slice x10 m5 k10) m5 ∧ Below w3.heap.size w3 wr)) (fun i _ => m5 - (intOf i).toNat)
      case atStart => exact ⟨0, Nat.zero_le _, rfl, HI1⟩
      case round =>
        clear HI1
        obtain ⟨j2, hj2, rfl, HI⟩ := hrel
        by_cases hlt2 : j2 < m5
        · obtain ⟨g, hg0, hg1⟩ := HI.out.1.addr (by omega)
          subst hg0
          obtain ⟨yv, hc⟩ := HI.out.1.cell hlt2
          have hf := HI.out.1.frozen (j2 * 1 + 0)
          rw [Nat.mul_one, Nat.add_zero] at hc hf
          have HG1 : Hid (w3.heap.size ≤ g) := Lib.hid (by have := HS49.out; have := D4.out.size; omega)
          clear hg1
          go_wp2
          go_roundw
          case rel => exact ⟨j2 + 1, by omega, by go_num, Lib.hid ⟨HI.out.1.set _ _, HI.out.2.setCell (p := ⟨g, j2, none⟩) HG1.out _⟩⟩
          case measure => simp [intOf]; omega
        · have HF := Lib.hid (below_on B3.out HI.out.2)
          have S1 := Lib.hid (sameE_any x x2 len len cap k2 es es wr wr.heap.size (HX.out.since HF.out) (R2'.out.since HI.out.2) HN.out HN.out (by omega) (by omega))
          have S2 := Lib.hid (fun q => sameW_any y x3 m m cap' k3 ws ws (wr.drewN q) wr.heap.size ((HY.out.since HF.out).draws _) ((R3.out.since HI.out.2).draws _) HM.out HM.out (by omega) (by omega))
          rw [decide_eq_true rfl] at S1 S2
          clear HI
          go_wp2_with (first
            | (go_at_call 18; refine S1.out.mono ?_; rintro e w' ⟨rfl, q3, rfl⟩)
            | (go_at_call 19; refine (S2.out _).mono ?_; rintro e w' ⟨rfl, q4, rfl⟩))
          go_ret
          exact ⟨by simp, by first | exact below_draws HF.out _ | exact below_draws (below_draws HF.out _) _⟩

set_option maxRecDepth 100000 in
set_option maxHeartbeats 16000000 in
theorem does_c (x : Option Addr) (len cap : Nat) (es : List Ev) (y : Option Addr) (m cap' : Nat) (ws : List Int) (a b c n : Int) (w : World) (hcap : len ≤ cap) (hcm : cap ≤ maxLen) (hn : es.length = len) (hsx : SrcE w x len cap es) (hx : ReadsE w w.heap.size x es) (ho : EvsOk es) (hm : ws.length = m) (hsy : Src .u64 w y m cap' ws) (hy : Reads .u64 w w.heap.size y ws) (hw : Words ws)
    (hl1 : 1024 < len ∧ len ≤ 1030) (hl2 : m ≤ 60) :
    Calls Try.prog 3 #[.slice x len cap, .slice y m cap', .int .i64 a, .int .i64 b, .int .i64 c, .int .i64 n] w fun e w' => e = .returned (.bool true) ∧ Below w.heap.size w w' := by
  have HV := Lib.hid (live10_any w)
  have d1 : decide ((60 : Int) < (len : Int)) = true := by simp; omega
  have d2 : decide ((len : Int) ≤ 1024) = false := by simp; omega
  have d3 : decide ((1030 : Int) < (len : Int)) = false := by simp; omega
  have d4 : decide ((60 : Int) < (m : Int)) = false := by simp; omega
  have d6 : decide ((16390 : Int) < (m : Int)) = false := by simp; omega
  have hlb : len ≤ 1030 ∧ m ≤ 16390 := by omega
  have HX := Lib.hid hx
  have HY := Lib.hid hy
  have HN := Lib.hid hn
  have HM := Lib.hid hm
  have HSX := Lib.hid (fun W (hB : Below w.heap.size w W) => hsx.keep hB)
  have HSY := Lib.hid (fun W (hB : Below w.heap.size w W) => hsy.keep hB)
  obtain ⟨i0, hi, hz0, hz1, hz2⟩ := info_parts info_u64
  have K1 := Lib.hid (fun W (hB : Below w.heap.size w W) => Of_any x len cap es a b c W (hx.since hB) hn)
  have K2 := Lib.hid (fun W (hB : Below w.heap.size w W) => rOf_any x len cap es a b c W (hx.since hB) hn)
  have K3 := Lib.hid (fun W (hB : Below w.heap.size w W) => Sparse_any x len cap es W (hx.since hB) hn ho)
  have K4 := Lib.hid (fun W (hB : Below w.heap.size w W) => rSparse_any x len cap es W (hx.since hB) hn ho hcap hcm)
  have K5 := Lib.hid (fun W (hB : Below w.heap.size w W) => Quiet_any x len cap es n W (hx.since hB) hn ho (by omega))
  have K6 := Lib.hid (fun W (hB : Below w.heap.size w W) => rQuiet_any x len cap es n W (hx.since hB) hn ho (by omega))
  have K7 := Lib.hid (fun W (hB : Below w.heap.size w W) => Strike_any x len cap es y m cap' ws W (hx.since hB) hn ho (hsy.keep hB) hw)
  have K8 := Lib.hid (fun W (hB : Below w.heap.size w W) => rStrike_any x len cap es y m cap' ws W (hx.since hB) hn ho (hsy.keep hB) hw)
  have K9 := Lib.hid (fun W => check_any x len cap W)
  have K10 := Lib.hid (fun W => rcheck_any x len cap W)
  obtain ⟨er, her⟩ : ∃ er, er = chk len := ⟨_, rfl⟩
  rw [← her] at K1 K2 K3 K4 K5 K6 K9 K10
  obtain ⟨es2, hes2⟩ : ∃ es2, es2 = stkE len m := ⟨_, rfl⟩
  rw [← hes2] at K7 K8
  obtain ⟨sp, hsp⟩ : ∃ sp, sp = spB es := ⟨_, rfl⟩
  rw [← hsp] at K3 K4
  obtain ⟨qu, hqu⟩ : ∃ qu, qu = qtB es n := ⟨_, rfl⟩
  rw [← hqu] at K5 K6
  have hl4 := ofA_len es a b c
  obtain ⟨os, hos⟩ : ∃ os, os = ofA es a b c := ⟨_, rfl⟩
  rw [← hos] at K1 K2 hl4
  have hl5 : (stkL es ws).length ≤ 16390 := by
    unfold stkL
    split
    · rw [strike_len]; omega
    · simp
  obtain ⟨ss, hss⟩ : ∃ ss, ss = stkL es ws := ⟨_, rfl⟩
  rw [← hss] at K7 K8 hl5
  obtain ⟨m4, hm4⟩ : ∃ m4, m4 = os.length := ⟨_, rfl⟩
  obtain ⟨m5, hm5⟩ : ∃ m5, m5 = ss.length := ⟨_, rfl⟩
  have HM4 : Hid (os.length = m4) := Lib.hid hm4.symm
  have HM5 : Hid (ss.length = m5) := Lib.hid hm5.symm
  rw [← hm4] at hl4
  rw [← hm5] at hl5
  clear hx hy hn hm hsx hsy ho hw her hes2 hsp hqu hos hss hm4 hm5 hcap hcm
  go_enter Try.func3, Try.ntmps3
  go_wp2_with (first
    | (go_at_call 9; refine HV.out.mono ?_; rintro e w1 ⟨rfl, hb1⟩; have B1 := Lib.hid hb1; clear hb1)
    | (at_builtin; refine wpList_append_ev rfl _ _ rfl w1.heap.size _ [] rfl OwnsE.nil x len cap es rfl (HSX.out _ B1.out) (by simp; omega) (Nat.le_refl _) ?_; intro v2 w2 hO2 hg2; have hb2 := (Below.refl w1.heap.size w1).grown hg2 (Nat.le_refl _) (fun g e => by cases e); obtain ⟨x2, k2, rfl, -, -, hR2, -⟩ := hO2.form; rw [List.nil_append] at hR2; rw [List.nil_append, HN.out]; have R2 := Lib.hid hR2; have B2 := Lib.hid (below_on B1.out hb2); clear hO2 hg2 hb2 hR2 HSX)
    | (at_builtin; refine wpList_copy_new rfl _ _ 23 rfl 36 i0 .u64 8 Try.underlying23 hi hz0 hz1 hz2 y m cap' ws rfl rfl (HSY.out _ B2.out) (by unfold maxLen; omega) (by omega) ?_; intro v3 w3 hO3 hb3; obtain ⟨x3, k3, rfl, -, -, hR3, -⟩ := hO3.form; rw [HM.out]; have R3 := Lib.hid hR3; have R2' := Lib.hid (R2.out.since hb3); have B3 := Lib.hid (below_on B2.out hb3); clear hO3 hb3 hR3 HSY R2)
    | (go_at_call 10; refine (K1.out _ B3.out).mono ?_; rintro e w4 hr4; obtain ⟨x4, k4, rfl, hR4, -, hO4, hb4⟩ := hr4.open; have O4 := Lib.hid hO4.rowS; have HG4 := Lib.hid (fun g (e : x4 = some ⟨g, 0, none⟩) => (World.ownsRow.lt hO4 g (by rw [e]; rfl)).2); rw [HM4.out] at O4 ⊢; have R4 := Lib.hid hR4; have B4 := Lib.hid (below_on B3.out hb4); have D4 := Lib.hid hb4; clear hr4 hR4 hO4 hb4 K1)
    | (go_at_call 11; refine (K2.out _ B4.out).mono ?_; rintro e w5 hr5; obtain ⟨x5, k5, rfl, hR5, -, -, hb5⟩ := hr5.open; rw [HM4.out]; have R5 := Lib.hid hR5; have B5 := Lib.hid (below_on B4.out hb5); have D5 := Lib.hid (below_on D4.out hb5); have E5 := Lib.hid hb5; clear hr5 hR5 hb5 K2)
    | (go_at_call 12; refine (K3.out _ B5.out).mono ?_; rintro e w6 ⟨rfl, hb6⟩; have B6 := Lib.hid (below_on B5.out hb6); have D6 := Lib.hid (below_on D5.out hb6); have E6 := Lib.hid (below_on E5.out hb6); have F6 := Lib.hid hb6; clear hb6 K3)
    | (go_at_call 13; refine (K4.out _ B6.out).mono ?_; rintro e w7 ⟨rfl, hb7⟩; have B7 := Lib.hid (below_on B6.out hb7); have D7 := Lib.hid (below_on D6.out hb7); have E7 := Lib.hid (below_on E6.out hb7); have F7 := Lib.hid (below_on F6.out hb7); clear hb7 K4)
    | (go_at_call 14; refine (K5.out _ B7.out).mono ?_; rintro e w8 ⟨rfl, hb8⟩; have B8 := Lib.hid (below_on B7.out hb8); have D8 := Lib.hid (below_on D7.out hb8); have E8 := Lib.hid (below_on E7.out hb8); have F8 := Lib.hid (below_on F7.out hb8); clear hb8 K5)
    | (go_at_call 15; refine (K6.out _ B8.out).mono ?_; rintro e w9 ⟨rfl, hb9⟩; have B9 := Lib.hid (below_on B8.out hb9); have D9 := Lib.hid (below_on D8.out hb9); have E9 := Lib.hid (below_on E8.out hb9); have F9 := Lib.hid (below_on F8.out hb9); clear hb9 K6)
    | (go_at_call 16; refine (K7.out _ B9.out).mono ?_; rintro e w10 hr10; obtain ⟨x10, k10, rfl, hR10, -, hO10, hb10⟩ := hr10.open; have O10 := Lib.hid hO10.rowS; rw [HM5.out] at O10 ⊢; have R10 := Lib.hid hR10; have B10 := Lib.hid (below_on B9.out hb10); have D10 := Lib.hid (below_on D9.out hb10); have E10 := Lib.hid (below_on E9.out hb10); have F10 := Lib.hid (below_on F9.out hb10); clear hr10 hR10 hO10 hb10 K7)
    | (go_at_call 17; refine (K8.out _ B10.out).mono ?_; rintro e w11 hr11; obtain ⟨x11, k11, rfl, hR11, -, -, hb11⟩ := hr11.open; rw [HM5.out]; have R11 := Lib.hid hR11; have B11 := Lib.hid (below_on B10.out hb11); have D11 := Lib.hid (below_on D10.out hb11); have T4 := Lib.hid (R4.out.since (below_on E10.out hb11)); have T5 := Lib.hid (R5.out.since (below_on F10.out hb11)); have T10 := Lib.hid (R10.out.since hb11); have P4 := Lib.hid (O4.out.keep (below_on E10.out hb11)); have P10 := Lib.hid (O10.out.keep hb11); have HS49 : Hid (w4.heap.size ≤ w9.heap.size) := Lib.hid E9.out.size; clear hr11 hR11 hb11 K8 R4 R5 R10 O4 O10 B4 B5 B6 B7 B8 B9 B10 D5 D6 D7 D8 D9 D10 E5 E6 E7 E8 E9 E10 F6 F7 F8 F9 F10)
    | (go_at_call 18; refine (sameE_any x4 x5 m4 m4 k4 k5 os os _ w11.heap.size T4.out T5.out HM4.out HM4.out (by omega) (by omega)).mono ?_; rw [decide_eq_true rfl]; rintro e w' ⟨rfl, q1, rfl⟩; clear T4 T5)
    | (go_at_call 19; refine (sameW_any x10 x11 m5 m5 k10 k11 ss ss _ w11.heap.size (T10.out.draws _) (R11.out.draws _) HM5.out HM5.out (by omega) (by omega)).mono ?_; rw [decide_eq_true rfl]; rintro e w' ⟨rfl, q2, rfl⟩; clear T10 R11)
    | (go_at_call 20; refine (K9.out _).mono ?_; rintro e w' ⟨rfl, rfl⟩)
    | (go_at_call 21; refine (K10.out _).mono ?_; rintro e w' ⟨rfl, rfl⟩))
  clear HV K9 K10 hi hz0 hz1 hz2 B1 B2
  go_loopw [165] (fun i wr => ∃ j : Nat, j ≤ m4 ∧ i = .int .i64 (j : Int) ∧ Hid (RowS wr w3.heap.size 38 6 5 (.slice x4 m4 k4) m4 ∧ RowS wr w9.heap.size 36 1 0 (.slice x10 m5 k10) m5 ∧ Below w3.heap.size w3 wr)) (fun i _ => m4 - (intOf i).toNat)
  case atStart => exact ⟨0, Nat.zero_le _, rfl, Lib.hid ⟨P4.out, P10.out, by first | exact below_draws D11.out _ | exact below_draws (below_draws D11.out _) _⟩⟩
  case round =>
    clear P4 P10 D11
    obtain ⟨j, hj, rfl, HI⟩ := hrel
    by_cases hlt : j < m4
    · obtain ⟨g, hg0, hg1⟩ := HI.out.1.addr (by omega)
      have hg2 := HG4.out g hg0
      subst hg0
      obtain ⟨yv, hc⟩ := HI.out.1.cell hlt
      have hf := HI.out.1.frozen (j * 6 + 5)
      have HG1 := Lib.hid hg1
      have HG2 : Hid (g < w9.heap.size) := Lib.hid (by have := HS49.out; omega)
      clear hg1 hg2
      go_wp2
      go_roundw
      case rel => exact ⟨j + 1, by omega, by go_num, Lib.hid ⟨HI.out.1.set _ _, HI.out.2.1.else HG2.out _ _, HI.out.2.2.setCell (p := ⟨g, j * 6 + 5, none⟩) HG1.out _⟩⟩
      case measure => simp [intOf]; omega
    · have HI1 : Hid (RowS wr w9.heap.size 36 1 0 (.slice x10 m5 k10) m5 ∧ Below w3.heap.size w3 wr) := Lib.hid HI.out.2
      clear HI
      go_wp2
      go_loopw [179] (fun i wr => ∃ j : Nat, j ≤ m5 ∧ i = .int .i64 (j : Int) ∧ Hid (RowS wr w9.heap.size 36 1 0 (.slice x10 m5 k10) m5 ∧ Below w3.heap.size w3 wr)) (fun i _ => m5 - (intOf i).toNat)
      case atStart => exact ⟨0, Nat.zero_le _, rfl, HI1⟩
      case round =>
        clear HI1
        obtain ⟨j2, hj2, rfl, HI⟩ := hrel
        by_cases hlt2 : j2 < m5
        · obtain ⟨g, hg0, hg1⟩ := HI.out.1.addr (by omega)
          subst hg0
          obtain ⟨yv, hc⟩ := HI.out.1.cell hlt2
          have hf := HI.out.1.frozen (j2 * 1 + 0)
          rw [Nat.mul_one, Nat.add_zero] at hc hf
          have HG1 : Hid (w3.heap.size ≤ g) := Lib.hid (by have := HS49.out; have := D4.out.size; omega)
          clear hg1
          go_wp2
          go_roundw
          case rel => exact ⟨j2 + 1, by omega, by go_num, Lib.hid ⟨HI.out.1.set _ _, HI.out.2.setCell (p := ⟨g, j2, none⟩) HG1.out _⟩⟩
          case measure => simp [intOf]; omega
        · have HF := Lib.hid (below_on B3.out HI.out.2)
          have S1 := Lib.hid (sameE_any x x2 len len cap k2 es es wr wr.heap.size (HX.out.since HF.out) (R2'.out.since HI.out.2) HN.out HN.out (by omega) (by omega))
          have S2 := Lib.hid (fun q => sameW_any y x3 m m cap' k3 ws ws (wr.drewN q) wr.heap.size ((HY.out.since HF.out).draws _) ((R3.out.since HI.out.2).draws _) HM.out HM.out (by omega) (by omega))
          rw [decide_eq_true rfl] at S1 S2
          clear HI
          go_wp2_with (first
            | (go_at_call 18; refine S1.out.mono ?_; rintro e w' ⟨rfl, q3, rfl⟩)
            | (go_at_call 19; refine (S2.out _).mono ?_; rintro e w' ⟨rfl, q4, rfl⟩))
          go_ret
          exact ⟨by simp, by first | exact below_draws HF.out _ | exact below_draws (below_draws HF.out _) _⟩

set_option maxRecDepth 100000 in
set_option maxHeartbeats 16000000 in
theorem does_d (x : Option Addr) (len cap : Nat) (es : List Ev) (y : Option Addr) (m cap' : Nat) (ws : List Int) (a b c n : Int) (w : World) (hcap : len ≤ cap) (hcm : cap ≤ maxLen) (hn : es.length = len) (hsx : SrcE w x len cap es) (hx : ReadsE w w.heap.size x es) (ho : EvsOk es) (hm : ws.length = m) (hsy : Src .u64 w y m cap' ws) (hy : Reads .u64 w w.heap.size y ws) (hw : Words ws)
    (hl1 : 1024 < len ∧ len ≤ 1030) (hl2 : 16384 < m ∧ m ≤ 16390) :
    Calls Try.prog 3 #[.slice x len cap, .slice y m cap', .int .i64 a, .int .i64 b, .int .i64 c, .int .i64 n] w fun e w' => e = .returned (.bool true) ∧ Below w.heap.size w w' := by
  have HV := Lib.hid (live10_any w)
  have d1 : decide ((60 : Int) < (len : Int)) = true := by simp; omega
  have d2 : decide ((len : Int) ≤ 1024) = false := by simp; omega
  have d3 : decide ((1030 : Int) < (len : Int)) = false := by simp; omega
  have d4 : decide ((60 : Int) < (m : Int)) = true := by simp; omega
  have d5 : decide ((m : Int) ≤ 16384) = false := by simp; omega
  have d6 : decide ((16390 : Int) < (m : Int)) = false := by simp; omega
  have hlb : len ≤ 1030 ∧ m ≤ 16390 := by omega
  have HX := Lib.hid hx
  have HY := Lib.hid hy
  have HN := Lib.hid hn
  have HM := Lib.hid hm
  have HSX := Lib.hid (fun W (hB : Below w.heap.size w W) => hsx.keep hB)
  have HSY := Lib.hid (fun W (hB : Below w.heap.size w W) => hsy.keep hB)
  obtain ⟨i0, hi, hz0, hz1, hz2⟩ := info_parts info_u64
  have K1 := Lib.hid (fun W (hB : Below w.heap.size w W) => Of_any x len cap es a b c W (hx.since hB) hn)
  have K2 := Lib.hid (fun W (hB : Below w.heap.size w W) => rOf_any x len cap es a b c W (hx.since hB) hn)
  have K3 := Lib.hid (fun W (hB : Below w.heap.size w W) => Sparse_any x len cap es W (hx.since hB) hn ho)
  have K4 := Lib.hid (fun W (hB : Below w.heap.size w W) => rSparse_any x len cap es W (hx.since hB) hn ho hcap hcm)
  have K5 := Lib.hid (fun W (hB : Below w.heap.size w W) => Quiet_any x len cap es n W (hx.since hB) hn ho (by omega))
  have K6 := Lib.hid (fun W (hB : Below w.heap.size w W) => rQuiet_any x len cap es n W (hx.since hB) hn ho (by omega))
  have K7 := Lib.hid (fun W (hB : Below w.heap.size w W) => Strike_any x len cap es y m cap' ws W (hx.since hB) hn ho (hsy.keep hB) hw)
  have K8 := Lib.hid (fun W (hB : Below w.heap.size w W) => rStrike_any x len cap es y m cap' ws W (hx.since hB) hn ho (hsy.keep hB) hw)
  have K9 := Lib.hid (fun W => check_any x len cap W)
  have K10 := Lib.hid (fun W => rcheck_any x len cap W)
  obtain ⟨er, her⟩ : ∃ er, er = chk len := ⟨_, rfl⟩
  rw [← her] at K1 K2 K3 K4 K5 K6 K9 K10
  obtain ⟨es2, hes2⟩ : ∃ es2, es2 = stkE len m := ⟨_, rfl⟩
  rw [← hes2] at K7 K8
  obtain ⟨sp, hsp⟩ : ∃ sp, sp = spB es := ⟨_, rfl⟩
  rw [← hsp] at K3 K4
  obtain ⟨qu, hqu⟩ : ∃ qu, qu = qtB es n := ⟨_, rfl⟩
  rw [← hqu] at K5 K6
  have hl4 := ofA_len es a b c
  obtain ⟨os, hos⟩ : ∃ os, os = ofA es a b c := ⟨_, rfl⟩
  rw [← hos] at K1 K2 hl4
  have hl5 : (stkL es ws).length ≤ 16390 := by
    unfold stkL
    split
    · rw [strike_len]; omega
    · simp
  obtain ⟨ss, hss⟩ : ∃ ss, ss = stkL es ws := ⟨_, rfl⟩
  rw [← hss] at K7 K8 hl5
  obtain ⟨m4, hm4⟩ : ∃ m4, m4 = os.length := ⟨_, rfl⟩
  obtain ⟨m5, hm5⟩ : ∃ m5, m5 = ss.length := ⟨_, rfl⟩
  have HM4 : Hid (os.length = m4) := Lib.hid hm4.symm
  have HM5 : Hid (ss.length = m5) := Lib.hid hm5.symm
  rw [← hm4] at hl4
  rw [← hm5] at hl5
  clear hx hy hn hm hsx hsy ho hw her hes2 hsp hqu hos hss hm4 hm5 hcap hcm
  go_enter Try.func3, Try.ntmps3
  go_wp2_with (first
    | (go_at_call 9; refine HV.out.mono ?_; rintro e w1 ⟨rfl, hb1⟩; have B1 := Lib.hid hb1; clear hb1)
    | (at_builtin; refine wpList_append_ev rfl _ _ rfl w1.heap.size _ [] rfl OwnsE.nil x len cap es rfl (HSX.out _ B1.out) (by simp; omega) (Nat.le_refl _) ?_; intro v2 w2 hO2 hg2; have hb2 := (Below.refl w1.heap.size w1).grown hg2 (Nat.le_refl _) (fun g e => by cases e); obtain ⟨x2, k2, rfl, -, -, hR2, -⟩ := hO2.form; rw [List.nil_append] at hR2; rw [List.nil_append, HN.out]; have R2 := Lib.hid hR2; have B2 := Lib.hid (below_on B1.out hb2); clear hO2 hg2 hb2 hR2 HSX)
    | (at_builtin; refine wpList_copy_new rfl _ _ 23 rfl 36 i0 .u64 8 Try.underlying23 hi hz0 hz1 hz2 y m cap' ws rfl rfl (HSY.out _ B2.out) (by unfold maxLen; omega) (by omega) ?_; intro v3 w3 hO3 hb3; obtain ⟨x3, k3, rfl, -, -, hR3, -⟩ := hO3.form; rw [HM.out]; have R3 := Lib.hid hR3; have R2' := Lib.hid (R2.out.since hb3); have B3 := Lib.hid (below_on B2.out hb3); clear hO3 hb3 hR3 HSY R2)
    | (go_at_call 10; refine (K1.out _ B3.out).mono ?_; rintro e w4 hr4; obtain ⟨x4, k4, rfl, hR4, -, hO4, hb4⟩ := hr4.open; have O4 := Lib.hid hO4.rowS; have HG4 := Lib.hid (fun g (e : x4 = some ⟨g, 0, none⟩) => (World.ownsRow.lt hO4 g (by rw [e]; rfl)).2); rw [HM4.out] at O4 ⊢; have R4 := Lib.hid hR4; have B4 := Lib.hid (below_on B3.out hb4); have D4 := Lib.hid hb4; clear hr4 hR4 hO4 hb4 K1)
    | (go_at_call 11; refine (K2.out _ B4.out).mono ?_; rintro e w5 hr5; obtain ⟨x5, k5, rfl, hR5, -, -, hb5⟩ := hr5.open; rw [HM4.out]; have R5 := Lib.hid hR5; have B5 := Lib.hid (below_on B4.out hb5); have D5 := Lib.hid (below_on D4.out hb5); have E5 := Lib.hid hb5; clear hr5 hR5 hb5 K2)
    | (go_at_call 12; refine (K3.out _ B5.out).mono ?_; rintro e w6 ⟨rfl, hb6⟩; have B6 := Lib.hid (below_on B5.out hb6); have D6 := Lib.hid (below_on D5.out hb6); have E6 := Lib.hid (below_on E5.out hb6); have F6 := Lib.hid hb6; clear hb6 K3)
    | (go_at_call 13; refine (K4.out _ B6.out).mono ?_; rintro e w7 ⟨rfl, hb7⟩; have B7 := Lib.hid (below_on B6.out hb7); have D7 := Lib.hid (below_on D6.out hb7); have E7 := Lib.hid (below_on E6.out hb7); have F7 := Lib.hid (below_on F6.out hb7); clear hb7 K4)
    | (go_at_call 14; refine (K5.out _ B7.out).mono ?_; rintro e w8 ⟨rfl, hb8⟩; have B8 := Lib.hid (below_on B7.out hb8); have D8 := Lib.hid (below_on D7.out hb8); have E8 := Lib.hid (below_on E7.out hb8); have F8 := Lib.hid (below_on F7.out hb8); clear hb8 K5)
    | (go_at_call 15; refine (K6.out _ B8.out).mono ?_; rintro e w9 ⟨rfl, hb9⟩; have B9 := Lib.hid (below_on B8.out hb9); have D9 := Lib.hid (below_on D8.out hb9); have E9 := Lib.hid (below_on E8.out hb9); have F9 := Lib.hid (below_on F8.out hb9); clear hb9 K6)
    | (go_at_call 16; refine (K7.out _ B9.out).mono ?_; rintro e w10 hr10; obtain ⟨x10, k10, rfl, hR10, -, hO10, hb10⟩ := hr10.open; have O10 := Lib.hid hO10.rowS; rw [HM5.out] at O10 ⊢; have R10 := Lib.hid hR10; have B10 := Lib.hid (below_on B9.out hb10); have D10 := Lib.hid (below_on D9.out hb10); have E10 := Lib.hid (below_on E9.out hb10); have F10 := Lib.hid (below_on F9.out hb10); clear hr10 hR10 hO10 hb10 K7)
    | (go_at_call 17; refine (K8.out _ B10.out).mono ?_; rintro e w11 hr11; obtain ⟨x11, k11, rfl, hR11, -, -, hb11⟩ := hr11.open; rw [HM5.out]; have R11 := Lib.hid hR11; have B11 := Lib.hid (below_on B10.out hb11); have D11 := Lib.hid (below_on D10.out hb11); have T4 := Lib.hid (R4.out.since (below_on E10.out hb11)); have T5 := Lib.hid (R5.out.since (below_on F10.out hb11)); have T10 := Lib.hid (R10.out.since hb11); have P4 := Lib.hid (O4.out.keep (below_on E10.out hb11)); have P10 := Lib.hid (O10.out.keep hb11); have HS49 : Hid (w4.heap.size ≤ w9.heap.size) := Lib.hid E9.out.size; clear hr11 hR11 hb11 K8 R4 R5 R10 O4 O10 B4 B5 B6 B7 B8 B9 B10 D5 D6 D7 D8 D9 D10 E5 E6 E7 E8 E9 E10 F6 F7 F8 F9 F10)
    | (go_at_call 18; refine (sameE_any x4 x5 m4 m4 k4 k5 os os _ w11.heap.size T4.out T5.out HM4.out HM4.out (by omega) (by omega)).mono ?_; rw [decide_eq_true rfl]; rintro e w' ⟨rfl, q1, rfl⟩; clear T4 T5)
    | (go_at_call 19; refine (sameW_any x10 x11 m5 m5 k10 k11 ss ss _ w11.heap.size (T10.out.draws _) (R11.out.draws _) HM5.out HM5.out (by omega) (by omega)).mono ?_; rw [decide_eq_true rfl]; rintro e w' ⟨rfl, q2, rfl⟩; clear T10 R11)
    | (go_at_call 20; refine (K9.out _).mono ?_; rintro e w' ⟨rfl, rfl⟩)
    | (go_at_call 21; refine (K10.out _).mono ?_; rintro e w' ⟨rfl, rfl⟩))
  clear HV K9 K10 hi hz0 hz1 hz2 B1 B2
  go_loopw [165] (fun i wr => ∃ j : Nat, j ≤ m4 ∧ i = .int .i64 (j : Int) ∧ Hid (RowS wr w3.heap.size 38 6 5 (.slice x4 m4 k4) m4 ∧ RowS wr w9.heap.size 36 1 0 (.slice x10 m5 k10) m5 ∧ Below w3.heap.size w3 wr)) (fun i _ => m4 - (intOf i).toNat)
  case atStart => exact ⟨0, Nat.zero_le _, rfl, Lib.hid ⟨P4.out, P10.out, by first | exact below_draws D11.out _ | exact below_draws (below_draws D11.out _) _⟩⟩
  case round =>
    clear P4 P10 D11
    obtain ⟨j, hj, rfl, HI⟩ := hrel
    by_cases hlt : j < m4
    · obtain ⟨g, hg0, hg1⟩ := HI.out.1.addr (by omega)
      have hg2 := HG4.out g hg0
      subst hg0
      obtain ⟨yv, hc⟩ := HI.out.1.cell hlt
      have hf := HI.out.1.frozen (j * 6 + 5)
      have HG1 := Lib.hid hg1
      have HG2 : Hid (g < w9.heap.size) := Lib.hid (by have := HS49.out; omega)
      clear hg1 hg2
      go_wp2
      go_roundw
      case rel => exact ⟨j + 1, by omega, by go_num, Lib.hid ⟨HI.out.1.set _ _, HI.out.2.1.else HG2.out _ _, HI.out.2.2.setCell (p := ⟨g, j * 6 + 5, none⟩) HG1.out _⟩⟩
      case measure => simp [intOf]; omega
    · have HI1 : Hid (RowS wr w9.heap.size 36 1 0 (.slice x10 m5 k10) m5 ∧ Below w3.heap.size w3 wr) := Lib.hid HI.out.2
      clear HI
      go_wp2
      go_loopw [179] (fun i wr => ∃ j : Nat, j ≤ m5 ∧ i = .int .i64 (j : Int) ∧ Hid (RowS wr w9.heap.size 36 1 0 (.slice x10 m5 k10) m5 ∧ Below w3.heap.size w3 wr)) (fun i _ => m5 - (intOf i).toNat)
      case atStart => exact ⟨0, Nat.zero_le _, rfl, HI1⟩
      case round =>
        clear HI1
        obtain ⟨j2, hj2, rfl, HI⟩ := hrel
        by_cases hlt2 : j2 < m5
        · obtain ⟨g, hg0, hg1⟩ := HI.out.1.addr (by omega)
          subst hg0
          obtain ⟨yv, hc⟩ := HI.out.1.cell hlt2
          have hf := HI.out.1.frozen (j2 * 1 + 0)
          rw [Nat.mul_one, Nat.add_zero] at hc hf
          have HG1 : Hid (w3.heap.size ≤ g) := Lib.hid (by have := HS49.out; have := D4.out.size; omega)
          clear hg1
          go_wp2
          go_roundw
          case rel => exact ⟨j2 + 1, by omega, by go_num, Lib.hid ⟨HI.out.1.set _ _, HI.out.2.setCell (p := ⟨g, j2, none⟩) HG1.out _⟩⟩
          case measure => simp [intOf]; omega
        · have HF := Lib.hid (below_on B3.out HI.out.2)
          have S1 := Lib.hid (sameE_any x x2 len len cap k2 es es wr wr.heap.size (HX.out.since HF.out) (R2'.out.since HI.out.2) HN.out HN.out (by omega) (by omega))
          have S2 := Lib.hid (fun q => sameW_any y x3 m m cap' k3 ws ws (wr.drewN q) wr.heap.size ((HY.out.since HF.out).draws _) ((R3.out.since HI.out.2).draws _) HM.out HM.out (by omega) (by omega))
          rw [decide_eq_true rfl] at S1 S2
          clear HI
          go_wp2_with (first
            | (go_at_call 18; refine S1.out.mono ?_; rintro e w' ⟨rfl, q3, rfl⟩)
            | (go_at_call 19; refine (S2.out _).mono ?_; rintro e w' ⟨rfl, q4, rfl⟩))
          go_ret
          exact ⟨by simp, by first | exact below_draws HF.out _ | exact below_draws (below_draws HF.out _) _⟩

set_option maxRecDepth 100000 in
set_option maxHeartbeats 2000000 in
theorem walk_ScriptDoes (x : Option Addr) (len cap : Nat) (es : List Ev) (y : Option Addr) (m cap' : Nat) (zs : List Int) (a b c n : Int) (w : World) (hE : EventIn w x len cap es) (_hlb : len ≤ 2932031007403) (hr : RowIn .u64 w y m cap' zs) (_ha : (Lit.int .i64 a).wf = true) (_hb : (Lit.int .i64 b).wf = true) (_hc : (Lit.int .i64 c).wf = true) (_hn : (Lit.int .i64 n).wf = true) :
    Calls Try.prog 3 #[.slice x len cap, .slice y m cap', .int .i64 a, .int .i64 b, .int .i64 c, .int .i64 n] w fun e w' => e = .returned (.bool true) ∧ Below w.heap.size w w' := by
  have hsx := hE.src
  obtain ⟨hn, hc1, hc2, hx, ho⟩ := hE
  obtain ⟨ws, hws, hm, hcp, hml, hy, hw⟩ := hr.reads
  have hsy := hr.src
  rw [← hws] at hsy
  have HV := Lib.hid (live10_any w)
  by_cases hA : 60 < len ∧ len ≤ 1024
  · have d1 : decide ((60 : Int) < (len : Int)) = true := by simp; omega
    have d2 : decide ((len : Int) ≤ 1024) = true := by simp; omega
    clear hx ho hy hw hsy hr hws hsx hn
    go_enter Try.func3, Try.ntmps3
    go_wp2_with (go_at_call 9; refine HV.out.mono ?_; rintro e w1 ⟨rfl, hb1⟩)
    go_ret
    exact ⟨rfl, hb1⟩
  by_cases hB : 1030 < len
  · have d1 : decide ((60 : Int) < (len : Int)) = true := by simp; omega
    have d2 : decide ((len : Int) ≤ 1024) = false := by simp; omega
    have d3 : decide ((1030 : Int) < (len : Int)) = true := by simp; omega
    clear hx ho hy hw hsy hr hws hsx hn
    go_enter Try.func3, Try.ntmps3
    go_wp2_with (go_at_call 9; refine HV.out.mono ?_; rintro e w1 ⟨rfl, hb1⟩)
    go_ret
    exact ⟨rfl, hb1⟩
  by_cases hL : len ≤ 60
  · by_cases hC : 60 < m ∧ m ≤ 16384
    · have d1 : decide ((60 : Int) < (len : Int)) = false := by simp; omega
      have d3 : decide ((1030 : Int) < (len : Int)) = false := by simp; omega
      have d4 : decide ((60 : Int) < (m : Int)) = true := by simp; omega
      have d5 : decide ((m : Int) ≤ 16384) = true := by simp; omega
      clear hx ho hy hw hsy hr hws hsx hn
      go_enter Try.func3, Try.ntmps3
      go_wp2_with (go_at_call 9; refine HV.out.mono ?_; rintro e w1 ⟨rfl, hb1⟩)
      go_ret
      exact ⟨rfl, hb1⟩
    by_cases hD : 16390 < m
    · have d1 : decide ((60 : Int) < (len : Int)) = false := by simp; omega
      have d3 : decide ((1030 : Int) < (len : Int)) = false := by simp; omega
      have d4 : decide ((60 : Int) < (m : Int)) = true := by simp; omega
      have d5 : decide ((m : Int) ≤ 16384) = false := by simp; omega
      have d6 : decide ((16390 : Int) < (m : Int)) = true := by simp; omega
      clear hx ho hy hw hsy hr hws hsx hn
      go_enter Try.func3, Try.ntmps3
      go_wp2_with (go_at_call 9; refine HV.out.mono ?_; rintro e w1 ⟨rfl, hb1⟩)
      go_ret
      exact ⟨rfl, hb1⟩
    by_cases hM : m ≤ 60
    · exact does_a x len cap es y m cap' ws a b c n w hc1.1 hc2 hn hsx hx ho hm hsy hy hw hL hM
    · exact does_b x len cap es y m cap' ws a b c n w hc1.1 hc2 hn hsx hx ho hm hsy hy hw hL (by omega)
  · by_cases hC : 60 < m ∧ m ≤ 16384
    · have d1 : decide ((60 : Int) < (len : Int)) = true := by simp; omega
      have d2 : decide ((len : Int) ≤ 1024) = false := by simp; omega
      have d3 : decide ((1030 : Int) < (len : Int)) = false := by simp; omega
      have d4 : decide ((60 : Int) < (m : Int)) = true := by simp; omega
      have d5 : decide ((m : Int) ≤ 16384) = true := by simp; omega
      clear hx ho hy hw hsy hr hws hsx hn
      go_enter Try.func3, Try.ntmps3
      go_wp2_with (go_at_call 9; refine HV.out.mono ?_; rintro e w1 ⟨rfl, hb1⟩)
      go_ret
      exact ⟨rfl, hb1⟩
    by_cases hD : 16390 < m
    · have d1 : decide ((60 : Int) < (len : Int)) = true := by simp; omega
      have d2 : decide ((len : Int) ≤ 1024) = false := by simp; omega
      have d3 : decide ((1030 : Int) < (len : Int)) = false := by simp; omega
      have d4 : decide ((60 : Int) < (m : Int)) = true := by simp; omega
      have d5 : decide ((m : Int) ≤ 16384) = false := by simp; omega
      have d6 : decide ((16390 : Int) < (m : Int)) = true := by simp; omega
      clear hx ho hy hw hsy hr hws hsx hn
      go_enter Try.func3, Try.ntmps3
      go_wp2_with (go_at_call 9; refine HV.out.mono ?_; rintro e w1 ⟨rfl, hb1⟩)
      go_ret
      exact ⟨rfl, hb1⟩
    by_cases hM : m ≤ 60
    · exact does_c x len cap es y m cap' ws a b c n w hc1.1 hc2 hn hsx hx ho hm hsy hy hw (by omega) hM
    · exact does_d x len cap es y m cap' ws a b c n w hc1.1 hc2 hn hsx hx ho hm hsy hy hw (by omega) (by omega)

end Go.Proofs.Ytbdcpjpdonednaa
