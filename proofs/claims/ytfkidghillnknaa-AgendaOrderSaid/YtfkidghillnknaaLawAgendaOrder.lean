/-
  The walk of AgendaOrder: all are told in the order of their ticks, those of one tick in the order in which they were put.
-/
import Derived.Test.YtfkidghillnknaaMathDue
import Derived.Deep.CutRange
namespace Go.Proofs.Ytfkidghillnknaa
open Go.RowKit

/-- Those of one tick. -/
def oft (t : Int) (es : List Ev) : List Ev := es.filter fun x => decide (x.tk = t)
theorem oft_put (t : Int) (es : List Ev) (x : Ev) : oft t (putK es x) = oft t es ++ oft t [x] := by
  unfold oft putK
  rw [List.filter_append, List.filter_cons, List.filter_filter, List.filter_filter]
  by_cases h : t ≤ x.tk
  · have e1 : es.filter (fun a => decide (a.tk = t) && decide (a.tk ≤ x.tk)) = es.filter fun a => decide (a.tk = t) := List.filter_congr fun a _ => by
      by_cases c : a.tk = t
      · rw [decide_eq_true c, decide_eq_true (by omega)]; rfl
      · rw [decide_eq_false c]; rfl
    have e2 : es.filter (fun a => decide (a.tk = t) && decide (x.tk < a.tk)) = [] := List.filter_eq_nil_iff.2 fun a _ => by simp; omega
    rw [e1, e2]
    by_cases c : x.tk = t
    · simp [c]
    · simp [c]
  · have e1 : es.filter (fun a => decide (a.tk = t) && decide (a.tk ≤ x.tk)) = [] := List.filter_eq_nil_iff.2 fun a _ => by simp; omega
    have e2 : es.filter (fun a => decide (a.tk = t) && decide (x.tk < a.tk)) = es.filter fun a => decide (a.tk = t) := List.filter_congr fun a _ => by
      by_cases c : a.tk = t
      · rw [decide_eq_true c, decide_eq_true (by omega)]; rfl
      · rw [decide_eq_false c]; rfl
    have c : x.tk ≠ t := by omega
    rw [e1, e2]
    simp [c]
theorem oft_app (t : Int) (xs ys : List Ev) : oft t (xs ++ ys) = oft t xs ++ oft t ys := List.filter_append ..
theorem oft_all (t : Int) : ∀ (ys es : List Ev), oft t (putAll es ys) = oft t es ++ oft t ys
  | [], es => by simp [putAll, oft]
  | y :: ys, es => by
    show oft t (putAll (putK es y) ys) = _
    rw [oft_all t ys, oft_put, List.append_assoc, ← oft_app]; rfl
theorem oft_one (t : Int) (es : List Ev) (k : Nat) (hk : k < es.length) : oft t (es.take (k + 1)) = if (es.getD k noEv).tk = t then oft t (es.take k) ++ [es.getD k noEv] else oft t (es.take k) := by
  rw [take_one es k hk, oft_app]
  split
  · rename_i c; simp [oft, ← c]
  · rename_i c
    have e : oft t [es.getD k noEv] = [] := by unfold oft; rw [List.filter_cons, if_neg (by simpa using c)]; rfl
    rw [e, List.append_nil]
theorem srd_at {es : List Ev} (h : Srd es) {k : Nat} (hk : k + 1 < es.length) : (es.getD k noEv).tk ≤ (es.getD (k + 1) noEv).tk := by
  have := (List.pairwise_iff_getElem.1 h) k (k + 1) (by omega) hk (by omega)
  rw [List.getD_eq_getElem?_getD, List.getElem?_eq_getElem (by omega), List.getD_eq_getElem?_getD, List.getElem?_eq_getElem hk]
  exact this

set_option maxHeartbeats 16000000 in
set_option maxRecDepth 100000 in
theorem order_in (a : Option Addr) (len cap : Nat) (es : List Ev) (w : World) (hI : EventIn w a len cap es) (hl : len ≤ 40) :
    Calls Try.prog 5 #[.slice a len cap] w fun e w' => e = .returned (.bool true) ∧ Below w.heap.size w w' := by
  have hmx : Try.prog.follows .mixedOrders = true := by kernel_rfl
  obtain ⟨hn, -, -, hR, hO⟩ := hI
  have HV := Lib.hid (live11_any w)
  have d1 : decide ((40 : Int) < (len : Int)) = false := by simp; omega
  have HE : Hid ((putAll [] es).length = len) := Lib.hid (by rw [putAll_len]; simp [hn])
  have HN := Lib.hid (fun W (hb : Below w.heap.size w W) => New_ok a len cap es W (hR.since hb) hn hO (by omega))
  have HT := Lib.hid (fun t => oft_all t es [])
  have HX := Lib.hid hR
  have HNn := Lib.hid hn
  generalize putAll [] es = L at HE HN HT
  clear hR hO hn
  go_enter Try.func5, Try.ntmps5
  go_wp2_with (first
    | (go_at_call 9; refine HV.out.mono ?_; rintro e w1 ⟨rfl, hb1⟩; have B1 := Lib.hid hb1; clear hb1 HV)
    | (go_at_call 10; refine (HN.out w1 B1.out).mono ?_; clear HN; rintro e w2 ⟨A, rfl, hA2, hG2, hb2⟩; have B2 := Lib.hid (below_on B1.out hb2); have F2 : Hid (∀ k, Nw w1 w2 k → w.heap.size ≤ k) := Lib.hid (fun k c => by have := c.1; have := B1.out.size; omega); have HSr := Lib.hid hG2.srd; have K2 := Lib.hid (Rest_any _ _ _ _ w2 hG2 (by have := HE.out; omega)); clear hA2 hG2 hb2)
    | (go_at_call 21; refine K2.out.mono ?_; clear K2; intro e w3 hd; obtain ⟨x3, c3, rfl, hc3, hR3, hO3, -, hb3⟩ := hd.open; have B3 := Lib.hid (B2.out.trans (hb3.below B2.out.size F2.out)); have R3 := Lib.hid hR3; clear hd hR3 hO3 hb3 F2 B2 B1))
  rw [HE.out]
  go_loopw [34] (fun i wr => ∃ k : Nat, k ≤ len ∧ i = .int .i64 k ∧ Hid (Below w3.heap.size w3 wr)) (fun i _ => len - (intOf i).toNat)
  case atStart => exact ⟨0, Nat.zero_le _, rfl, Lib.hid (Below.refl _ _)⟩
  case round =>
    obtain ⟨k, hk, rfl, HI⟩ := hrel
    by_cases hlt : k < len
    · obtain ⟨b, off, rfl, hb, hc⟩ := (R3.out.below HI.out) (by have := HE.out; omega)
      have hcu := hc k (by have := HE.out; omega)
      have HPv : Hid (∀ j, j + 1 = k → wr.cell? ⟨b, off + j * 6 + 3, none⟩ = some (.int .i64 (L.getD j noEv).tk) ∧ (L.getD j noEv).tk ≤ (L.getD k noEv).tk) := Lib.hid (fun j hj => ⟨(hc j (by have := HE.out; omega)).2.2.2.1, by rw [← hj]; exact srd_at HSr.out (by have := HE.out; omega)⟩)
      obtain ⟨u, hu⟩ : ∃ u, u = L.getD k noEv := ⟨_, rfl⟩
      rw [← hu] at hcu HPv
      have HS6 := Lib.hid (Six.new wr u)
      have HB0 := Lib.hid (below_on HI.out (below_al (Below.refl _ wr) (evO u)))
      have hbw : b < wr.heap.size := by have := HI.out.size; omega
      obtain ⟨u1, u2', u3, u4, u5, u6'⟩ := u
      obtain ⟨k0, k1, k2, k3, k4, k5⟩ := hcu
      unfold evO at HS6 HB0
      dsimp only at k0 k1 k2 k3 k4 k5 HPv
      clear hc hu
      go_wp2
      obtain ⟨W0, hW0⟩ : ∃ W0, W0 = wr.alloc (.cells #[.int .i64 u1, .int .i64 u2', .int .i64 u3, .int .i64 u4, .int .i64 u5, .int .u64 u6'] 39) := ⟨_, rfl⟩
      rw [← hW0]
      have e3 := HS6.out.at.2.2.2.1
      dsimp only at e3
      rw [Nat.zero_add] at e3
      have HPw : Hid (∀ j, j + 1 = k → W0.cell? ⟨b, off + j * 6 + 3, none⟩ = some (.int .i64 (L.getD j noEv).tk)) := Lib.hid (fun j hj => by rw [hW0]; exact (World.cell?_of_block (Below.heap_alloc wr _ b hbw)).trans (HPv.out j hj).1)
      rw [← hW0] at e3 HB0
      have HS0 : Hid (Six W0 wr.heap.size ⟨u1, u2', u3, u4, u5, u6'⟩) := Lib.hid (by rw [hW0]; exact HS6.out)
      clear hW0 HS6 k0 k1 k2 k3 k4 k5
      go_cut [51] from 39 to 51 (fun v wx => v = .bool false ∧ Hid (∃ q, wx = W0.drewN q))
      case first =>
        by_cases h0 : k = 0
        · have t0 : decide ((0 : Int) < (k : Int)) = false := by simp; omega
          clear HPv HPw
          go_quiet (fail)
          go_wp2
          go_meet
          case rel => exact ⟨rfl, Lib.hid ⟨_, rfl⟩⟩
        · obtain ⟨j, hj⟩ : ∃ j, j + 1 = k := ⟨k - 1, by omega⟩
          have t0 : decide ((0 : Int) < (k : Int)) = true := by simp; omega
          have t0' : decide (0 < k) = true := by simp; omega
          have t0'' : 0 < k := by omega
          have ek : (k : Int) - 1 = (j : Int) := by omega
          have jn : ((j : Int)).toNat = j := by omega
          have jl : (j : Int) < (len : Int) := by omega
          have jw : IntKind.i64.wrap ((j : Int)) = (j : Int) := by rw [IntKind.wrap_i64]; omega
          have j0 : (0 : Int) ≤ (j : Int) := by omega
          have cp := HPw.out j hj
          have hle := (HPv.out j hj).2
          obtain ⟨pt, hpt⟩ : ∃ pt, pt = (L.getD j noEv).tk := ⟨_, rfl⟩
          rw [← hpt] at cp hle
          have t1 : decide (u4 < pt) = false := by simpa using hle
          clear HPv HPw hpt hj hle
          go_quiet (fail)
          go_wp2
          go_meet
          case rel => exact ⟨rfl, Lib.hid ⟨_, rfl⟩⟩
      case rest =>
        obtain ⟨rfl, HQ⟩ := hcut
        have HB1 : Hid (Below w3.heap.size w3 wc) := Lib.hid (by obtain ⟨q, rfl⟩ := HQ.out; exact below_draws HB0.out q)
        have HS1 : Hid (Six wc wr.heap.size ⟨u1, u2', u3, u4, u5, u6'⟩) := Lib.hid (by obtain ⟨q, rfl⟩ := HQ.out; exact HS0.out)
        obtain ⟨R, hR⟩ : ∃ R, R = wr.heap.size := ⟨_, rfl⟩
        rw [← hR] at HS1 ⊢
        have HRl : Hid (R < wc.heap.size) := Lib.hid (HS1.out.at.lt)
        have HLc : Hid (∀ n l, (oft n l).length ≤ l.length) := Lib.hid (fun n l => List.length_filter_le _ _)
        clear hR HQ HS0 HB0 HPv HPw e3
        go_wp2
        go_loopw [54, 8] (fun i v wr => ∃ j : Nat, j ≤ len ∧ i = .int .i64 j ∧ Hid (OwnsE wr wc.heap.size v (oft u4 (es.take j)) ∧ Below wc.heap.size wc wr)) (fun i _ _ => len - (intOf i).toNat)
        case atStart => exact ⟨0, Nat.zero_le _, rfl, Lib.hid ⟨OwnsE.nil, Below.refl _ _⟩⟩
        case round =>
          obtain ⟨j, hj, rfl, HJ⟩ := hrel
          have ex : wr.cell? ⟨R, 3, none⟩ = some (.int .i64 u4) := by
            have := (HS1.out.at.below HJ.out.2).2.2.2.1
            rwa [Nat.zero_add] at this
          have hRw : R < wr.heap.size := by have := HRl.out; have := HJ.out.2.size; omega
          by_cases hjl : j < len
          · obtain ⟨b', off', rfl, hb', hc'⟩ := (HX.out.below (below_on (below_on B3.out HB1.out) HJ.out.2)) (by have := HNn.out; omega)
            have hcy := hc' j (by have := HNn.out; omega)
            have hT := oft_one u4 es j (by have := HNn.out; omega)
            obtain ⟨y, hy⟩ : ∃ y, y = es.getD j noEv := ⟨_, rfl⟩
            rw [← hy] at hcy hT
            have hsx := SrcE.one (wr.alloc (evO y)) y
            rw [World.size_alloc] at hsx
            obtain ⟨y1, y2, y3, y4, y5, y6⟩ := y
            obtain ⟨k0, k1, k2, k3, k4, k5⟩ := hcy
            unfold evO at hsx
            dsimp only at k0 k1 k2 k3 k4 k5 hsx hT
            have HSx := Lib.hid hsx
            by_cases he : y4 = u4
            · have t1 : (y4 == u4) = true := by simpa using he
              rw [if_pos he] at hT
              have HTt := Lib.hid hT
              clear hc' hy hsx hT he
              go_wp2_with (at_builtin; refine wpList_append_ev rfl _ _ rfl wc.heap.size u8 (oft u4 (es.take j)) rfl ((HJ.out.1.alloc _).alloc _) _ 1 1 [⟨y1, y2, y3, y4, y5, y6⟩] rfl HSx.out (by have := HLc.out u4 (es.take j); have := List.length_take_le j es; omega) (by have := HJ.out.2.size; simp; omega) ?_; intro v4 w4 hO4 hg4)
              go_roundw
              case rel => exact ⟨j + 1, by omega, by congr 1, Lib.hid ⟨by rw [HTt.out]; exact hO4, (below_al (below_al HJ.out.2 _) _).grown hg4 (by have := HJ.out.2.size; simp; omega) (fun g e => HJ.out.1.ownBlock g e)⟩⟩
              case measure => simp [intOf]; omega
            · have t1 : (y4 == u4) = false := by simpa using he
              rw [if_neg he] at hT
              have HTt := Lib.hid hT
              clear hc' hy hsx hT he
              go_wp2
              go_roundw
              case rel => exact ⟨j + 1, by omega, by congr 1, Lib.hid ⟨by rw [HTt.out]; exact HJ.out.1.alloc _, below_al HJ.out.2 _⟩⟩
              case measure => simp [intOf]; omega
          · have HP2 : Hid (OwnsE wr wc.heap.size u8 (oft u4 es) ∧ Below wc.heap.size wc wr) := Lib.hid (by
              have := HJ.out
              rw [List.take_of_length_le (by have := HNn.out; omega)] at this
              exact this)
            clear HJ ex
            go_wp2
            generalize wr = W2 at *
            go_loopw [70, 9] (fun i v wr => ∃ j : Nat, j ≤ len ∧ i = .int .i64 j ∧ Hid (OwnsE wr W2.heap.size v (oft u4 (L.take j)) ∧ Below W2.heap.size W2 wr)) (fun i _ _ => len - (intOf i).toNat)
            case atStart => exact ⟨0, Nat.zero_le _, rfl, Lib.hid ⟨OwnsE.nil, Below.refl _ _⟩⟩
            case round =>
              obtain ⟨j, hj, rfl, HJ⟩ := hrel
              have ex : wr.cell? ⟨R, 3, none⟩ = some (.int .i64 u4) := by
                have := ((HS1.out.at.below HP2.out.2).below HJ.out.2).2.2.2.1
                rwa [Nat.zero_add] at this
              have hRw : R < wr.heap.size := by have := HRl.out; have := HP2.out.2.size; have := HJ.out.2.size; omega
              by_cases hjl : j < len
              · obtain ⟨b', off', e', hb', hc'⟩ := (R3.out.below (below_on (below_on HB1.out HP2.out.2) HJ.out.2)) (by have := HE.out; omega)
                cases e'
                have hcy := hc' j (by have := HE.out; omega)
                have hT := oft_one u4 L j (by have := HE.out; omega)
                obtain ⟨y, hy⟩ : ∃ y, y = L.getD j noEv := ⟨_, rfl⟩
                rw [← hy] at hcy hT
                have hsx := SrcE.one (wr.alloc (evO y)) y
                rw [World.size_alloc] at hsx
                obtain ⟨y1, y2, y3, y4, y5, y6⟩ := y
                obtain ⟨k0, k1, k2, k3, k4, k5⟩ := hcy
                unfold evO at hsx
                dsimp only at k0 k1 k2 k3 k4 k5 hsx hT
                have HSx := Lib.hid hsx
                by_cases he : y4 = u4
                · have t1 : (y4 == u4) = true := by simpa using he
                  rw [if_pos he] at hT
                  have HTt := Lib.hid hT
                  clear hc' hy hsx hT he
                  go_wp2_with (at_builtin; refine wpList_append_ev rfl _ _ rfl W2.heap.size u9 (oft u4 (L.take j)) rfl ((HJ.out.1.alloc _).alloc _) _ 1 1 [⟨y1, y2, y3, y4, y5, y6⟩] rfl HSx.out (by have := HLc.out u4 (L.take j); have := List.length_take_le j L; omega) (by have := HJ.out.2.size; simp; omega) ?_; intro v4 w4 hO4 hg4)
                  go_roundw
                  case rel => exact ⟨j + 1, by omega, by congr 1, Lib.hid ⟨by rw [HTt.out]; exact hO4, (below_al (below_al HJ.out.2 _) _).grown hg4 (by have := HJ.out.2.size; simp; omega) (fun g e => HJ.out.1.ownBlock g e)⟩⟩
                  case measure => simp [intOf]; omega
                · have t1 : (y4 == u4) = false := by simpa using he
                  rw [if_neg he] at hT
                  have HTt := Lib.hid hT
                  clear hc' hy hsx hT he
                  go_wp2
                  go_roundw
                  case rel => exact ⟨j + 1, by omega, by congr 1, Lib.hid ⟨by rw [HTt.out]; exact HJ.out.1.alloc _, below_al HJ.out.2 _⟩⟩
                  case measure => simp [intOf]; omega
              · have hO9 : OwnsE wr W2.heap.size u9 (oft u4 L) := by
                  have := HJ.out.1
                  rw [List.take_of_length_le (by have := HE.out; omega)] at this
                  exact this
                have hO8 := HP2.out.1.below HJ.out.2
                obtain ⟨x8, c8, rfl, -⟩ := hO8.form
                obtain ⟨x9, c9, rfl, -⟩ := hO9.form
                have HSm := Lib.hid (same_told x8 x9 _ _ c8 c9 _ _ wr _ _ hO8 hO9 (by have := HLc.out u4 es; have := HNn.out; omega) (by have := HLc.out u4 L; have := HE.out; omega))
                rw [decide_eq_true (show oft u4 es = oft u4 L by rw [HT.out u4]; rfl)] at HSm
                have HB4 := Lib.hid (below_on (below_on HB1.out HP2.out.2) HJ.out.2)
                clear hO8 hO9 HJ HP2 ex R3 HX HT
                go_wp2_with (go_at_call 16; refine HSm.out.mono ?_; rintro e w5 ⟨rfl, q5, rfl⟩)
                go_roundw
                case rel => exact ⟨k + 1, by omega, by congr 1, Lib.hid (below_draws HB4.out q5)⟩
                case measure => simp [intOf]; omega
    · have HF := Lib.hid (below_on B3.out HI.out)
      clear R3 HX HT
      go_wp2
      go_ret
      exact ⟨rfl, HF.out⟩

theorem walk_AgendaOrder (a : Option Addr) (len cap : Nat) (es : List Ev) (w : World) (hI : EventIn w a len cap es) (_hlb : len ≤ 2932031007403) :
    Calls Try.prog 5 #[.slice a len cap] w fun e w' => e = .returned (.bool true) ∧ Below w.heap.size w w' := by
  by_cases hl : len ≤ 40
  · exact order_in a len cap es w hI hl
  · have HV := Lib.hid (live11_any w)
    have d1 : decide ((40 : Int) < (len : Int)) = true := by simp; omega
    clear hI
    go_enter Try.func5, Try.ntmps5
    go_wp2_with (go_at_call 9; refine HV.out.mono ?_; rintro e w1 ⟨rfl, hb1⟩)
    go_ret
    exact ⟨rfl, hb1⟩

end Go.Proofs.Ytfkidghillnknaa
