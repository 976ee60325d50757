/-
  What script.Of comes to: the events of a window, in order of their ticks.
-/
import Derived.Test.YtbdcpjpdonednaaSortE
import Derived.Test.YtbdcpjpdonednaaScriptQuiet
import Derived.Test.YtbdcpjpdonednaaStrike
namespace Go.Proofs.Ytbdcpjpdonednaa
open Go.RowKit

/-- What a call returns that makes a list of events, or tells why not. -/
def RetV (w : World) (es : List Ev) (er : Int) (e : Ending) (w' : World) : Prop :=
  ∃ v, e = .returned (.tuple #[v, .int .i64 er]) ∧ OwnsE w' w.heap.size v es ∧ Below w.heap.size w w'
theorem RetV.open {w w' : World} {es : List Ev} {er : Int} {e : Ending} (h : RetV w es er e w') :
    ∃ x cap, e = .returned (.tuple #[.slice x es.length cap, .int .i64 er]) ∧ ReadsE w' w'.heap.size x es ∧ es.length ≤ cap ∧ OwnsE w' w.heap.size (.slice x es.length cap) es ∧ Below w.heap.size w w' := by
  obtain ⟨v, rfl, hO, hB⟩ := h
  obtain ⟨x, cap, rfl, hc, _, hR, _⟩ := hO.form
  exact ⟨x, cap, rfl, hR, hc, hO, hB⟩

theorem try_held : Try.prog.stoodInHeld 45 = false := by kernel_rfl

theorem eql_try (a b c d : Int) (w : World) : (binOp .eql 45 (.agg #[.int .i64 a, .int .i64 b]) (.agg #[.int .i64 c, .int .i64 d])).run Try.prog w = .ok (.bool (a == c && b == d)) w := by
  rw [run_eql_struct, run_equalIn_struct w 9999 _ _ _ (by simp [Program.fieldsOf, Try.underlying45]) try_held]
  simp [Program.fieldsOf, Try.underlying45, Op.eqFields, go_sem]
  by_cases h1 : a = c <;> by_cases h2 : b = d <;> simp [h1, h2]

theorem cell_ev_new (w : World) (s : Ev) (t : TypeId) : ∀ j u, (evc s)[j]? = some u → (w.alloc (.cells #[.int .i64 s.it, .int .i64 s.tr, .int .i64 s.wn, .int .i64 s.tk, .int .i64 s.ad, .int .u64 s.msk] t)).cell? ((⟨w.heap.size, 0, none⟩ : Addr).add j) = some u := by
  intro j u hj
  match j, hj with
  | 0, hj => simp [evc] at hj; subst hj; simp [Addr.add]
  | 1, hj => simp [evc] at hj; subst hj; simp [Addr.add]
  | 2, hj => simp [evc] at hj; subst hj; simp [Addr.add]
  | 3, hj => simp [evc] at hj; subst hj; simp [Addr.add]
  | 4, hj => simp [evc] at hj; subst hj; simp [Addr.add]
  | 5, hj => simp [evc] at hj; subst hj; simp [Addr.add]
  | n + 6, hj => simp [evc] at hj

theorem own_take {es : List Ev} {k : Nat} {u : Ev} (a b c : Int) (h : es.take (k + 1) = es.take k ++ [u]) : own (es.take (k + 1)) a b c = if inW a b c u = true then own (es.take k) a b c ++ [u] else own (es.take k) a b c := by rw [h, own_snoc]

set_option maxRecDepth 100000 in
set_option maxHeartbeats 4000000 in
theorem Of_ok (x : Option Addr) (n cap : Nat) (es : List Ev) (a b c : Int) (w : World) (hx : ReadsE w w.heap.size x es) (hn : es.length = n) (hl : n ≤ 1024) :
    Calls Try.prog 10 #[.slice x n cap, .int .i64 a, .int .i64 b, .int .i64 c] w (RetV w (ofW es a b c) 0) := by
  subst hn
  have HCk := Lib.hid (check_any x es.length cap w)
  rw [chk_ok (by omega)] at HCk
  have HX := Lib.hid hx
  have HTr := Lib.hid (fun s W => tryOf_any s W)
  unfold evV at HTr
  have eqT := eql_try
  obtain ⟨i0, hi, hz0, hz1, hz2⟩ := info_parts info_ev
  clear hx
  go_enter Try.func10, Try.ntmps10
  go_wp2_with (go_at_call 20; refine HCk.out.mono ?_; rintro e w' ⟨rfl, rfl⟩)
  clear HCk
  go_loopw [11, 21] (fun v i wr => ∃ (k : Nat) (o : Value), k ≤ es.length ∧ i = .int .i64 (k : Int) ∧ o = v ∧ Hid (OwnsE wr w.heap.size o (own (es.take k) a b c) ∧ Below w.heap.size w wr)) (fun _ i _ => es.length - (intOf i).toNat)
  case atStart => exact ⟨0, _, Nat.zero_le _, rfl, rfl, Lib.hid ⟨OwnsE.nil, Below.refl _ _⟩⟩
  case round =>
    obtain ⟨k, o, hk, rfl, rfl, HI⟩ := hrel
    by_cases hlt : k < es.length
    · obtain ⟨bk, off, rfl, hb, hc⟩ := (HX.out.below HI.out.2) (by omega)
      have hcu := hc k hlt
      have hT := take_getD es k hlt
      obtain ⟨u, hu⟩ : ∃ u, u = es.getD k noEv := ⟨_, rfl⟩
      rw [← hu] at hcu hT
      have HT := Lib.hid (own_take a b c hT)
      have HOL : Hid ((own (es.take k) a b c).length ≤ 1024) := Lib.hid (by have := own_len (es.take k) a b c; rw [List.length_take] at this; omega)
      have HBox : Hid (∀ W, Below (wr.alloc (evO u)).heap.size (wr.alloc (evO u)) W → EvAt W wr.heap.size 0 u) := Lib.hid (fun W hB => (EvAt.new wr u 38).below hB)
      have HNew := Lib.hid (fun W => cell_ev_new W u 38)
      have HIn : Hid (∀ W, Below (wr.alloc (evO u)).heap.size (wr.alloc (evO u)) W → OwnsE W w.heap.size o (own (es.take k) a b c) ∧ Below w.heap.size w W) := Lib.hid (fun W hB => ⟨(HI.out.1.alloc _).below hB, below_on (below_al HI.out.2 _) hB⟩)
      have HOwn := Lib.hid HI.out.1.ownBlock
      clear hc hu hT HI
      by_cases h1 : (u.it == a && u.tr == b) = true
      · by_cases h2 : (u.wn == c) = true
        · rw [if_pos (by unfold inW; rw [h1, h2]; rfl)] at HT
          obtain ⟨e1, e2, e3, e4, e5, e6⟩ := u
          obtain ⟨c0, c1, c2, c3, c4, c5⟩ := hcu
          unfold evO at HBox HIn
          unfold evc at HNew
          dsimp only at h1 h2 HBox HIn HNew c0 c1 c2 c3 c4 c5
          have HTu := Lib.hid (HTr.out ⟨e1, e2, e3, e4, e5, e6⟩)
          dsimp only at HTu
          have hEq := eqT e1 e2 a b
          rw [h1] at hEq
          clear eqT HTr
          go_wp2_with (first
            | (go_at_call 22; refine (HTu.out _).mono ?_; rintro e W1 ⟨rfl, hbW⟩; obtain ⟨p0, p1, p2, p3, p4, p5⟩ := HBox.out _ hbW; have H1 := Lib.hid (HIn.out _ hbW); clear hbW HBox HIn HTu; dsimp only at p0 p1 p2 p3 p4 p5)
            | (at_builtin; refine wpList_append_own _ rfl _ _ 22 rfl w.heap.size 38 i0 (.agg #[.int .i64 0, .int .i64 0, .int .i64 0, .int .i64 0, .int .i64 0, .int .u64 0]) 6 48 Try.underlying22 hi hz0 hz1 hz2 rfl (by decide) _ _ _ rfl (World.ownsRow.alloc H1.out.1 _) ⟨W1.heap.size, 0, none⟩ 1 1 _ rfl rfl (HNew.out W1) (by simp [Value.oneCell']) (by have := HOL.out; unfold maxLen; omega) (by have := HOL.out; omega) (by have := H1.out.2.size; simp; omega) ?_; intro v' w3 hown' hgrow3 hnil3))
          go_roundw
          case rel =>
            refine ⟨k + 1, v', by omega, by go_num, rfl, Lib.hid ⟨?_, ?_⟩⟩
            · rw [HT.out]; exact OwnsE.push hown'
            · exact (H1.out.2.alloc H1.out.2.size _).grown hgrow3 (Nat.le_trans H1.out.2.size (by simp)) HOwn.out
          case measure => simp [intOf]; omega
        · rw [if_neg (by unfold inW; rw [h1, Bool.true_and]; exact h2)] at HT
          have h2' : (u.wn == c) = false := by simpa using h2
          obtain ⟨e1, e2, e3, e4, e5, e6⟩ := u
          obtain ⟨c0, c1, c2, c3, c4, c5⟩ := hcu
          unfold evO at HBox HIn
          dsimp only at h1 h2' HBox HIn c0 c1 c2 c3 c4 c5
          have HTu := Lib.hid (HTr.out ⟨e1, e2, e3, e4, e5, e6⟩)
          dsimp only at HTu
          have hEq := eqT e1 e2 a b
          rw [h1] at hEq
          clear eqT HTr h2 HNew
          go_wp2_with (go_at_call 22; refine (HTu.out _).mono ?_; rintro e W1 ⟨rfl, hbW⟩; obtain ⟨p0, p1, p2, p3, p4, p5⟩ := HBox.out _ hbW; have H1 := Lib.hid (HIn.out _ hbW); clear hbW HBox HIn HTu; dsimp only at p0 p1 p2 p3 p4 p5)
          go_roundw
          case rel => exact ⟨k + 1, o, by omega, by go_num, rfl, Lib.hid (by rw [HT.out]; exact H1.out)⟩
          case measure => simp [intOf]; omega
      · have h1' : (u.it == a && u.tr == b) = false := by simpa using h1
        rw [if_neg (by unfold inW; rw [h1']; simp)] at HT
        obtain ⟨e1, e2, e3, e4, e5, e6⟩ := u
        obtain ⟨c0, c1, c2, c3, c4, c5⟩ := hcu
        unfold evO at HBox HIn
        dsimp only at h1' HBox HIn c0 c1 c2 c3 c4 c5
        have HTu := Lib.hid (HTr.out ⟨e1, e2, e3, e4, e5, e6⟩)
        dsimp only at HTu
        have hEq := eqT e1 e2 a b
        rw [h1'] at hEq
        clear eqT HTr h1 HNew
        go_wp2_with (go_at_call 22; refine (HTu.out _).mono ?_; rintro e W1 ⟨rfl, hbW⟩; obtain ⟨p0, p1, p2, p3, p4, p5⟩ := HBox.out _ hbW; have H1 := Lib.hid (HIn.out _ hbW); clear hbW HBox HIn HTu; dsimp only at p0 p1 p2 p3 p4 p5)
        go_roundw
        case rel => exact ⟨k + 1, o, by omega, by go_num, rfl, Lib.hid (by rw [HT.out]; exact H1.out)⟩
        case measure => simp [intOf]; omega
    · obtain rfl : k = es.length := by omega
      have hI := HI.out
      rw [List.take_length] at hI
      clear HI HTr eqT hi hz0 hz1 hz2
      have hol := own_len es a b c
      obtain ⟨y, cy, rfl, -, -, -, hf⟩ := hI.1.form
      by_cases h0 : (own es a b c).length = 0
      · have HS := Lib.hid (sortN_any y cy (.func (.func 24) #[] #[]) wr)
        have HO : Hid (OwnsE wr w.heap.size (.slice y 0 cy) (ofW es a b c)) := Lib.hid (by
          have e : own es a b c = [] := List.length_eq_zero_iff.1 h0
          unfold ofW
          have := hI.1
          rw [e] at this ⊢
          exact this)
        have HB := Lib.hid hI.2
        rw [h0]
        clear hf hI HX
        go_wp2_with (go_at_call 23; refine HS.out.mono ?_; rintro e w' ⟨rfl, rfl⟩)
        go_ret2
        exact ⟨_, rfl, HO.out, HB.out⟩
      · obtain ⟨g, rfl, hg1, hg2⟩ := hf (by omega)
        have HS := Lib.hid (sortS_any g (own es a b c).length cy w.heap.size (own es a b c) wr hI.1 rfl (by omega))
        have HB := Lib.hid hI.2
        have HG1 := Lib.hid hg1
        clear hf hI HX hg1 hg2
        go_wp2_with (go_at_call 23; refine HS.out.mono ?_; rintro e w' ⟨rfl, hO', hG'⟩)
        go_ret2
        exact ⟨_, rfl, hO', HB.out.grown hG' HB.out.size (fun g' e => by cases e; exact HG1.out)⟩

theorem Of_bad (x : Option Addr) (n cap : Nat) (a b c : Int) (w : World) (h : 1024 < n) :
    Calls Try.prog 10 #[.slice x n cap, .int .i64 a, .int .i64 b, .int .i64 c] w (RetV w [] 1) := by
  have HC := Lib.hid (check_any x n cap w)
  rw [chk_bad h] at HC
  go_enter Try.func10, Try.ntmps10
  go_wp2_with (go_at_call 20; refine HC.out.mono ?_; rintro e w' ⟨rfl, rfl⟩)
  go_ret2
  exact ⟨_, rfl, OwnsE.nil, Below.refl _ _⟩

end Go.Proofs.Ytbdcpjpdonednaa
