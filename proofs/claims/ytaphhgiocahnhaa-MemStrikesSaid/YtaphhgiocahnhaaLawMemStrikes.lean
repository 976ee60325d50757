/-
  The walk of MemStrikes: of a window in which nothing is stored all events, and no others, have struck when it ends.
-/
import Derived.Test.YtaphhgiocahnhaaMemEx
namespace Go.Proofs.Ytaphhgiocahnhaa
open Go.RowKit Go.Sort

theorem strike_app (xs ys : List Ev) (ws : List Int) : strike (xs ++ ys) ws = strike ys (strike xs ws) := by unfold strike; rw [List.foldl_append]
theorem due_yet_perm (t : Int) (es : List Ev) : (due t es ++ yet t es).Perm es := by
  have h := List.filter_append_perm (fun x : Ev => decide (x.tk ≤ t)) es
  have e : es.filter (fun x => !decide (x.tk ≤ t)) = yet t es := List.filter_congr fun x _ => by
    by_cases c : x.tk ≤ t
    · rw [decide_eq_true c, decide_eq_false (by omega)]; rfl
    · rw [decide_eq_false c, decide_eq_true (by omega)]; rfl
  rw [e] at h
  exact h
/-- What an access strikes, and what strikes later, are all. -/
theorem acc_all (s : MS) : strike (acc s).es (acc s).ws = strike s.es s.ws := by
  unfold acc
  dsimp only
  rw [← strike_app]
  exact strike_perm (due_yet_perm _ _) _
theorem ldS_all (s : MS) (ad : Int) : strike (ldS s ad).es (ldS s ad).ws = strike s.es s.ws := by
  unfold ldS
  split
  · exact acc_all s
  · rfl

/-- Behind k stores. -/
def StAt (w wr : World) (M : Nat) (xs : List Int) (k : Nat) : Prop := ∃ s, Ex w wr M s k ∧ s.es = [] ∧ s.ws.length = xs.length ∧ ∀ j, j < k → s.ws.getD j 0 = xs.getD j 0
/-- Among the loads: all together strikes what the law strikes. -/
def LdAt (w wr : World) (M : Nat) (n k : Nat) (want : List Int) : Prop := ∃ s, Ex w wr M s k ∧ s.ws.length = n ∧ strike s.es s.ws = want

section
variable {w wr : World} {M n k : Nat} {xs want : List Int}
theorem StAt.store (h : StAt w wr M xs k) (hk : k < xs.length) (hl : xs.length ≤ 60) (hw : Words xs) :
    Calls Try.prog 25 #[.pointer (some ⟨M, 0, none⟩), .int .i64 (k : Int), .int .u64 (xs.getD k 0)] wr fun e w' => e = .returned (.int .i64 0) ∧ StAt w w' M xs (k + 1) := by
  obtain ⟨s, h1, h2, h3, h4⟩ := h
  have hp : hasP s.ws.length (k : Int) = true := by unfold hasP; simp; omega
  have := h1.store (ad := (k : Int)) (u := xs.getD k 0) (by omega) (by omega) (hw k)
  unfold adE stS at this
  rw [hp, if_pos rfl, if_pos rfl, Int.toNat_natCast, acc_bare h2] at this
  refine this.mono ?_
  rintro e w' ⟨rfl, h5⟩
  refine ⟨rfl, _, h5, rfl, by dsimp only; rw [List.length_set]; exact h3, fun j hj => ?_⟩
  dsimp only
  rw [getD_set]
  by_cases c : k = j
  · rw [if_pos ⟨c, by omega⟩, c]
  · rw [if_neg (by omega)]; exact h4 j (by omega)
theorem StAt.next (h : StAt w wr M xs xs.length) (hl : xs.length ≤ 60) {y : Option Addr} {m cy : Nat} {ls : List Ev} (hx : ReadsE wr w.heap.size y ls) (hm : ls.length = m) (ho : EvsOk ls) (hm4 : m ≤ 40) :
    Calls Try.prog 26 #[.pointer (some ⟨M, 0, none⟩), .slice y m cy] wr fun e w' => e = .returned (.int .i64 0) ∧ LdAt w w' M xs.length xs.length (strike ls xs) := by
  obtain ⟨s, h1, h2, h3, h4⟩ := h
  have e : s.ws = xs := ext_getD h3 fun j hj => h4 j (by omega)
  have := h1.next (cap := cy) (by omega) hx hm ho
  unfold nxR nxS at this
  rw [if_pos (by omega), if_pos (by omega), h2, e] at this
  refine this.mono ?_
  rintro e w' ⟨rfl, h5⟩
  exact ⟨rfl, _, h5, rfl, by dsimp only; rw [strike_nil]; exact strike_perm ((putAll_perm ls []).trans (by simp)) _⟩
theorem LdAt.load (h : LdAt w wr M n k want) (hk : k ≤ 1000) {ad : Int} (hb : -9223372036854775808 ≤ ad ∧ ad < 9223372036854775808) :
    ∃ v, Calls Try.prog 27 #[.pointer (some ⟨M, 0, none⟩), .int .i64 ad] wr fun e w' => e = .returned (.tuple #[.int .u64 v, .int .i64 (if hasP n ad = true then 0 else 1)]) ∧ LdAt w w' M n (k + 1) want := by
  obtain ⟨s, h1, h2, h3⟩ := h
  refine ⟨ldV s ad, (h1.load (by omega) hb).mono ?_⟩
  rintro e w' ⟨rfl, h5⟩
  refine ⟨by unfold adE; rw [h2], _, h5, by rw [ldS_len]; exact h2, by rw [ldS_all]; exact h3⟩
theorem LdAt.quiet {w' : World} (h : LdAt w wr M n k want) (hb : Below wr.heap.size wr w') : LdAt w w' M n k want := by
  obtain ⟨s, h1, h2, h3⟩ := h
  exact ⟨s, h1.quiet hb, h2, h3⟩
theorem LdAt.below (h : LdAt w wr M n k want) : Below w.heap.size w wr := by obtain ⟨s, h1, _⟩ := h; exact h1.below
theorem StAt.below (h : StAt w wr M xs k) : Below w.heap.size w wr := by obtain ⟨s, h1, _⟩ := h; exact h1.below
theorem LdAt.last (h : LdAt w wr M n k want) (hk : k ≤ 1000) {w8 : World} {v8 : Value} (hb : Below wr.heap.size wr w8) (hO : Owns .u64 33 w8 wr.heap.size v8 want) :
    Calls Try.prog 26 #[.pointer (some ⟨M, 0, none⟩), .slice none 0 0] w8 fun e w' => e = .returned (.int .i64 0) ∧ (∃ s, Ex w w' M s k ∧ s.ws = want) ∧ Owns .u64 33 w' wr.heap.size v8 want := by
  obtain ⟨s, ⟨F, h1⟩, h2, h3⟩ := h
  have h8 := h1.quiet hb
  refine (Next_mem F M s none 0 0 [] w8 h8.mem rdF_nil rfl (fun s hs => by cases hs) (h8.cnt (by omega)).1 (h8.cnt (by omega)).2).mono ?_
  rintro e w' ⟨rfl, hT⟩
  obtain ⟨c1, c2, c3⟩ := nxS_cnt s [] h8.t0 h8.a0
  refine ⟨rfl, ⟨_, ⟨_, h8.step (Below.refl _ _) hT c1 c2 (by have := h8.sum; omega)⟩, h3⟩, hO.stay fun g e => hT.2.block g (hO.blockLt e).2 fun c => ?_⟩
  have := h1.mem.lt g c
  have := (hO.blockLt e).1
  omega
end

set_option maxHeartbeats 16000000 in
set_option maxRecDepth 100000 in
theorem strikes_in (x : Option Addr) (n cx : Nat) (xs : List Int) (y : Option Addr) (m cy : Nat) (ls : List Ev) (z : Option Addr) (L cz : Nat) (ks : List Int) (w : World) (h1 : 1 ≤ n) (h2 : n ≤ 60) (hm : m ≤ 40) (hL : L ≤ 60)
    (hX : Reads .u64 w w.heap.size x xs) (hXl : xs.length = n) (hXw : Words xs) (hXs : Src .u64 w x n cx xs) (hE : EventIn w y m cy ls) (hK : Reads .i64 w w.heap.size z ks) (hKl : ks.length = L) (hKb : ∀ j, j < L → -9223372036854775808 ≤ ks.getD j 0 ∧ ks.getD j 0 < 9223372036854775808) :
    Calls Try.prog 6 #[.slice x n cx, .slice y m cy, .slice z L cz] w fun e w' => e = .returned (.bool true) ∧ Below w.heap.size w w' := by
  have HV := Lib.hid (live12_any w)
  have HN := Lib.hid (fun w1 => mNew_ok n none 0 0 [] w1 h1 (by omega) ReadsE.nil rfl (by intro s hs; cases hs) (by omega))
  have HX := Lib.hid hX
  have HXl := Lib.hid hXl
  have HXw := Lib.hid hXw
  have HE := Lib.hid hE
  have HK := Lib.hid hK
  have HKl := Lib.hid hKl
  have HKb := Lib.hid hKb
  have KS := Lib.hid (fun w1 (hb : Below w.heap.size w w1) => Strike_ok y m cy ls x n cx xs w1 (hE.2.2.2.1.since hb) hE.1 hE.2.2.2.2 (by omega) (hXs.keep hb) hXw (by omega))
  have d1 : decide ((n : Int) < 1) = false := by simp; omega
  have d2 : decide ((60 : Int) < (n : Int)) = false := by simp; omega
  have d3 : decide ((40 : Int) < (m : Int)) = false := by simp; omega
  have d4 : decide ((60 : Int) < (L : Int)) = false := by simp; omega
  have HWl : Hid ((strike ls xs).length = n) := Lib.hid (by rw [strike_len]; exact hXl)
  generalize hw : strike ls xs = want at KS HWl
  have Hw := Lib.hid hw
  clear hX hXl hXw hXs hE hK hKl hKb hw
  go_enter Try.func6, Try.ntmps6
  go_wp2_with (first
    | (go_at_call 10; refine HV.out.mono ?_; clear HV; rintro e w1 ⟨rfl, hb1⟩; have B1 := Lib.hid hb1; clear hb1)
    | (go_at_call 12; refine (HN.out w1).mono ?_; clear HN; rintro e w2 ⟨M, rfl, hm2, hb2⟩; have A2 : Hid (StAt w w2 M xs 0) := Lib.hid ⟨_, Ex.made B1.out hm2 hb2 rfl rfl, rfl, by rw [newS_len]; exact HXl.out.symm, fun j hj => by omega⟩; clear hm2 hb2 B1))
  go_loopw [51] (fun i wr => ∃ k : Nat, k ≤ n ∧ i = .int .i64 k ∧ Hid (StAt w wr M xs k)) (fun i _ => n - (intOf i).toNat)
  case atStart => exact ⟨0, Nat.zero_le _, rfl, A2⟩
  case round =>
    clear A2
    obtain ⟨k, hk, rfl, HI⟩ := hrel
    by_cases hlt : k < n
    · obtain ⟨b, off, rfl, hb, hc⟩ := (HX.out.below HI.out.below) (by have := HXl.out; omega)
      have hcu := hc k (by have := HXl.out; omega)
      have K5 := Lib.hid (HI.out.store (by have := HXl.out; omega) (by have := HXl.out; omega) HXw.out)
      generalize xs.getD k 0 = u at hcu K5
      clear hc HI
      go_wp2_with (go_at_call 25; refine K5.out.mono ?_; clear K5; rintro e w5 ⟨rfl, h5⟩; have A5 := Lib.hid h5; clear h5)
      go_roundw
      case rel => exact ⟨k + 1, by omega, by congr 1, A5⟩
      case measure => simp [intOf]; omega
    · obtain rfl : k = n := by omega
      have K6 := Lib.hid (show Calls Try.prog 26 #[.pointer (some ⟨M, 0, none⟩), .slice y m cy] wr fun e w' => e = .returned (.int .i64 0) ∧ LdAt w w' M k k want from by
        have hI := HI.out
        have hl := HXl.out
        have := StAt.next (M := M) (cy := cy) (show StAt w wr M xs xs.length by rw [hl]; exact hI) (by omega) (HE.out.2.2.2.1.below hI.below) HE.out.1 HE.out.2.2.2.2 hm
        rw [hl, Hw.out] at this
        exact this)
      clear HI
      go_wp2_with (go_at_call 26; refine K6.out.mono ?_; clear K6; rintro e w6 ⟨rfl, h6⟩; have A6 := Lib.hid h6; clear h6)
      go_loopw [68] (fun i wr => ∃ q : Nat, q ≤ L ∧ i = .int .i64 q ∧ Hid (LdAt w wr M k (k + q) want)) (fun i _ => L - (intOf i).toNat)
      case atStart => exact ⟨0, Nat.zero_le _, rfl, A6⟩
      case round =>
        clear A6
        obtain ⟨q, hq, rfl, HI⟩ := hrel
        by_cases hlt : q < L
        · obtain ⟨b, off, rfl, hb, hc⟩ := (HK.out.below HI.out.below) (by have := HKl.out; omega)
          have hcu := hc q (by have := HKl.out; omega)
          have hub := HKb.out q hlt
          generalize ks.getD q 0 = u at hcu hub
          obtain ⟨v, hv⟩ := HI.out.load (by omega) hub
          have K7 := Lib.hid hv
          clear hc HI hv
          have hpart : ∃ er : Int, (if hasP k u = true then (0 : Int) else 1) = er ∧ ((decide (0 ≤ u) = true ∧ decide (u < (k : Int)) = true ∧ er = 0) ∨ (decide (0 ≤ u) = true ∧ decide (u < (k : Int)) = false ∧ er = 1) ∨ (decide (0 ≤ u) = false ∧ er = 1)) := by
            refine ⟨_, rfl, ?_⟩
            cases hp : hasP k u
            · have := hasP_no hp
              by_cases c : 0 ≤ u
              · exact .inr (.inl ⟨by simpa using c, by simp; omega, by simp⟩)
              · exact .inr (.inr ⟨by simpa using c, by simp⟩)
            · obtain ⟨c1, c2⟩ := hasP_in hp
              exact .inl ⟨by simpa using c1, by simpa using c2, by simp⟩
          obtain ⟨er, he, hcase⟩ := hpart
          rw [he] at K7
          clear he
          rcases hcase with ⟨q1, q2, rfl⟩ | ⟨q1, q2, rfl⟩ | ⟨q1, rfl⟩
          all_goals
            go_wp2_with (go_at_call 27; refine K7.out.mono ?_; clear K7; rintro e w7 ⟨rfl, h7⟩; have A7 := Lib.hid h7; clear h7)
            go_roundw
            case rel => exact ⟨q + 1, by omega, by congr 1, A7⟩
            case measure => simp [intOf]; omega
        · have K8 := Lib.hid (KS.out wr HI.out.below)
          clear KS
          have A7 := HI
          clear HI
          go_wp2_with (first
            | (go_at_call 28; refine K8.out.mono ?_; clear K8; rintro e w8 ⟨v8, rfl, hO8, hB8⟩; obtain ⟨x8, c8, rfl, -⟩ := hO8.form; rw [HWl.out] at hO8 ⊢; have K9 := Lib.hid (A7.out.last (by omega) hB8 hO8); clear A7 hO8 hB8)
            | (go_at_call 26; refine K9.out.mono ?_; clear K9; rintro e w9 ⟨rfl, ⟨s9, h9, hs9⟩, hO9⟩; have A9 := Lib.hid h9.below; have O9 := Lib.hid hO9; have K10 := Lib.hid h9.words; rw [hs9] at K10; clear h9 hs9 hO9)
            | (go_at_call 22; refine K10.out.mono ?_; clear K10; rintro e w10 ⟨x10, c10, rfl, hO10, hB10⟩; rw [HWl.out] at hO10 ⊢; have K11 := Lib.hid (sameW_any x10 x8 k k c10 c8 want want w10 _ hO10.rd (O9.out.below hB10).rd HWl.out HWl.out (by omega) (by omega)); rw [decide_eq_true rfl] at K11; have A10 := Lib.hid (below_on A9.out hB10); clear hO10 hB10)
            | (go_at_call 23; refine K11.out.mono ?_; clear K11; rintro e w11 ⟨rfl, nq, rfl⟩; have A11 := Lib.hid (below_draws A10.out nq); clear A10))
          go_ret
          exact ⟨rfl, A11.out⟩

set_option maxRecDepth 100000 in
theorem walk_MemStrikes (x : Option Addr) (n cx : Nat) (zs : List Int) (y : Option Addr) (m cy : Nat) (ls : List Ev) (z : Option Addr) (L cz : Nat) (us : List Int) (w : World) (hW : RowIn .u64 w x n cx zs) (hE : EventIn w y m cy ls) (_hb : m ≤ 2932031007403) (hK : RowIn .i64 w z L cz us) :
    Calls Try.prog 6 #[.slice x n cx, .slice y m cy, .slice z L cz] w fun e w' => e = .returned (.bool true) ∧ Below w.heap.size w w' := by
  obtain ⟨xs, hxs, hXl, hc1, hc2, hX, hXw⟩ := hW.reads
  have hXs := hW.src
  rw [← hxs] at hXs
  obtain ⟨ks, hks, hKl, hc3, hc4, hR, -⟩ := hK.readsI
  have hKb : ∀ j, j < L → -9223372036854775808 ≤ ks.getD j 0 ∧ ks.getD j 0 < 9223372036854775808 := fun j hj => by
    rcases hK with ⟨-, rfl, -, -⟩ | ⟨_, _, _, _, _, _, h6⟩
    · omega
    · have hjl : j < ks.length := by omega
      rw [List.getD_eq_getElem?_getD, List.getElem?_eq_getElem hjl]
      have hall : ∀ v ∈ ks, v ∈ us := fun v hv => List.mem_of_mem_take (by rw [hks] at hv; exact hv)
      exact i64_of (h6 _ (hall _ (List.getElem_mem hjl)))
  by_cases hin : 1 ≤ n ∧ n ≤ 60 ∧ m ≤ 40 ∧ L ≤ 60
  · exact strikes_in x n cx xs y m cy ls z L cz ks w hin.1 hin.2.1 hin.2.2.1 hin.2.2.2 hX hXl hXw hXs hE hR hKl hKb
  · have HV := Lib.hid (live12_any w)
    have hpart : decide ((n : Int) < 1) = true ∨ (decide ((n : Int) < 1) = false ∧ decide ((60 : Int) < (n : Int)) = true) ∨ (decide ((n : Int) < 1) = false ∧ decide ((60 : Int) < (n : Int)) = false ∧ decide ((40 : Int) < (m : Int)) = true) ∨
        (decide ((n : Int) < 1) = false ∧ decide ((60 : Int) < (n : Int)) = false ∧ decide ((40 : Int) < (m : Int)) = false ∧ decide ((60 : Int) < (L : Int)) = true) := by
      simp only [decide_eq_true_eq, decide_eq_false_iff_not]
      omega
    clear hin hW hE hK hX hXw hXs hR hKb hxs hks hXl hKl hc1 hc2 hc3 hc4
    rcases hpart with d1 | ⟨d1, d2⟩ | ⟨d1, d2, d3⟩ | ⟨d1, d2, d3, d4⟩
    all_goals
      go_enter Try.func6, Try.ntmps6
      go_wp2_with (go_at_call 10; refine HV.out.mono ?_; clear HV; rintro e w1 ⟨rfl, hb1⟩; have B1 := Lib.hid hb1; clear hb1)
      go_ret
      exact ⟨rfl, B1.out⟩

end Go.Proofs.Ytaphhgiocahnhaa
