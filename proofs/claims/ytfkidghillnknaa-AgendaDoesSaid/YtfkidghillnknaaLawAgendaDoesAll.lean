/-
  The walk of AgendaDoes, whatever it is handed.
-/
import Derived.Test.YtfkidghillnknaaLawAgendaDoes
namespace Go.Proofs.Ytfkidghillnknaa
open Go.RowKit

set_option maxHeartbeats 4000000 in
set_option maxRecDepth 100000 in
theorem does_bad (a : Option Addr) (len cap : Nat) (es : List Ev) (b : Option Addr) (mm cap' : Nat) (c : Option Addr) (q cap'' : Nat) (w : World) (hI : EventIn w a len cap es) (hl : 1024 < len) (hl' : len ≤ 1030) (hmm : mm ≤ 40) (hq : q ≤ 12) :
    Calls Try.prog 3 #[.slice a len cap, .slice b mm cap', .slice c q cap''] w fun e w' => e = .returned (.bool true) ∧ Below w.heap.size w w' := by
  have HV := Lib.hid (live11_any w)
  have HSl := Lib.hid hI.src
  have d1 : decide ((40 : Int) < (len : Int)) = true := by simp; omega
  have d1' : decide ((len : Int) < 1000) = false := by simp; omega
  have d2 : decide ((1030 : Int) < (len : Int)) = false := by simp; omega
  have d3 : decide ((40 : Int) < (mm : Int)) = false := by simp; omega
  have d4 : decide ((12 : Int) < (q : Int)) = false := by simp; omega
  have HN := Lib.hid (fun W => New_bad a len cap W hl)
  have HrN := Lib.hid (fun W => rNew_bad a len cap W hl (by omega))
  clear hI
  go_enter Try.func3, Try.ntmps3
  go_wp2_with (first
    | (go_at_call 9; refine HV.out.mono ?_; rintro e w1 ⟨rfl, hb1⟩; have B1 := Lib.hid hb1; clear hb1 HV)
    | (at_builtin; refine wpList_append_ev rfl _ _ rfl w1.heap.size (.slice none 0 0) [] rfl OwnsE.nil a _ cap es rfl (HSl.out.keep B1.out) (by simp; omega) (Nat.le_refl _) ?_; intro v2 w2 hO2 hg2; have B2 := Lib.hid (B1.out.trans ((But.of_grown hg2).below B1.out.size fun k e => by cases e)); clear hO2 hg2)
    | (go_at_call 10; refine (HN.out w2).mono ?_; clear HN; rintro e w3 ⟨rfl, hb3⟩; have B3 := Lib.hid (below_on B2.out hb3); clear hb3)
    | (go_at_call 11; refine (HrN.out w3).mono ?_; clear HrN; rintro e w4 ⟨rfl, hb4⟩; have B4 := Lib.hid (below_on B3.out hb4); clear hb4))
  go_ret
  exact ⟨rfl, B4.out⟩

set_option maxHeartbeats 4000000 in
set_option maxRecDepth 100000 in
theorem does_off (a : Option Addr) (len cap : Nat) (b : Option Addr) (mm cap' : Nat) (c : Option Addr) (q cap'' : Nat) (w : World) (h : (40 < len ∧ len < 1000) ∨ 1030 < len ∨ 40 < mm ∨ 12 < q) :
    Calls Try.prog 3 #[.slice a len cap, .slice b mm cap', .slice c q cap''] w fun e w' => e = .returned (.bool true) ∧ Below w.heap.size w w' := by
  have HV := Lib.hid (live11_any w)
  obtain ⟨b1, hb1⟩ : ∃ x, decide ((40 : Int) < (len : Int)) = x := ⟨_, rfl⟩
  obtain ⟨b2, hb2⟩ : ∃ x, decide ((len : Int) < 1000) = x := ⟨_, rfl⟩
  obtain ⟨b3, hb3⟩ : ∃ x, decide ((1030 : Int) < (len : Int)) = x := ⟨_, rfl⟩
  obtain ⟨b4, hb4⟩ : ∃ x, decide ((40 : Int) < (mm : Int)) = x := ⟨_, rfl⟩
  obtain ⟨b5, hb5⟩ : ∃ x, decide ((12 : Int) < (q : Int)) = x := ⟨_, rfl⟩
  have hh : (b1 = true ∧ b2 = true) ∨ ((b1 = false ∨ b2 = false) ∧ (b3 = true ∨ (b3 = false ∧ (b4 = true ∨ (b4 = false ∧ b5 = true))))) := by
    subst hb1 hb2 hb3 hb4 hb5
    simp only [decide_eq_true_eq, decide_eq_false_iff_not]
    omega
  have go : ∀ (h1 : b1 = true ∧ b2 = true ∨ b1 = true ∧ b2 = false ∧ b3 = true ∨ b1 = true ∧ b2 = false ∧ b3 = false ∧ b4 = true ∨ b1 = true ∧ b2 = false ∧ b3 = false ∧ b4 = false ∧ b5 = true ∨ b1 = false ∧ b3 = true ∨ b1 = false ∧ b3 = false ∧ b4 = true ∨ b1 = false ∧ b3 = false ∧ b4 = false ∧ b5 = true),
      Calls Try.prog 3 #[.slice a len cap, .slice b mm cap', .slice c q cap''] w fun e w' => e = .returned (.bool true) ∧ Below w.heap.size w w' := by
    intro h1
    clear hh h
    rcases h1 with ⟨rfl, rfl⟩ | ⟨rfl, rfl, rfl⟩ | ⟨rfl, rfl, rfl, rfl⟩ | ⟨rfl, rfl, rfl, rfl, rfl⟩ | ⟨rfl, rfl⟩ | ⟨rfl, rfl, rfl⟩ | ⟨rfl, rfl, rfl, rfl⟩
    all_goals
      go_enter Try.func3, Try.ntmps3
      go_wp2_with (go_at_call 9; refine HV.out.mono ?_; rintro e w1 ⟨rfl, hbb⟩)
      go_ret
      exact ⟨rfl, hbb⟩
  refine go ?_
  revert hh
  cases b1 <;> cases b2 <;> cases b3 <;> cases b4 <;> cases b5 <;> simp

theorem walk_AgendaDoes (a : Option Addr) (len cap : Nat) (es : List Ev) (b : Option Addr) (mm cap' : Nat) (ms : List Ev) (c : Option Addr) (q cap'' : Nat) (zs : List Int) (w : World)
    (hI : EventIn w a len cap es) (_h1 : len ≤ 2932031007403) (hM : EventIn w b mm cap' ms) (_h2 : mm ≤ 2932031007403) (hr : RowIn .i64 w c q cap'' zs) :
    Calls Try.prog 3 #[.slice a len cap, .slice b mm cap', .slice c q cap''] w fun e w' => e = .returned (.bool true) ∧ Below w.heap.size w w' := by
  by_cases ho : (40 < len ∧ len < 1000) ∨ 1030 < len ∨ 40 < mm ∨ 12 < q
  · exact does_off a len cap b mm cap' c q cap'' w ho
  · by_cases hl : len ≤ 1024
    · obtain ⟨xs, -, hxl, -, -, hx, -⟩ := hr.readsI
      refine does_in a len cap es b mm cap' ms c q cap'' xs w hI hM hx hxl hl (by omega) (by omega) ?_
      by_cases h40 : len ≤ 40
      · exact .inl (by simp; omega)
      · exact .inr ⟨by simp; omega, by simp; omega⟩
    · exact does_bad a len cap es b mm cap' c q cap'' w hI (by omega) (by omega) (by omega) (by omega)

end Go.Proofs.Ytfkidghillnknaa
