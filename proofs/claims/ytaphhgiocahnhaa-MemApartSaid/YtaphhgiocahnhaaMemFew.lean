/-
  Whether a memory, and what is done with it, is small enough to be played (the laws' own few).
-/
import Derived.Test.YtaphhgiocahnhaaMemNew
namespace Go.Proofs.Ytaphhgiocahnhaa
open Go.RowKit Go.Sort

/-- One has too many events to be played, or more than may be told. -/
def opOff (o : OpV) : Bool := (decide (20 < o.n) && decide (o.n ≤ 1024)) || decide (1030 < o.n)
def fewB (a : Int) (m : Nat) (os : List OpV) : Bool := os.all (fun o => !opOff o) && (decide (m ≤ 40) && (decide (a ≤ 60) && decide (os.length ≤ 80)))
theorem all_off {os : List OpV} (h : ∀ j, j < os.length → opOff (os.getD j noOp) = false) : os.all (fun o => !opOff o) = true := by
  rw [List.all_eq_true]
  intro o ho
  obtain ⟨j, hj, rfl⟩ := List.getElem_of_mem ho
  have := h j hj
  rw [List.getD_eq_getElem?_getD, List.getElem?_eq_getElem hj] at this
  simpa using this
theorem off_all {os : List OpV} {j : Nat} (hj : j < os.length) (h : opOff (os.getD j noOp) = true) : os.all (fun o => !opOff o) = false := by
  rw [List.all_eq_false]
  refine ⟨os[j], List.getElem_mem hj, ?_⟩
  rw [List.getD_eq_getElem?_getD, List.getElem?_eq_getElem hj] at h
  simpa using h
theorem fewB_no {a : Int} {m : Nat} {os : List OpV} (h : os.all (fun o => !opOff o) = false) : fewB a m os = false := by unfold fewB; rw [h]; rfl
theorem fewB_yes {a : Int} {m : Nat} {os : List OpV} (h : os.all (fun o => !opOff o) = true) : fewB a m os = (decide (m ≤ 40) && (decide (a ≤ 60) && decide (os.length ≤ 80))) := by unfold fewB; rw [h]; rfl
theorem fewB_in {a : Int} {m : Nat} {os : List OpV} (h : fewB a m os = true) : m ≤ 40 ∧ a ≤ 60 ∧ os.length ≤ 80 ∧ ∀ j, j < os.length → opOff (os.getD j noOp) = false := by
  unfold fewB at h
  simp only [Bool.and_eq_true, decide_eq_true_eq, List.all_eq_true] at h
  refine ⟨h.2.1, h.2.2.1, h.2.2.2, fun j hj => ?_⟩
  rw [List.getD_eq_getElem?_getD, List.getElem?_eq_getElem hj]
  have := h.1 os[j] (List.getElem_mem hj)
  simpa using this
theorem OpIn.at {w : World} {x : Option Addr} {n cap : Nat} {os : List OpV} (h : OpIn w x n cap os) {j : Nat} (hj : j < n) : OpOk w (os.getD j noOp) := by
  rw [List.getD_eq_getElem?_getD, List.getElem?_eq_getElem (by rw [h.1]; exact hj)]
  exact h.2.2.2.2 _ (List.getElem_mem (by rw [h.1]; exact hj))

set_option maxRecDepth 100000 in
set_option maxHeartbeats 4000000 in
theorem few_mem (a : Int) (x : Option Addr) (m cap : Nat) (y : Option Addr) (n cap' : Nat) (os : List OpV) (w : World) (hx : ReadsO w w.heap.size y os) (hn : os.length = n) (hl : n ≤ 9223372036854775807) (ha : -9223372036854775808 ≤ a ∧ a < 9223372036854775808) :
    Calls Try.prog 11 #[.int .i64 a, .slice x m cap, .slice y n cap'] w (RetB (.bool (fewB a m os)) w) := by
  subst hn
  have HX := Lib.hid hx
  have HB0 := Lib.hid (Below.refl w.heap.size w)
  clear hx
  go_enter Try.func11, Try.ntmps11
  go_wp2
  go_loopw [11] (fun i wr => ∃ k : Nat, k ≤ os.length ∧ i = .int .i64 k ∧ Hid (Below w.heap.size w wr ∧ ∀ j, j < k → opOff (os.getD j noOp) = false)) (fun i _ => os.length - (intOf i).toNat)
  case atStart => exact ⟨0, Nat.zero_le _, rfl, Lib.hid ⟨HB0.out, fun j hj => by omega⟩⟩
  case round =>
    clear HB0
    obtain ⟨k, hk, rfl, HI⟩ := hrel
    by_cases hlt : k < os.length
    · obtain ⟨b, off, rfl, hb, hc⟩ := (HX.out.below HI.out.1) (by omega)
      have hcu := hc k hlt
      have HA : Hid (opOff (os.getD k noOp) = true → fewB a m os = false) := Lib.hid (fun h => fewB_no (off_all hlt h))
      have HN : Hid (opOff (os.getD k noOp) = false → ∀ j, j < k + 1 → opOff (os.getD j noOp) = false) := Lib.hid (fun h j hj => by
        by_cases e : j = k
        · rw [e]; exact h
        · exact HI.out.2 j (by omega))
      obtain ⟨u, hu⟩ : ∃ u, u = os.getD k noOp := ⟨_, rfl⟩
      rw [← hu] at hcu HA HN
      obtain ⟨kd, ad, wd, ux, un, ucap, ues⟩ := u
      obtain ⟨k0, k1, k2, k3⟩ := hcu
      unfold opOff at HA
      dsimp only at k0 k1 k2 k3 HA
      have HB := Lib.hid (below_al HI.out.1 (.cells #[.int .u8 kd, .int .i64 ad, .int .u64 wd, .slice ux un ucap] 35))
      clear hc hu HX HI
      have hpart : (decide ((20 : Int) < (un : Int)) = false ∧ decide ((1030 : Int) < (un : Int)) = false ∧ opOff ⟨kd, ad, wd, ux, un, ucap, ues⟩ = false) ∨ (decide ((20 : Int) < (un : Int)) = true ∧ decide ((un : Int) ≤ 1024) = true ∧ opOff ⟨kd, ad, wd, ux, un, ucap, ues⟩ = true) ∨
          (decide ((20 : Int) < (un : Int)) = true ∧ decide ((un : Int) ≤ 1024) = false ∧ decide ((1030 : Int) < (un : Int)) = false ∧ opOff ⟨kd, ad, wd, ux, un, ucap, ues⟩ = false) ∨ (decide ((20 : Int) < (un : Int)) = true ∧ decide ((un : Int) ≤ 1024) = false ∧ decide ((1030 : Int) < (un : Int)) = true ∧ opOff ⟨kd, ad, wd, ux, un, ucap, ues⟩ = true) := by
        unfold opOff
        simp only [decide_eq_true_eq, decide_eq_false_iff_not, Bool.or_eq_true, Bool.and_eq_true, Bool.or_eq_false_iff, Bool.and_eq_false_iff]
        omega
      rcases hpart with ⟨t1, t2, t3⟩ | ⟨t1, t2, t3⟩ | ⟨t1, t2, t4, t3⟩ | ⟨t1, t2, t4, t3⟩
      · have HR := Lib.hid (HN.out t3)
        clear HN HA t3
        go_wp2
        go_roundw
        case rel => exact ⟨k + 1, by omega, by go_num, Lib.hid ⟨HB.out, HR.out⟩⟩
        case measure => simp [intOf]; omega
      · have HR := Lib.hid (HA.out (by unfold opOff at t3; exact t3))
        clear HN HA t3
        go_wp2
        go_ret
        exact ⟨ret_b HR.out.symm, HB.out⟩
      · have HR := Lib.hid (HN.out t3)
        clear HN HA t3
        go_wp2
        go_roundw
        case rel => exact ⟨k + 1, by omega, by go_num, Lib.hid ⟨HB.out, HR.out⟩⟩
        case measure => simp [intOf]; omega
      · have HR := Lib.hid (HA.out (by unfold opOff at t3; exact t3))
        clear HN HA t3
        go_wp2
        go_ret
        exact ⟨ret_b HR.out.symm, HB.out⟩
    · have HE : Hid (fewB a m os = (decide (m ≤ 40) && (decide (a ≤ 60) && decide (os.length ≤ 80)))) := Lib.hid (fewB_yes (all_off fun j hj => HI.out.2 j (by omega)))
      have HB := Lib.hid HI.out.1
      clear HI HX
      by_cases c1 : m ≤ 40
      · have t1 : decide ((m : Int) ≤ 40) = true := by simp; omega
        by_cases c2 : a ≤ 60
        · have t2 : decide (a ≤ 60) = true := by simpa using c2
          by_cases c3 : os.length ≤ 80
          · have t3 : decide ((os.length : Int) ≤ 80) = true := by simp; omega
            have HR : Hid (fewB a m os = true) := Lib.hid (by rw [HE.out]; simp; omega)
            clear HE
            go_wp2
            go_ret
            exact ⟨ret_b HR.out.symm, HB.out⟩
          · have t3 : decide ((os.length : Int) ≤ 80) = false := by simp; omega
            have HR : Hid (fewB a m os = false) := Lib.hid (by rw [HE.out]; simp; omega)
            clear HE
            go_wp2
            go_ret
            exact ⟨ret_b HR.out.symm, HB.out⟩
        · have t2 : decide (a ≤ 60) = false := by simpa using c2
          have HR : Hid (fewB a m os = false) := Lib.hid (by rw [HE.out]; simp; omega)
          clear HE
          go_wp2
          go_ret
          exact ⟨ret_b HR.out.symm, HB.out⟩
      · have t1 : decide ((m : Int) ≤ 40) = false := by simp; omega
        have HR : Hid (fewB a m os = false) := Lib.hid (by rw [HE.out]; simp; omega)
        clear HE
        go_wp2
        go_ret
        exact ⟨ret_b HR.out.symm, HB.out⟩

end Go.Proofs.Ytaphhgiocahnhaa
