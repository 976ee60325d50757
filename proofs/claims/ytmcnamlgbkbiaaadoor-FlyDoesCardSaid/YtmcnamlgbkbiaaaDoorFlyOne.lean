/-
  Layer 15: what Points, Do and Weigh tell, as numbers and lists. No function of fly is named here.
-/
import Derived.Test.YtmcnamlgbkbiaaaDoorMathFly
import Derived.Test.YtmcnamlgbkbiaaaDoorIn
import Derived.Test.YtmcnamlgbkbiaaaDoorRefInv
import Derived.Test.YtmcnamlgbkbiaaaDoorRoot
namespace Go.Proofs.YtmcnamlgbkbiaaaDoor
open Go.RowKit

/-- What a call returns that makes a list of words, or tells why not. -/
def RetY (w : World) (xs : List Int) (er : Int) (e : Ending) (w' : World) : Prop :=
  ∃ v, e = .returned (.tuple #[v, .int .i64 er]) ∧ Owns .u64 22 w' w.heap.size v xs ∧ Below w.heap.size w w'
theorem RetY.none (er : Int) {w w' : World} (h : Below w.heap.size w w') : RetY w [] er (.returned (.tuple #[.slice none 0 0, .int .i64 er])) w' := ⟨_, rfl, Owns.nil, h⟩

namespace Fly
/-- Word j of xs. -/
def el (xs : List Int) (j : Nat) : Int := xs.getD j 0
/-- Are they all numbers of p? -/
def inB (p : Int) (xs : List Int) : Bool := Fp.isIn p (fun j => xs.getD j 0) xs.length
/-- What Points tells. -/
def ptsL (p r : Int) (inv : Bool) : List Int := if ptE p r = 0 then (List.range r.toNat).map (pt p inv r.toNat) else []
/-- What Do tells. -/
def doE (p : Int) (xs : List Int) : Int := if ptE p xs.length = 0 then (if inB p xs = true then 0 else 7) else ptE p xs.length
def doL (p : Int) (inv : Bool) (xs : List Int) : List Int := if doE p xs = 0 then (List.range xs.length).map (doN p inv xs.length (el xs)) else []
/-- What Weigh tells. -/
def wgE (p : Int) (xs ws : List Int) : Int := if doE p xs = 0 then (if ws.length = xs.length then (if inB p ws = true then 0 else 7) else 6) else doE p xs
def wgV (p : Int) (inv : Bool) (xs ws : List Int) : Int := if wgE p xs ws = 0 then wgN p inv xs.length (el xs) (el ws) else 0

/-- No error: all is right. -/
structure Fine (p : Int) (xs : List Int) : Prop where
  rdx : Rdx p xs.length
  lt : ∀ j, j < xs.length → xs.getD j 0 < p
theorem inB_yes {p : Int} {xs : List Int} (h : inB p xs = true) : ∀ j, j < xs.length → xs.getD j 0 < p := fun j hj => by
  rcases Int.lt_or_le (xs.getD j 0) p with c | c
  · exact c
  · have := Fp.isIn_at (p := p) (f := fun j => xs.getD j 0) (k := j) (by omega) xs.length hj
    unfold inB at h
    rw [this] at h
    cases h
theorem inB_of {p : Int} {xs : List Int} (hk : Fp.kn p = true) (h : ∀ j, j < xs.length → xs.getD j 0 < p) : inB p xs = true := Fp.isIn_yes hk _ h
theorem doE_zero {p : Int} {xs : List Int} (h : doE p xs = 0) : Fine p xs := by
  unfold doE at h
  split at h
  · rename_i a
    split at h
    · rename_i b
      exact ⟨ptE_zero a, inB_yes b⟩
    · omega
  · omega
theorem Fine.zero {p : Int} {xs : List Int} (h : Fine p xs) : doE p xs = 0 := by
  unfold doE
  rw [if_pos h.rdx.zero, if_pos (inB_of h.rdx.kn h.lt)]
theorem Fine.doL {p : Int} {xs : List Int} (h : Fine p xs) (inv : Bool) : doL p inv xs = (List.range xs.length).map (doN p inv xs.length (el xs)) := if_pos h.zero
theorem wgE_zero {p : Int} {xs ws : List Int} (h : wgE p xs ws = 0) : Fine p xs ∧ ws.length = xs.length ∧ Fine p ws := by
  unfold wgE at h
  split at h
  · rename_i a
    split at h
    · rename_i b
      split at h
      · rename_i c
        have := doE_zero a
        exact ⟨this, b, ⟨by rw [b]; exact this.rdx, inB_yes c⟩⟩
      · omega
    · omega
  · rename_i a; exact absurd h a
theorem wgE_of {p : Int} {xs ws : List Int} (h : Fine p xs) (hl : ws.length = xs.length) (hw : Fine p ws) : wgE p xs ws = 0 := by
  unfold wgE
  rw [if_pos h.zero, if_pos hl, if_pos (inB_of h.rdx.kn hw.lt)]
theorem el_map {n : Nat} (f : Nat → Int) {j : Nat} (hj : j < n) : el ((List.range n).map f) j = f j := by simp [el, hj]

theorem Fine.len {p : Int} {xs : List Int} (h : Fine p xs) (inv : Bool) : (Fly.doL p inv xs).length = xs.length := by rw [h.doL]; simp
theorem Fine.get {p : Int} {xs : List Int} (h : Fine p xs) (inv : Bool) {j : Nat} (hj : j < xs.length) : (Fly.doL p inv xs).getD j 0 = doN p inv xs.length (el xs) j := by rw [h.doL]; exact el_map _ hj
theorem Fine.bd {p : Int} {xs : List Int} (h : Fine p xs) (inv : Bool) (j : Nat) : 0 ≤ (Fly.doL p inv xs).getD j 0 ∧ (Fly.doL p inv xs).getD j 0 < p := by
  have p1 := Fp.kn_bd h.rdx.kn
  by_cases hj : j < xs.length
  · rw [h.get inv hj]; exact doN_bd h.rdx.kn j
  · rw [List.getD_eq_getElem?_getD, List.getElem?_eq_none (by rw [h.len]; omega)]
    exact ⟨Int.le_refl _, by show (0 : Int) < p; omega⟩
theorem Fine.words {p : Int} {xs : List Int} (h : Fine p xs) (inv : Bool) : Words (Fly.doL p inv xs) := fun j => by
  have p1 := Fp.kn_bd h.rdx.kn
  obtain ⟨a, b⟩ := h.bd inv j
  exact ⟨a, by omega⟩
theorem Fine.fine {p : Int} {xs : List Int} (h : Fine p xs) (inv : Bool) : Fine p (Fly.doL p inv xs) := ⟨by rw [h.len]; exact h.rdx, fun j _ => (h.bd inv j).2⟩
theorem Fine.back {p : Int} {xs : List Int} (h : Fine p xs) (inv : Bool) {j : Nat} (hj : j < xs.length) : (Fly.doL p (!inv) (Fly.doL p inv xs)).getD j 0 = Fp.mul p (xs.getD j 0) (xs.length : Int) := by
  rw [(h.fine inv).get _ (by rw [h.len]; exact hj), h.len, doN_congr (x := el (Fly.doL p inv xs)) (y := doN p inv xs.length (el xs)) (fun j hj => h.get inv hj)]
  exact h.rdx.back hj

/-- By the order of what is asked. -/
theorem ptE_cases (p r : Int) : Fp.kn p = false ∧ ptE p r = 2 ∨ Fp.kn p = true ∧ (r < 2 ∨ 5 < r) ∧ ptE p r = 4
    ∨ Fp.kn p = true ∧ 2 ≤ r ∧ r ≤ 5 ∧ rootE p r = 5 ∧ rootN p r = 0 ∧ ptE p r = 5
    ∨ Rdx p r.toNat ∧ 2 ≤ r ∧ r ≤ 5 ∧ rootE p r = 0 ∧ rootN p r = Fp.rt p r.toNat ∧ ptE p r = 0 := by
  unfold ptE
  cases h : Fp.kn p
  · left; simp
  · right
    by_cases h1 : 2 ≤ r ∧ r ≤ 5
    · right
      obtain ⟨p1, p2⟩ := Fp.kn_bd h
      obtain ⟨q, rfl⟩ := Int.eq_ofNat_of_zero_le (show 0 ≤ p by omega)
      obtain ⟨m, rfl⟩ := Int.eq_ofNat_of_zero_le (show 0 ≤ r by omega)
      have e : ((q : Int) - 1) % (m : Int) = (((q - 1) % m : Nat) : Int) := by
        rw [Int.natCast_emod]; congr 1; omega
      rw [if_pos rfl, if_pos h1]
      have eq : ((q : Int)).toNat - 1 = q - 1 := by omega
      have em : ((m : Int)).toNat = m := by omega
      by_cases hd : m ∣ q - 1
      · right
        have hz : (q - 1) % m = 0 := Nat.mod_eq_zero_of_dvd hd
        have hE : rootE (q : Int) (m : Int) = 0 := by
          unfold rootE
          rw [if_neg (by simp [h]), if_neg (by omega), if_neg (by rw [e, hz]; simp)]
        refine ⟨⟨h, by omega, by omega, by rw [eq, em]; exact hd⟩, h1.1, h1.2, hE, ?_, ?_⟩
        · unfold rootN; rw [if_pos hE]
        · rw [eq, em, if_pos hd]
      · left
        have hE : rootE (q : Int) (m : Int) = 5 := by
          unfold rootE
          rw [if_neg (by simp [h]), if_neg (by omega), if_pos]
          intro c
          rw [e] at c
          exact hd (Nat.dvd_of_mod_eq_zero (by omega))
        refine ⟨rfl, h1.1, h1.2, hE, ?_, ?_⟩
        · unfold rootN; rw [if_neg (by omega)]
        · rw [eq, em, if_neg hd]
    · left
      refine ⟨rfl, by omega, ?_⟩
      rw [if_pos rfl, if_neg h1]
/-- What the root is undone by. -/
theorem Rdx.invN {p : Int} {n : Nat} (h : Rdx p n) : invN p (Fp.rt p n) = Fp.inv p (Fp.rt p n) := by
  have := h.lo
  unfold Go.Proofs.YtmcnamlgbkbiaaaDoor.invN
  rw [if_neg (by simp [h.kn]), if_neg (Fp.rt_ne h.kn h.dvd (by omega))]
end Fly

end Go.Proofs.YtmcnamlgbkbiaaaDoor
