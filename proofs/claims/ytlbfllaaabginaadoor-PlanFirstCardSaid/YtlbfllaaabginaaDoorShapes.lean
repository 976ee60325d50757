/-
  Several texts in one: MathSha, Shape, Places, Lines, RefSha, Back, Coord.
-/
import Derived.Test.YtlbfllaaabginaaDoorProg
import Derived.Test.YtlbfllaaabginaaDoorRows2
import Derived.RangeFuncNested
import Derived.RangeFuncBound
import Derived.RangeFuncCalls
import Derived.RangeFuncLeaves
import Derived.Shelf.Abstract
import Derived.Shelf.RegionOpen
import Derived.OwnWalkIn
import Derived.TacticsInMore
import Derived.LoopNIn
import Derived.LoopIn

/-!   Plain mathematics of layer 5: products of axes, coordinates and places, lines of an axis. No program is named here.
-/

namespace Go.Proofs.YtlbfllaaabginaaDoor.Sh

def prod : List Nat → Nat
  | [] => 1
  | d :: t => d * prod t
/-- Numbers as the program has them. -/
def ints (ns : List Nat) : List Int := ns.map (fun n : Nat => (n : Int))
theorem ints_len (ns : List Nat) : (ints ns).length = ns.length := by simp [ints]
theorem ints_get (ns : List Nat) (k : Nat) : (ints ns).getD k 0 = ((ns.getD k 0 : Nat) : Int) := by
  by_cases h : k < ns.length
  · simp [ints, h]
  · simp [ints, h]
theorem ints_inj {a b : List Nat} (h : ints a = ints b) : a = b := by
  have := congrArg (List.map Int.toNat) h
  simpa [ints, Function.comp_def] using this
theorem ints_append (a b : List Nat) : ints (a ++ b) = ints a ++ ints b := by simp [ints]
theorem ints_take (ns : List Nat) (k : Nat) : (ints ns).take k = ints (ns.take k) := by simp [ints]
theorem ints_drop (ns : List Nat) (k : Nat) : (ints ns).drop k = ints (ns.drop k) := by simp [ints]
theorem ints_set (ns : List Nat) (k x : Nat) : (ints ns).set k (x : Int) = ints (ns.set k x) := by simp [ints]
theorem ints_eq {a b : List Nat} : (ints a = ints b) = (a = b) := propext ⟨ints_inj, fun h => by rw [h]⟩

theorem prod_append (a b : List Nat) : prod (a ++ b) = prod a * prod b := by
  induction a with
  | nil => simp [prod]
  | cons d t ih => simp [prod, ih, Nat.mul_assoc]
theorem prod_pos {ns : List Nat} (h : ∀ d ∈ ns, 1 ≤ d) : 1 ≤ prod ns := by
  induction ns with
  | nil => simp [prod]
  | cons d t ih =>
    have h1 := h d (by simp)
    have h2 := ih (fun d hd => h d (by simp [hd]))
    exact Nat.mul_le_mul h1 h2
theorem prod_split (ns : List Nat) (k : Nat) : prod (ns.take k) * prod (ns.drop k) = prod ns := by
  rw [← prod_append, List.take_append_drop]
theorem prod_take (ns : List Nat) (k : Nat) (h : k < ns.length) : prod (ns.take k) * ns.getD k 0 = prod (ns.take (k + 1)) := by
  rw [List.take_succ_eq_append_getElem h, prod_append]
  simp [prod, h]
theorem prod_drop (ns : List Nat) (k : Nat) (h : k < ns.length) : ns.getD k 0 * prod (ns.drop (k + 1)) = prod (ns.drop k) := by
  rw [List.drop_eq_getElem_cons h]
  simp [prod, h]

/-- Axes that may be. -/
structure Ok (ns : List Nat) : Prop where
  one : 1 ≤ ns.length
  four : ns.length ≤ 4
  pos : ∀ d ∈ ns, 1 ≤ d
  le : prod ns ≤ 4096
theorem Ok.pos_take {ns : List Nat} (h : Ok ns) (k : Nat) : 1 ≤ prod (ns.take k) := prod_pos fun d hd => h.pos d (List.mem_of_mem_take hd)
theorem Ok.pos_drop {ns : List Nat} (h : Ok ns) (k : Nat) : 1 ≤ prod (ns.drop k) := prod_pos fun d hd => h.pos d (List.mem_of_mem_drop hd)
theorem Ok.pos_at {ns : List Nat} (h : Ok ns) {k : Nat} (hk : k < ns.length) : 1 ≤ ns.getD k 0 := by
  have := h.pos ns[k] (List.getElem_mem hk)
  simpa [hk] using this
theorem le_mul_one {a b c : Nat} (h : a * b = c) (hb : 1 ≤ b) : a ≤ c := by
  have := Nat.mul_le_mul_left a hb
  omega
theorem Ok.le_take {ns : List Nat} (h : Ok ns) (k : Nat) : prod (ns.take k) ≤ 4096 := Nat.le_trans (le_mul_one (prod_split ns k) (h.pos_drop k)) h.le
theorem Ok.le_drop {ns : List Nat} (h : Ok ns) (k : Nat) : prod (ns.drop k) ≤ 4096 := Nat.le_trans (le_mul_one ((Nat.mul_comm _ _).trans (prod_split ns k)) (h.pos_take k)) h.le
theorem Ok.le_at {ns : List Nat} (h : Ok ns) {k : Nat} (hk : k < ns.length) : ns.getD k 0 ≤ 4096 := Nat.le_trans (le_mul_one (prod_drop ns k hk) (h.pos_drop _)) (h.le_drop k)
theorem Ok.div_at {ns : List Nat} (h : Ok ns) {k : Nat} (hk : k < ns.length) : ns.getD k 0 ≤ 4096 / prod (ns.take k) := by
  rw [Nat.le_div_iff_mul_le (h.pos_take k), Nat.mul_comm, prod_take ns k hk]
  exact h.le_take _
theorem Ok.le_mid {ns : List Nat} (h : Ok ns) (i j : Nat) : prod ((ns.drop i).take j) ≤ 4096 :=
  Nat.le_trans (le_mul_one (prod_split (ns.drop i) j) (prod_pos fun d hd => h.pos d (List.mem_of_mem_drop (List.mem_of_mem_drop hd)))) (h.le_drop i)
theorem Ok.here {ns : List Nat} (h : Ok ns) : 1 ≤ prod ns := prod_pos h.pos

/-- Axes that may not be. -/
def No (ds : List Int) : Prop := ∀ ns, Ok ns → ds ≠ ints ns
theorem ok_or (ds : List Int) : (∃ ns, Ok ns ∧ ds = ints ns) ∨ No ds := by
  by_cases h : ∃ ns, Ok ns ∧ ds = ints ns
  · exact .inl h
  · exact .inr fun ns h1 h2 => h ⟨ns, h1, h2⟩
/-- The first k of them are 1 or more, and these. -/
def Pre (ds : List Int) (k : Nat) (ns : List Nat) : Prop := ds.take k = ints ns ∧ ∀ d ∈ ns, 1 ≤ d
theorem Pre.zero (ds : List Int) : Pre ds 0 [] := ⟨by simp [ints], by simp⟩
theorem Pre.next {ds : List Int} {k : Nat} {ns : List Nat} (h : Pre ds k ns) (hk : k < ds.length) (d : Nat) (hd : ds.getD k 0 = (d : Int)) (h1 : 1 ≤ d) : Pre ds (k + 1) (ns ++ [d]) ∧ prod (ns ++ [d]) = prod ns * d := by
  refine ⟨⟨?_, ?_⟩, by simp [prod_append, prod]⟩
  · rw [List.take_succ_eq_append_getElem hk, h.1, ints_append]
    simp [hk] at hd
    simp [ints, hd]
  · intro x hx
    rcases List.mem_append.1 hx with hx | hx
    · exact h.2 x hx
    · simp at hx; omega
theorem No.more {ds : List Int} (h : No ds) (h1 : 1 ≤ ds.length) (h4 : ds.length ≤ 4) {ns : List Nat} (hp : Pre ds ds.length ns) : 4096 < prod ns := by
  obtain ⟨e, hp⟩ := hp
  rw [List.take_length] at e
  rcases Nat.lt_or_ge 4096 (prod ns) with h' | h'
  · exact h'
  · have hl := ints_len ns
    rw [← e] at hl
    exact absurd e (h ns ⟨by omega, by omega, hp, h'⟩)

/-- Coordinates of a place. -/
def crd : List Nat → Nat → List Nat
  | [], _ => []
  | d :: t, i => i / prod t % d :: crd t i
/-- The place of coordinates. -/
def fl : List Nat → List Nat → Nat
  | _ :: t, c :: u => c * prod t + fl t u
  | _, _ => 0
def In : List Nat → List Nat → Prop
  | [], [] => True
  | d :: t, c :: u => c < d ∧ In t u
  | _, _ => False
theorem crd_len (ns : List Nat) (i : Nat) : (crd ns i).length = ns.length := by
  induction ns with
  | nil => rfl
  | cons d t ih => simp [crd, ih]
theorem crd_get (ns : List Nat) (i k : Nat) (h : k < ns.length) : (crd ns i).getD k 0 = i / prod (ns.drop (k + 1)) % ns.getD k 0 := by
  induction ns generalizing k with
  | nil => simp at h
  | cons d t ih =>
    cases k with
    | zero => simp [crd]
    | succ k =>
      have := ih k (by simpa using h)
      simpa [crd] using this
theorem crd_take (ns : List Nat) (i k : Nat) (h : k < ns.length) : (crd ns i).take (k + 1) = (crd ns i).take k ++ [i / prod (ns.drop (k + 1)) % ns.getD k 0] := by
  rw [List.take_succ_eq_append_getElem (by rw [crd_len]; exact h), ← crd_get ns i k h]
  simp [crd_len, h]
theorem In.len {ns cs : List Nat} (h : In ns cs) : cs.length = ns.length := by
  induction ns generalizing cs with
  | nil => cases cs with
    | nil => rfl
    | cons c u => exact h.elim
  | cons d t ih => cases cs with
    | nil => exact h.elim
    | cons c u => simp [ih h.2]
theorem In.get {ns cs : List Nat} (h : In ns cs) {k : Nat} (hk : k < ns.length) : cs.getD k 0 < ns.getD k 0 := by
  induction ns generalizing cs k with
  | nil => simp at hk
  | cons d t ih => cases cs with
    | nil => exact h.elim
    | cons c u => cases k with
      | zero => simpa using h.1
      | succ k => simpa using ih h.2 (by simpa using hk)
theorem In.set {ns cs : List Nat} (h : In ns cs) (a x : Nat) (hx : x < ns.getD a 0) : In ns (cs.set a x) := by
  induction ns generalizing cs a with
  | nil => simp at hx
  | cons d t ih => cases cs with
    | nil => exact h.elim
    | cons c u => cases a with
      | zero => exact ⟨by simpa using hx, h.2⟩
      | succ a => exact ⟨h.1, ih h.2 a (by simpa using hx)⟩
theorem crd_in {ns : List Nat} (h : ∀ d ∈ ns, 1 ≤ d) (i : Nat) : In ns (crd ns i) := by
  induction ns with
  | nil => trivial
  | cons d t ih => exact ⟨Nat.mod_lt _ (h d (by simp)), ih fun d hd => h d (by simp [hd])⟩
theorem fl_lt {ns cs : List Nat} (h : In ns cs) : fl ns cs < prod ns := by
  induction ns generalizing cs with
  | nil => cases cs with
    | nil => simp [fl, prod]
    | cons c u => exact h.elim
  | cons d t ih => cases cs with
    | nil => exact h.elim
    | cons c u =>
      have h1 := ih h.2
      have h2 : (c + 1) * prod t ≤ d * prod t := Nat.mul_le_mul_right _ h.1
      simp only [fl, prod]
      rw [Nat.add_mul] at h2
      omega
theorem crd_fl_at {ns cs : List Nat} (h : In ns cs) (a : Nat) : crd ns (a * prod ns + fl ns cs) = cs := by
  induction ns generalizing cs a with
  | nil => cases cs with
    | nil => rfl
    | cons c u => exact h.elim
  | cons d t ih => cases cs with
    | nil => exact h.elim
    | cons c u =>
      have h1 := fl_lt h.2
      have e : a * prod (d :: t) + fl (d :: t) (c :: u) = (a * d + c) * prod t + fl t u := by
        simp only [fl, prod]
        rw [Nat.add_mul, Nat.mul_assoc, Nat.add_assoc]
      rw [e]
      simp only [crd]
      rw [ih h.2]
      congr 1
      rw [Nat.mul_comm, Nat.mul_add_div (by omega), Nat.div_eq_of_lt h1, Nat.add_zero, Nat.mul_comm a d, Nat.mul_add_mod, Nat.mod_eq_of_lt h.1]
theorem crd_fl {ns cs : List Nat} (h : In ns cs) : crd ns (fl ns cs) = cs := by
  have := crd_fl_at h 0
  simpa using this
theorem fl_crd (ns : List Nat) (i : Nat) : fl ns (crd ns i) = i % prod ns := by
  induction ns with
  | nil => simp [fl, prod, Nat.mod_one]
  | cons d t ih =>
    simp only [fl, crd, prod]
    rw [ih, Nat.mul_comm d, Nat.mod_mul, Nat.mul_comm (prod t) (i / prod t % d)]
    omega
theorem fl_crd' {ns : List Nat} {i : Nat} (h : i < prod ns) : fl ns (crd ns i) = i := by
  rw [fl_crd, Nat.mod_eq_of_lt h]
theorem fl_set {ns cs : List Nat} (hl : cs.length = ns.length) (a x : Nat) (ha : a < ns.length) (h0 : cs.getD a 0 = 0) : fl ns (cs.set a x) = fl ns cs + x * prod (ns.drop (a + 1)) := by
  induction ns generalizing cs a with
  | nil => simp at ha
  | cons d t ih => cases cs with
    | nil => simp at hl
    | cons c u => cases a with
      | zero =>
        simp at h0
        subst h0
        simp [fl]
        omega
      | succ a =>
        have := ih (cs := u) (by simpa using hl) a (by simpa using ha) (by simpa using h0)
        simp only [List.set_cons_succ, fl, List.drop_succ_cons]
        omega
theorem fl_drop {ns cs : List Nat} (hl : cs.length = ns.length) (k : Nat) (h : k < ns.length) : fl (ns.drop k) (cs.drop k) = cs.getD k 0 * prod (ns.drop (k + 1)) + fl (ns.drop (k + 1)) (cs.drop (k + 1)) := by
  rw [List.drop_eq_getElem_cons h, List.drop_eq_getElem_cons (by omega : k < cs.length)]
  simp [fl, show k < cs.length by omega]
theorem fl_end {ns cs : List Nat} (k : Nat) (h : ns.length ≤ k) : fl (ns.drop k) (cs.drop k) = 0 := by
  rw [List.drop_eq_nil_of_le h]; simp [fl]
theorem horner {ns cs : List Nat} (hl : cs.length = ns.length) (k acc : Nat) (h : k < ns.length) :
    acc * prod (ns.drop k) + fl (ns.drop k) (cs.drop k) = (acc * ns.getD k 0 + cs.getD k 0) * prod (ns.drop (k + 1)) + fl (ns.drop (k + 1)) (cs.drop (k + 1)) := by
  rw [fl_drop hl k h, ← prod_drop ns k h, Nat.add_mul, Nat.mul_assoc, Nat.add_assoc]

/-- Coordinates that may not be. -/
def Out (ns : List Nat) (cs : List Int) : Prop := ∀ us, In ns us → cs ≠ ints us
theorem in_or (ns : List Nat) (cs : List Int) : (∃ us, In ns us ∧ cs = ints us) ∨ Out ns cs := by
  by_cases h : ∃ us, In ns us ∧ cs = ints us
  · exact .inl h
  · exact .inr fun us h1 h2 => h ⟨us, h1, h2⟩
theorem In.of {ns cs : List Nat} (hl : cs.length = ns.length) (h : ∀ k, k < ns.length → cs.getD k 0 < ns.getD k 0) : In ns cs := by
  induction ns generalizing cs with
  | nil => cases cs with
    | nil => trivial
    | cons c u => simp at hl
  | cons d t ih => cases cs with
    | nil => simp at hl
    | cons c u =>
      refine ⟨by simpa using h 0 (by simp), ih (by simpa using hl) fun k hk => ?_⟩
      simpa using h (k + 1) (by simpa using hk)
theorem Out.none {ns : List Nat} {cs : List Int} (h : Out ns cs) (hl : cs.length = ns.length) (hg : ∀ k, k < ns.length → 0 ≤ cs.getD k 0 ∧ cs.getD k 0 < (ns.getD k 0 : Nat)) : False := by
  have e : cs = ints (cs.map Int.toNat) := by
    apply List.ext_getElem
    · simp [ints]
    · intro k h1 h2
      have := (hg k (by omega)).1
      simp [h1] at this
      simp [ints]
      omega
  refine h (cs.map Int.toNat) (In.of (by simpa using hl) fun k hk => ?_) e
  have := hg k hk
  have h1 : k < cs.length := by omega
  simp [h1, hk] at this ⊢
  omega
theorem acc_lt {acc p d c q : Nat} (h : acc < p) (hc : c < d) (hq : p * d = q) : acc * d + c < q := by
  have : (acc + 1) * d ≤ p * d := Nat.mul_le_mul_right _ h
  rw [Nat.add_mul] at this
  omega

/-! Lines: I is how far two words stand apart, L how long the axis is. -/
def first (I L k : Nat) : Nat := k / I * I * L + k % I
/-- The line in which a place is. -/
def lnum (I L i : Nat) : Nat := i / I / L * I + i % I
section
variable {I L : Nat}
theorem first_add (k x : Nat) : first I L k + x * I = (k / I * L + x) * I + k % I := by
  unfold first
  rw [Nat.add_mul, Nat.mul_assoc (k / I) I L, Nat.mul_comm I L, ← Nat.mul_assoc]
  omega
theorem at_div (hI : 1 ≤ I) (k x : Nat) : (first I L k + x * I) / I = k / I * L + x := by
  rw [first_add, Nat.mul_comm, Nat.mul_add_div (by omega), Nat.div_eq_of_lt (Nat.mod_lt _ hI), Nat.add_zero]
theorem at_mod (k x : Nat) : (first I L k + x * I) % I = k % I := by
  rw [first_add, Nat.mul_comm, Nat.mul_add_mod, Nat.mod_mod]
theorem at_coord (hI : 1 ≤ I) {x : Nat} (hx : x < L) (k : Nat) : (first I L k + x * I) / I % L = x := by
  rw [at_div hI, Nat.mul_comm, Nat.mul_add_mod, Nat.mod_eq_of_lt hx]
theorem at_line (hI : 1 ≤ I) {x : Nat} (hx : x < L) (k : Nat) : lnum I L (first I L k + x * I) = k := by
  unfold lnum
  rw [at_div hI, at_mod, Nat.mul_comm (k / I) L, Nat.mul_add_div (by omega), Nat.div_eq_of_lt hx, Nat.add_zero, Nat.mul_comm]
  exact Nat.div_add_mod k I
theorem back (hI : 1 ≤ I) (i : Nat) : first I L (lnum I L i) + i / I % L * I = i := by
  have e1 : lnum I L i / I = i / I / L := by
    unfold lnum
    rw [Nat.mul_comm, Nat.mul_add_div (by omega), Nat.div_eq_of_lt (Nat.mod_lt _ hI), Nat.add_zero]
  have e2 : lnum I L i % I = i % I := by
    unfold lnum
    rw [Nat.mul_comm, Nat.mul_add_mod, Nat.mod_mod]
  rw [first_add, e1, e2, Nat.mul_comm (i / I / L) L, Nat.div_add_mod, Nat.mul_comm, Nat.div_add_mod]
theorem first_lt (hI : 1 ≤ I) (hL : 1 ≤ L) {k m : Nat} (h : k < m) : first I L k < first I L m := by
  have hk := Nat.div_add_mod k I
  have hm := Nat.div_add_mod m I
  have r1 : k % I < I := Nat.mod_lt _ hI
  have hd : k / I ≤ m / I := Nat.div_le_div_right (Nat.le_of_lt h)
  unfold first
  rcases Nat.lt_or_ge (k / I) (m / I) with h1 | h1
  · have h2 : (k / I + 1) * I * L ≤ m / I * I * L := Nat.mul_le_mul_right _ (Nat.mul_le_mul_right _ h1)
    have h3 : I ≤ I * L := Nat.le_mul_of_pos_right _ hL
    rw [Nat.add_mul, Nat.add_mul, Nat.one_mul] at h2
    omega
  · have e : k / I = m / I := by omega
    rw [e] at hk ⊢
    omega
theorem at_lt {O k x : Nat} (hk : k < O * I) (hx : x < L) : first I L k + x * I < O * (L * I) := by
  rw [first_add]
  have hI : 1 ≤ I := by
    rcases Nat.eq_zero_or_pos I with h | h
    · rw [h] at hk; omega
    · exact h
  have r1 : k % I < I := Nat.mod_lt _ hI
  have h1 : k / I < O := by rw [Nat.div_lt_iff_lt_mul hI]; exact hk
  have h2 : (k / I + 1) * L ≤ O * L := Nat.mul_le_mul_right _ h1
  rw [Nat.add_mul, Nat.one_mul] at h2
  have h3 : (k / I * L + x + 1) * I ≤ O * L * I := Nat.mul_le_mul_right _ (by omega)
  rw [Nat.add_mul, Nat.one_mul, Nat.mul_assoc O] at h3
  omega
theorem line_lt {O i : Nat} (hi : i < O * (L * I)) : lnum I L i < O * I := by
  unfold lnum
  have hI : 1 ≤ I := by
    rcases Nat.eq_zero_or_pos I with h | h
    · rw [h] at hi; simp at hi
    · exact h
  have r1 : i % I < I := Nat.mod_lt _ hI
  have h0 : 1 ≤ L := by
    rcases Nat.eq_zero_or_pos L with h | h
    · rw [h] at hi; simp at hi
    · exact h
  have h1 : i / I / L < O := by
    rw [Nat.div_lt_iff_lt_mul h0, Nat.div_lt_iff_lt_mul hI, Nat.mul_assoc]; exact hi
  have h2 : (i / I / L + 1) * I ≤ O * I := Nat.mul_le_mul_right _ h1
  rw [Nat.add_mul, Nat.one_mul] at h2
  omega
/-- So many lines have begun ahead of place i. -/
structure Seen (I L k i s : Nat) : Prop where
  le : s ≤ k
  there : i ≤ first I L s
  ahead : ∀ j, j < s → first I L j < i
theorem first_zero : first I L 0 = 0 := by simp [first]
theorem Seen.start (k : Nat) : Seen I L k 0 0 := ⟨Nat.zero_le _, Nat.zero_le _, fun j h => by omega⟩
theorem Seen.same {k i s : Nat} (hI : 1 ≤ I) (h : Seen I L k i s) (hn : i / I % L ≠ 0) (hL : 1 ≤ L) : Seen I L k (i + 1) s := by
  refine ⟨h.le, ?_, fun j hj => by have := h.ahead j hj; omega⟩
  have h0 := at_coord hI (L := L) (x := 0) hL s
  have := h.there
  rcases Nat.lt_or_ge i (first I L s) with h1 | h1
  · exact h1
  · have e : i = first I L s := by omega
    rw [Nat.zero_mul, Nat.add_zero, ← e] at h0
    exact absurd h0 hn
theorem Seen.found {k i s : Nat} (hI : 1 ≤ I) (hL : 1 ≤ L) (h : Seen I L k i s) (h0 : i / I % L = 0) : i = first I L s := by
  have hb := back hI (L := L) i
  rw [h0, Nat.zero_mul, Nat.add_zero] at hb
  rcases Nat.lt_or_ge (lnum I L i) s with h1 | h1
  · have := h.ahead _ h1; omega
  · rcases Nat.lt_or_ge s (lnum I L i) with h2 | h2
    · have := first_lt hI hL h2
      have := h.there
      omega
    · rw [show s = lnum I L i by omega]; exact hb.symm
theorem Seen.next {k i s : Nat} (hI : 1 ≤ I) (hL : 1 ≤ L) (h : Seen I L k i s) (h0 : i / I % L = 0) (hs : s < k) : Seen I L k (i + 1) (s + 1) := by
  have e := h.found hI hL h0
  have h1 := first_lt hI hL (Nat.lt_succ_self s)
  refine ⟨hs, by rw [e]; exact h1, fun j hj => ?_⟩
  rcases Nat.lt_or_ge j s with h2 | h2
  · have := h.ahead j h2; omega
  · obtain rfl : j = s := by omega
    omega
theorem Seen.lt {k i s n : Nat} (hI : 1 ≤ I) (hL : 1 ≤ L) (h : Seen I L k i s) (hn : first I L k < n) : i < n := by
  have h1 := h.there
  rcases Nat.lt_or_ge s k with h2 | h2
  · have := first_lt hI hL h2; omega
  · have := h.le
    obtain rfl : s = k := by omega
    omega
end

/-- The products of the axes ahead of one, and of those behind. -/
theorem parts (ns : List Nat) (a : Nat) (h : a < ns.length) : prod ns = prod (ns.take a) * (ns.getD a 0 * prod (ns.drop (a + 1))) := by
  rw [prod_drop ns a h, prod_split]
theorem parts_div {ns : List Nat} (ok : Ok ns) (a : Nat) (h : a < ns.length) : prod ns / ns.getD a 0 = prod (ns.take a) * prod (ns.drop (a + 1)) := by
  rw [parts ns a h, Nat.mul_left_comm, Nat.mul_div_cancel_left _ (ok.pos_at h)]

/-! An axis of length 1, put in anywhere. -/
theorem crd_append (a b : List Nat) (i : Nat) : crd (a ++ b) i = crd a (i / prod b) ++ crd b i := by
  induction a with
  | nil => rfl
  | cons d t ih =>
    simp only [List.cons_append, crd, ih]
    rw [prod_append, Nat.div_div_eq_div_mul, Nat.mul_comm (prod b)]
theorem crd_one (b : List Nat) (i : Nat) : crd (1 :: b) i = 0 :: crd b i := by simp [crd, Nat.mod_one]
def more (ns : List Nat) (k : Nat) : List Nat := ns.take k ++ 1 :: ns.drop k
theorem prod_more (ns : List Nat) (k : Nat) : prod (more ns k) = prod ns := by
  unfold more
  rw [prod_append, prod, Nat.one_mul, prod_split]
theorem more_len (ns : List Nat) (k : Nat) : (more ns k).length = ns.length + 1 := by
  simp [more]; omega
theorem Ok.more {ns : List Nat} (h : Ok ns) (h3 : ns.length ≤ 3) (k : Nat) : Ok (more ns k) := by
  refine ⟨by rw [more_len]; omega, by rw [more_len]; omega, fun d hd => ?_, by rw [prod_more]; exact h.le⟩
  unfold Sh.more at hd
  rcases List.mem_append.1 hd with hd | hd
  · exact h.pos d (List.mem_of_mem_take hd)
  · rcases List.mem_cons.1 hd with hd | hd
    · omega
    · exact h.pos d (List.mem_of_mem_drop hd)
theorem crd_more (ns : List Nat) (k i : Nat) : crd (more ns k) i = (crd ns i).take (min k ns.length) ++ 0 :: (crd ns i).drop (min k ns.length) := by
  unfold more
  have e : crd ns i = crd (ns.take k) (i / prod (ns.drop k)) ++ crd (ns.drop k) i := by rw [← crd_append, List.take_append_drop]
  have hl : (crd (ns.take k) (i / prod (ns.drop k))).length = min k ns.length := by rw [crd_len]; simp
  rw [crd_append, crd_one, e]
  rw [← hl, List.take_left, List.drop_left]
  simp [prod]
theorem No.put {ds : List Int} (h : No ds) (h1 : 1 ≤ ds.length) {k : Nat} (hk : k ≤ ds.length) : No (ds.take k ++ 1 :: ds.drop k) := by
  intro ns ok e
  have hl := congrArg List.length e
  rw [ints_len] at hl
  have ht : (ds.take k).length = k := by simp; omega
  rw [List.length_append, ht, List.length_cons, List.length_drop] at hl
  have e1 : ds.take k = ints (ns.take k) := by
    rw [← ints_take, ← e, List.take_left' ht]
  have e2 : 1 :: ds.drop k = ints (ns.drop k) := by
    rw [← ints_drop, ← e, List.drop_left' ht]
  have hc : ns.drop k = 1 :: ns.drop (k + 1) := by
    have hk' : k < ns.length := by omega
    rw [List.drop_eq_getElem_cons hk'] at e2 ⊢
    simp only [ints, List.map_cons, List.cons.injEq] at e2
    rw [show ns[k] = 1 by have := e2.1; omega]
  rw [hc] at e2
  have e3 : ds.drop k = ints (ns.drop (k + 1)) := by
    simp [ints] at e2 ⊢
    exact e2
  refine h (ns.take k ++ ns.drop (k + 1)) ⟨?_, ?_, fun d hd => ?_, ?_⟩ ?_
  · simp; omega
  · simp; have := ok.four; omega
  · rcases List.mem_append.1 hd with hd | hd
    · exact ok.pos d (List.mem_of_mem_take hd)
    · exact ok.pos d (List.mem_of_mem_drop hd)
  · have := prod_split ns k
    rw [hc, prod, Nat.one_mul] at this
    rw [prod_append, this]
    exact ok.le
  · rw [ints_append, ← e1, ← e3, List.take_append_drop]

end Go.Proofs.YtlbfllaaabginaaDoor.Sh

/-!   What shape.All, Flat and Inner come to, and the document's own All, behind, Flat and Inner.
-/

namespace Go.Proofs.YtlbfllaaabginaaDoor
open Go.RowKit

/-- It returns a number and an error's number, and the world is the same. -/
def RetN (v e : Int) (w : World) (x : Ending) (w' : World) : Prop := x = .returned (.tuple #[.int .i64 v, .int .i64 e]) ∧ w = w'
theorem ret_n {a b : Int} (h : a = b) (e : Int) : Ending.returned (.tuple #[.int .i64 a, .int .i64 e]) = .returned (.tuple #[.int .i64 b, .int .i64 e]) := by rw [h]

set_option maxHeartbeats 1000000 in
theorem all_ok (ns : List Nat) (ok : Sh.Ok ns) (x : Option Addr) (n cap : Nat) (w : World) (B : Nat) (hx : Reads .i64 w B x (Sh.ints ns)) (hn : ns.length = n) :
    Calls Tryd.prog 51 #[.slice x n cap] w (RetN (Sh.prod ns : Nat) 0 w) := by
  subst hn
  have HX := Lib.hid hx; clear hx
  have HO := Lib.hid ok
  have h1 := ok.one
  have h4 := ok.four
  have d1 : decide ((ns.length : Int) < 1) = false := by simp; omega
  have d2 : decide (4 < (ns.length : Int)) = false := by simp; omega
  clear ok
  go_enter Tryd.func51, Tryd.ntmps51
  go_wp2
  go_loop [4, 17] (fun p i => ∃ k q : Nat, k ≤ ns.length ∧ i = .int .i64 (k : Int) ∧ p = .int .i64 (q : Int) ∧ q = Sh.prod (ns.take k)) (fun _ i => ns.length - (intOf i).toNat)
  case atStart => exact ⟨0, 1, Nat.zero_le _, rfl, rfl, rfl⟩
  case round =>
    obtain ⟨k, q, hk, rfl, rfl, hq⟩ := hrel
    by_cases hlt : k < ns.length
    · obtain ⟨b, off, rfl, hb, hc⟩ := HX.out (by rw [Sh.ints_len]; omega)
      have c1 := hc k (by rw [Sh.ints_len]; exact hlt)
      rw [Sh.ints_get] at c1
      obtain ⟨d, hd⟩ : ∃ d, d = ns.getD k 0 := ⟨_, rfl⟩
      obtain ⟨u, hu⟩ : ∃ u, u = Sh.prod (ns.take (k + 1)) := ⟨_, rfl⟩
      obtain ⟨z, hz⟩ : ∃ z, z = 4096 / q := ⟨_, rfl⟩
      have f1 : 1 ≤ d := by rw [hd]; exact HO.out.pos_at hlt
      have f2 : d ≤ z := by rw [hd, hz, hq]; exact HO.out.div_at hlt
      have f3 : 1 ≤ q := by rw [hq]; exact HO.out.pos_take k
      have f4 : u ≤ 4096 := by rw [hu]; exact HO.out.le_take _
      have f5 : (q : Int) * (d : Int) = (u : Int) := by rw [hq, hd, hu, ← Sh.prod_take ns k hlt, Int.natCast_mul]
      have f6 : (4096 : Int) / (q : Int) = (z : Int) := by rw [hz]; exact cast_div 4096 q
      have e1 : decide ((d : Int) < 1) = false := by simp; omega
      have e2 : decide ((z : Int) < (d : Int)) = false := by simp; omega
      have hq0 : (q : Int) ≠ 0 := by omega
      have hz4 : z ≤ 4096 := by rw [hz]; exact Nat.div_le_self _ _
      have HU := Lib.hid hu
      rw [← hd] at c1
      clear hq hu hd hz hc HX HO
      go_wp2
      go_round
      case rel => exact ⟨k + 1, u, by omega, by congr 1, rfl, HU.out⟩
      case measure => simp [intOf]; omega
    · have HQ : Hid ((q : Int) = ((Sh.prod ns : Nat) : Int)) := Lib.hid (by rw [hq, List.take_of_length_le (by omega)])
      clear HX hq HO
      go_wp2
      go_ret2
      exact ⟨ret_n HQ.out _, rfl⟩

set_option maxHeartbeats 1000000 in
theorem all_no (ds : List Int) (no : Sh.No ds) (x : Option Addr) (n cap : Nat) (w : World) (B : Nat) (hx : Reads .i64 w B x ds) (hn : ds.length = n) :
    Calls Tryd.prog 51 #[.slice x n cap] w (RetN 0 3 w) := by
  subst hn
  have HX := Lib.hid hx; clear hx
  have HO := Lib.hid no; clear no
  by_cases h1 : ds.length < 1
  · have d1 : decide ((ds.length : Int) < 1) = true := by simp; omega
    go_enter Tryd.func51, Tryd.ntmps51
    go_wp2
    go_ret2
    exact ⟨rfl, rfl⟩
  · by_cases h4 : 4 < ds.length
    · have d1 : decide ((ds.length : Int) < 1) = false := by simp; omega
      have d2 : decide (4 < (ds.length : Int)) = true := by simp; omega
      go_enter Tryd.func51, Tryd.ntmps51
      go_wp2
      go_ret2
      exact ⟨rfl, rfl⟩
    · have d1 : decide ((ds.length : Int) < 1) = false := by simp; omega
      have d2 : decide (4 < (ds.length : Int)) = false := by simp; omega
      go_enter Tryd.func51, Tryd.ntmps51
      go_wp2
      go_loop [4, 17] (fun p i => ∃ (k q : Nat) (ns : List Nat), k ≤ ds.length ∧ i = .int .i64 (k : Int) ∧ p = .int .i64 (q : Int) ∧ q = Sh.prod ns ∧ Sh.Pre ds k ns ∧ q ≤ 4096) (fun _ i => ds.length - (intOf i).toNat)
      case atStart => exact ⟨0, 1, [], Nat.zero_le _, rfl, rfl, rfl, Sh.Pre.zero ds, by omega⟩
      case round =>
        obtain ⟨k, q, ns, hk, rfl, rfl, hq, hp, hq4⟩ := hrel
        have hq1 : 1 ≤ q := by rw [hq]; exact Sh.prod_pos hp.2
        by_cases hlt : k < ds.length
        · obtain ⟨b, off, rfl, hb, hc⟩ := HX.out (by omega)
          have c1 := hc k hlt
          obtain ⟨y, hy⟩ : ∃ y, y = ds.getD k 0 := ⟨_, rfl⟩
          obtain ⟨z, hz⟩ : ∃ z, z = 4096 / q := ⟨_, rfl⟩
          have f6 : (4096 : Int) / (q : Int) = (z : Int) := by rw [hz]; exact cast_div 4096 q
          have hq0 : (q : Int) ≠ 0 := by omega
          have hz4 : z ≤ 4096 := by rw [hz]; exact Nat.div_le_self _ _
          rw [← hy] at c1
          by_cases hy1 : y < 1
          · have e1 : decide (y < 1) = true := by simpa using hy1
            clear hq hy hz hc HX HO hp
            go_wp2
            go_ret2
            exact ⟨rfl, rfl⟩
          · have e1 : decide (y < 1) = false := by simpa using hy1
            by_cases hyz : (z : Int) < y
            · have e2 : decide ((z : Int) < y) = true := by simpa using hyz
              clear hq hy hz hc HX HO hp
              go_wp2
              go_ret2
              exact ⟨rfl, rfl⟩
            · have e2 : decide ((z : Int) < y) = false := by simpa using hyz
              obtain ⟨d, rfl⟩ : ∃ d : Nat, y = (d : Int) := ⟨y.toNat, by omega⟩
              obtain ⟨hp', hm⟩ := hp.next hlt d hy.symm (by omega)
              have f4 : Sh.prod (ns ++ [d]) ≤ 4096 := by
                have : d ≤ 4096 / q := by omega
                rw [Nat.le_div_iff_mul_le hq1] at this
                rw [hm, ← hq, Nat.mul_comm]
                exact this
              obtain ⟨u, hu⟩ : ∃ u, u = Sh.prod (ns ++ [d]) := ⟨_, rfl⟩
              rw [← hu] at f4
              have f5 : (q : Int) * (d : Int) = (u : Int) := by rw [hu, hm, hq, Int.natCast_mul]
              have HP := Lib.hid (And.intro hu hp')
              clear hq hy hz hc HX HO hp hu hp' hm
              go_wp2
              go_round
              case rel => exact ⟨k + 1, u, ns ++ [d], by omega, by congr 1, rfl, HP.out.1, HP.out.2, f4⟩
              case measure => simp [intOf]; omega
        · have hkl : k = ds.length := by omega
          rw [hkl] at hp
          have := HO.out.more (by omega) (by omega) hp
          omega

set_option maxHeartbeats 1000000 in
theorem rall_ok (ns : List Nat) (ok : Sh.Ok ns) (x : Option Addr) (n cap : Nat) (w : World) (B : Nat) (hx : Reads .i64 w B x (Sh.ints ns)) (hn : ns.length = n) :
    Calls Tryd.prog 31 #[.slice x n cap] w (RetN (Sh.prod ns : Nat) 0 w) := by
  subst hn
  have HX := Lib.hid hx; clear hx
  have HO := Lib.hid ok
  have h1 := ok.one
  have h4 := ok.four
  have d1 : decide ((ns.length : Int) < 1) = false := by simp; omega
  have d2 : decide (4 < (ns.length : Int)) = false := by simp; omega
  clear ok
  go_enter Tryd.func31, Tryd.ntmps31
  go_wp2
  go_loop [4, 17] (fun p i => ∃ k q : Nat, k ≤ ns.length ∧ i = .int .i64 (k : Int) ∧ p = .int .i64 (q : Int) ∧ q = Sh.prod (ns.take k)) (fun _ i => ns.length - (intOf i).toNat)
  case atStart => exact ⟨0, 1, Nat.zero_le _, rfl, rfl, rfl⟩
  case round =>
    obtain ⟨k, q, hk, rfl, rfl, hq⟩ := hrel
    by_cases hlt : k < ns.length
    · obtain ⟨b, off, rfl, hb, hc⟩ := HX.out (by rw [Sh.ints_len]; omega)
      have c1 := hc k (by rw [Sh.ints_len]; exact hlt)
      rw [Sh.ints_get] at c1
      obtain ⟨d, hd⟩ : ∃ d, d = ns.getD k 0 := ⟨_, rfl⟩
      obtain ⟨u, hu⟩ : ∃ u, u = Sh.prod (ns.take (k + 1)) := ⟨_, rfl⟩
      have f1 : 1 ≤ d := by rw [hd]; exact HO.out.pos_at hlt
      have f2 : d ≤ 4096 := by rw [hd]; exact HO.out.le_at hlt
      have f4 : u ≤ 4096 := by rw [hu]; exact HO.out.le_take _
      have f5 : (q : Int) * (d : Int) = (u : Int) := by rw [hq, hd, hu, ← Sh.prod_take ns k hlt, Int.natCast_mul]
      have e1 : decide ((d : Int) < 1) = false := by simp; omega
      have e2 : decide (4096 < (d : Int)) = false := by simp; omega
      have HU := Lib.hid hu
      rw [← hd] at c1
      clear hq hu hd hc HX HO
      go_wp2
      go_round
      case rel => exact ⟨k + 1, u, by omega, by congr 1, rfl, HU.out⟩
      case measure => simp [intOf]; omega
    · have HQ : Hid ((q : Int) = ((Sh.prod ns : Nat) : Int)) := Lib.hid (by rw [hq, List.take_of_length_le (by omega)])
      have e3 : decide (4096 < (q : Int)) = false := by have := HQ.out; have := HO.out.le; simp; omega
      clear HX hq HO
      go_wp2
      go_ret2
      exact ⟨ret_n HQ.out _, rfl⟩

set_option maxHeartbeats 1000000 in
theorem rall_no (ds : List Int) (no : Sh.No ds) (x : Option Addr) (n cap : Nat) (w : World) (B : Nat) (hx : Reads .i64 w B x ds) (hn : ds.length = n) :
    Calls Tryd.prog 31 #[.slice x n cap] w (RetN 0 3 w) := by
  subst hn
  have HX := Lib.hid hx; clear hx
  have HO := Lib.hid no; clear no
  by_cases h1 : ds.length < 1
  · have d1 : decide ((ds.length : Int) < 1) = true := by simp; omega
    go_enter Tryd.func31, Tryd.ntmps31
    go_wp2
    go_ret2
    exact ⟨rfl, rfl⟩
  · by_cases h4 : 4 < ds.length
    · have d1 : decide ((ds.length : Int) < 1) = false := by simp; omega
      have d2 : decide (4 < (ds.length : Int)) = true := by simp; omega
      go_enter Tryd.func31, Tryd.ntmps31
      go_wp2
      go_ret2
      exact ⟨rfl, rfl⟩
    · have d1 : decide ((ds.length : Int) < 1) = false := by simp; omega
      have d2 : decide (4 < (ds.length : Int)) = false := by simp; omega
      go_enter Tryd.func31, Tryd.ntmps31
      go_wp2
      go_loop [4, 17] (fun p i => ∃ (k q : Nat) (ns : List Nat), k ≤ ds.length ∧ i = .int .i64 (k : Int) ∧ p = .int .i64 (q : Int) ∧ q = Sh.prod ns ∧ Sh.Pre ds k ns ∧ q ≤ 4096 ^ k) (fun _ i => ds.length - (intOf i).toNat)
      case atStart => exact ⟨0, 1, [], Nat.zero_le _, rfl, rfl, rfl, Sh.Pre.zero ds, by omega⟩
      case round =>
        obtain ⟨k, q, ns, hk, rfl, rfl, hq, hp, hq4⟩ := hrel
        by_cases hlt : k < ds.length
        · obtain ⟨b, off, rfl, hb, hc⟩ := HX.out (by omega)
          have c1 := hc k hlt
          obtain ⟨y, hy⟩ : ∃ y, y = ds.getD k 0 := ⟨_, rfl⟩
          rw [← hy] at c1
          by_cases hy1 : y < 1
          · have e1 : decide (y < 1) = true := by simpa using hy1
            clear hq hy hc HX HO hp hq4
            go_wp2
            go_ret2
            exact ⟨rfl, rfl⟩
          · have e1 : decide (y < 1) = false := by simpa using hy1
            by_cases hyz : 4096 < y
            · have e2 : decide (4096 < y) = true := by simpa using hyz
              clear hq hy hc HX HO hp hq4
              go_wp2
              go_ret2
              exact ⟨rfl, rfl⟩
            · have e2 : decide (4096 < y) = false := by simpa using hyz
              obtain ⟨d, rfl⟩ : ∃ d : Nat, y = (d : Int) := ⟨y.toNat, by omega⟩
              obtain ⟨hp', hm⟩ := hp.next hlt d hy.symm (by omega)
              have f4 : Sh.prod (ns ++ [d]) ≤ 4096 ^ (k + 1) := by
                rw [hm, ← hq, Nat.pow_succ]
                exact Nat.mul_le_mul hq4 (by omega)
              have f3 : 4096 ^ (k + 1) ≤ 4096 ^ 4 := Nat.pow_le_pow_right (by omega) (by omega)
              obtain ⟨u, hu⟩ : ∃ u, u = Sh.prod (ns ++ [d]) := ⟨_, rfl⟩
              rw [← hu] at f4
              have f5 : (q : Int) * (d : Int) = (u : Int) := by rw [hu, hm, hq, Int.natCast_mul]
              have HP := Lib.hid (And.intro hu (And.intro hp' f4))
              have f6 : u ≤ 281474976710656 := Nat.le_trans f4 (Nat.le_trans f3 (by decide))
              clear hq hy hc HX HO hp hu hp' hm hq4 f3 f4
              go_wp2
              go_round
              case rel => exact ⟨k + 1, u, ns ++ [d], by omega, by congr 1, rfl, HP.out.1, HP.out.2.1, HP.out.2.2⟩
              case measure => simp [intOf]; omega
        · have hkl : k = ds.length := by omega
          rw [hkl] at hp
          have hm := HO.out.more (by omega) (by omega) hp
          rw [← hq] at hm
          have e3 : decide (4096 < (q : Int)) = true := by simp; omega
          clear HX HO hp hq hq4
          go_wp2
          go_ret2
          exact ⟨rfl, rfl⟩

end Go.Proofs.YtlbfllaaabginaaDoor

/-!   What shape.Inner, Flat and Line come to, and the document's own Inner and Flat.
-/

namespace Go.Proofs.YtlbfllaaabginaaDoor
open Go.RowKit

theorem inner_no (ds : List Int) (no : Sh.No ds) (a : Int) (x : Option Addr) (n cap : Nat) (w : World) (B : Nat) (hx : Reads .i64 w B x ds) (hn : ds.length = n) :
    Calls Tryd.prog 94 #[.slice x n cap, .int .i64 a] w (RetN 0 3 w) := by
  have HA := Lib.hid (all_no ds no x n cap w B hx hn)
  clear no hx hn
  go_enter Tryd.func94, Tryd.ntmps94
  go_wp2_with (go_at_call 51; refine HA.out.mono ?_; rintro e w' ⟨rfl, rfl⟩)
  go_ret2
  exact ⟨rfl, rfl⟩

theorem inner_arg (ns : List Nat) (ok : Sh.Ok ns) (a : Int) (ha : ¬ (0 ≤ a ∧ a < (ns.length : Int))) (x : Option Addr) (n cap : Nat) (w : World) (B : Nat) (hx : Reads .i64 w B x (Sh.ints ns)) (hn : ns.length = n) :
    Calls Tryd.prog 94 #[.slice x n cap, .int .i64 a] w (RetN 0 1 w) := by
  have HA := Lib.hid (all_ok ns ok x n cap w B hx hn)
  by_cases h0 : a < 0
  · have d1 : decide (a < 0) = true := by simpa using h0
    clear ok hx ha hn
    go_enter Tryd.func94, Tryd.ntmps94
    go_wp2_with (go_at_call 51; refine HA.out.mono ?_; rintro e w' ⟨rfl, rfl⟩)
    go_ret2
    exact ⟨rfl, rfl⟩
  · have d1 : decide (a < 0) = false := by simpa using h0
    have d2 : decide ((n : Int) ≤ a) = true := by simp; omega
    clear ok hx ha hn
    go_enter Tryd.func94, Tryd.ntmps94
    go_wp2_with (go_at_call 51; refine HA.out.mono ?_; rintro e w' ⟨rfl, rfl⟩)
    go_ret2
    exact ⟨rfl, rfl⟩

set_option maxHeartbeats 1000000 in
theorem inner_ok (ns : List Nat) (ok : Sh.Ok ns) (a : Nat) (ha : a < ns.length) (x : Option Addr) (n cap : Nat) (w : World) (B : Nat) (hx : Reads .i64 w B x (Sh.ints ns)) (hn : ns.length = n) (hc : n ≤ cap) :
    Calls Tryd.prog 94 #[.slice x n cap, .int .i64 (a : Int)] w (RetN (Sh.prod (ns.drop (a + 1)) : Nat) 0 w) := by
  subst hn
  have HA := Lib.hid (all_ok ns ok x _ cap w B hx rfl)
  have h4 := ok.four
  have d1 : decide ((a : Int) < 0) = false := by simp
  have d2 : decide ((ns.length : Int) ≤ (a : Int)) = false := by simp; omega
  obtain ⟨b, off, rfl, hb, hcs⟩ := hx (by rw [Sh.ints_len]; omega)
  have hy := hx.behind (cap := cap) (by rw [Sh.ints_len]; exact hc) (a + 1)
  rw [Sh.ints_drop] at hy
  have HM := Lib.hid (fun j => ok.le_mid (a + 1) j)
  have hl : Hid ((ns.drop (a + 1)).length = ns.length - (a + 1)) := Lib.hid (by simp)
  have HY := Lib.hid hy
  clear ok hx hcs hy
  generalize ns.drop (a + 1) = ms at HM HY hl ⊢
  go_enter Tryd.func94, Tryd.ntmps94
  go_wp2_with (go_at_call 51; refine HA.out.mono ?_; rintro e w' ⟨rfl, rfl⟩)
  all_goals
    first | rw [if_pos h] at HY | rw [if_neg h] at HY
    have hl' := hl.out
    rw [← hl']
    clear HA h d1 d2
    go_loop [8, 32] (fun p i => ∃ k q : Nat, k ≤ ms.length ∧ i = .int .i64 (k : Int) ∧ p = .int .i64 (q : Int) ∧ q = Sh.prod (ms.take k)) (fun _ i => ms.length - (intOf i).toNat)
    case atStart => exact ⟨0, 1, Nat.zero_le _, rfl, rfl, rfl⟩
    case round =>
      obtain ⟨k, q, hk, rfl, rfl, hq⟩ := hrel
      by_cases hlt : k < ms.length
      · obtain ⟨b', off', e, hb', hc'⟩ := HY.out (by rw [Sh.ints_len]; omega)
        cases e
        have c1 := hc' k (by rw [Sh.ints_len]; exact hlt)
        rw [Sh.ints_get] at c1
        obtain ⟨d, hd⟩ : ∃ d, d = ms.getD k 0 := ⟨_, rfl⟩
        obtain ⟨u, hu⟩ : ∃ u, u = Sh.prod (ms.take (k + 1)) := ⟨_, rfl⟩
        have f4 : u ≤ 4096 := by rw [hu]; exact HM.out _
        have f5 : (q : Int) * (d : Int) = (u : Int) := by rw [hq, hd, hu, ← Sh.prod_take ms k hlt, Int.natCast_mul]
        have HU := Lib.hid hu
        rw [← hd] at c1
        clear hq hu hd hc' HY HM
        go_wp2
        go_round
        case rel => exact ⟨k + 1, u, by omega, by congr 1, rfl, HU.out⟩
        case measure => simp [intOf]; omega
      · have HQ : Hid ((q : Int) = ((Sh.prod ms : Nat) : Int)) := Lib.hid (by rw [hq, List.take_of_length_le (by omega)])
        clear HY HM hq
        go_wp2
        go_ret2
        exact ⟨ret_n HQ.out _, rfl⟩

end Go.Proofs.YtlbfllaaabginaaDoor

/-!   What shape.Line comes to.
-/

namespace Go.Proofs.YtlbfllaaabginaaDoor
open Go.RowKit

/-- It returns a list, in memory of its own, and an error's number. -/
def RetL (xs : List Int) (er : Int) (w : World) (e : Ending) (w' : World) : Prop := ∃ v, e = .returned (.tuple #[v, .int .i64 er]) ∧ Owns .i64 3 w' w.heap.size v xs ∧ Below w.heap.size w w'
theorem RetL.none (er : Int) (w : World) : RetL [] er w (.returned (.tuple #[.slice none 0 0, .int .i64 er])) w := ⟨_, rfl, Owns.nil, Below.refl _ _⟩

/-- The same, where the list is not empty: its row has an address. -/
def RetO (xs : List Int) (n : Nat) (er : Int) (w : World) (e : Ending) (w' : World) : Prop := ∃ g cap, e = .returned (.tuple #[.slice (some ⟨g, 0, none⟩) n cap, .int .i64 er]) ∧ w.heap.size ≤ g ∧ g < w'.heap.size ∧ n ≤ cap ∧ cap ≤ maxLen ∧ Owns .i64 3 w' w.heap.size (.slice (some ⟨g, 0, none⟩) n cap) xs ∧ Reads .i64 w' w'.heap.size (some ⟨g, 0, none⟩) xs ∧ Below w.heap.size w w'

theorem RetL.open {xs : List Int} {n : Nat} {er : Int} {w w' : World} {e : Ending} (h : RetL xs er w e w') (hn : xs.length = n) (h0 : 0 < n) : RetO xs n er w e w' := by
  subst hn
  obtain ⟨v, rfl, hO, hB⟩ := h
  obtain ⟨x, cap, rfl, h1, h2, h3, h4⟩ := hO.form
  obtain ⟨g, rfl, h5, h6⟩ := h4 h0
  exact ⟨g, cap, rfl, h5, h6, h1, h2, hO, h3, hB⟩

theorem Owns.cell {k : IntKind} {e : TypeId} {w : World} {base g n cap : Nat} {xs : List Int} (h : Owns k e w base (.slice (some ⟨g, 0, none⟩) n cap) xs) (j : Nat) (hj : j < xs.length) : w.cell? ⟨g, j, none⟩ = some (.int k (xs.getD j 0)) := by
  have hn : xs.length = n := by
    rcases h.2 with ⟨e1, _⟩ | ⟨g', cap', cur, e1, _⟩
    · cases e1
    · cases e1; rfl
  unfold Owns at h
  rw [hn] at h
  rw [World.ownsRow.cellAt h j (by omega)]
  simp [List.getD_eq_getElem?_getD, hj]
theorem Owns.unfrozen {k : IntKind} {e : TypeId} {w : World} {base g n cap : Nat} {xs : List Int} (h : Owns k e w base (.slice (some ⟨g, 0, none⟩) n cap) xs) (hn : xs.length = n) (j : Nat) : w.frozen? ⟨g, j, none⟩ = false := by
  subst hn
  exact World.ownsRow.frozenAt h j

theorem Owns.reads {k : IntKind} {e : TypeId} {w : World} {base n cap : Nat} {x : Option Addr} {xs : List Int} (h : Owns k e w base (.slice x n cap) xs) : Reads k w w.heap.size x xs := by
  obtain ⟨x', c', e', _, _, hrd, _⟩ := h.form
  injection e' with e1
  rw [e1]
  exact hrd

/-- The places of the k-th line of axis a. -/
def lineOf (ns : List Nat) (a k : Nat) : List Int := (List.range (ns.getD a 0)).map fun j => ((Sh.first (Sh.prod (ns.drop (a + 1))) (ns.getD a 0) k + j * Sh.prod (ns.drop (a + 1)) : Nat) : Int)

theorem line_no (ds : List Int) (no : Sh.No ds) (a k : Int) (x : Option Addr) (n cap : Nat) (w : World) (B : Nat) (hx : Reads .i64 w B x ds) (hn : ds.length = n) :
    Calls Tryd.prog 74 #[.slice x n cap, .int .i64 a, .int .i64 k] w (RetL [] 3 w) := by
  have HA := Lib.hid (inner_no ds no a x n cap w B hx hn)
  clear no hx hn
  go_enter Tryd.func74, Tryd.ntmps74
  go_wp2_with (go_at_call 94; refine HA.out.mono ?_; rintro e w' ⟨rfl, rfl⟩)
  go_ret2
  exact RetL.none _ _

theorem line_axis (ns : List Nat) (ok : Sh.Ok ns) (a k : Int) (ha : ¬ (0 ≤ a ∧ a < (ns.length : Int))) (x : Option Addr) (n cap : Nat) (w : World) (B : Nat) (hx : Reads .i64 w B x (Sh.ints ns)) (hn : ns.length = n) :
    Calls Tryd.prog 74 #[.slice x n cap, .int .i64 a, .int .i64 k] w (RetL [] 1 w) := by
  have HA := Lib.hid (inner_arg ns ok a ha x n cap w B hx hn)
  clear ok hx ha hn
  go_enter Tryd.func74, Tryd.ntmps74
  go_wp2_with (go_at_call 94; refine HA.out.mono ?_; rintro e w' ⟨rfl, rfl⟩)
  go_ret2
  exact RetL.none _ _

set_option maxHeartbeats 1000000 in
theorem line_arg (ns : List Nat) (ok : Sh.Ok ns) (a : Nat) (k : Int) (ha : a < ns.length) (hk : ¬ (0 ≤ k ∧ k < ((Sh.prod ns / ns.getD a 0 : Nat) : Int))) (x : Option Addr) (n cap : Nat) (w : World) (B : Nat) (hx : Reads .i64 w B x (Sh.ints ns)) (hn : ns.length = n) (hc : n ≤ cap) :
    Calls Tryd.prog 74 #[.slice x n cap, .int .i64 (a : Int), .int .i64 k] w (RetL [] 1 w) := by
  subst hn
  have HA := Lib.hid (all_ok ns ok x _ cap w B hx rfl)
  have HI := Lib.hid (inner_ok ns ok a ha x _ cap w B hx rfl hc)
  obtain ⟨b, off, rfl, hb, hcx⟩ := hx (by rw [Sh.ints_len]; omega)
  have c1 := hcx a (by rw [Sh.ints_len]; exact ha)
  rw [Sh.ints_get] at c1
  have h4 := ok.four
  have p1 := ok.le
  have p2 := ok.pos_at ha
  have p3 := ok.le_at ha
  obtain ⟨P, hP⟩ : ∃ P, P = Sh.prod ns := ⟨_, rfl⟩
  obtain ⟨L, hL⟩ : ∃ L, L = ns.getD a 0 := ⟨_, rfl⟩
  obtain ⟨I, hI⟩ : ∃ I, I = Sh.prod (ns.drop (a + 1)) := ⟨_, rfl⟩
  rw [← hP] at HA p1 hk
  rw [← hL] at c1 p2 p3 hk
  rw [← hI] at HI
  obtain ⟨t, ht⟩ : ∃ t, t = P / L := ⟨_, rfl⟩
  rw [← ht] at hk
  have q1 : (P : Int) / (L : Int) = (t : Int) := by rw [ht]; exact cast_div P L
  have q2 : (L : Int) ≠ 0 := by omega
  have q3 : t ≤ P := by rw [ht]; exact Nat.div_le_self _ _
  clear hP hL hI ht hcx hx ok
  by_cases h0 : k < 0
  · have d1 : decide (k < 0) = true := by simpa using h0
    clear hk
    go_enter Tryd.func74, Tryd.ntmps74
    go_wp2_with (first
      | (go_at_call 94; refine HI.out.mono ?_; rintro e w' ⟨rfl, rfl⟩)
      | (go_at_call 51; refine HA.out.mono ?_; rintro e w' ⟨rfl, rfl⟩))
    go_ret2
    exact RetL.none _ _
  · have d1 : decide (k < 0) = false := by simpa using h0
    have d2 : decide ((t : Int) ≤ k) = true := by simp; omega
    clear hk
    go_enter Tryd.func74, Tryd.ntmps74
    go_wp2_with (first
      | (go_at_call 94; refine HI.out.mono ?_; rintro e w' ⟨rfl, rfl⟩)
      | (go_at_call 51; refine HA.out.mono ?_; rintro e w' ⟨rfl, rfl⟩))
    go_ret2
    exact RetL.none _ _

set_option maxRecDepth 100000 in
set_option maxHeartbeats 2000000 in
theorem line_ok (ns : List Nat) (ok : Sh.Ok ns) (a k : Nat) (ha : a < ns.length) (hk : k < Sh.prod ns / ns.getD a 0) (x : Option Addr) (n cap : Nat) (w : World) (B : Nat) (hx : Reads .i64 w B x (Sh.ints ns)) (hn : ns.length = n) (hc : n ≤ cap) :
    Calls Tryd.prog 74 #[.slice x n cap, .int .i64 (a : Int), .int .i64 (k : Int)] w (RetL (lineOf ns a k) 0 w) := by
  subst hn
  have HA := Lib.hid (all_ok ns ok x _ cap w B hx rfl)
  have HI := Lib.hid (inner_ok ns ok a ha x _ cap w B hx rfl hc)
  obtain ⟨b, off, rfl, hb, hcx⟩ := hx (by rw [Sh.ints_len]; omega)
  have c1 := hcx a (by rw [Sh.ints_len]; exact ha)
  rw [Sh.ints_get] at c1
  have h4 := ok.four
  have p1 := ok.le
  have p2 := ok.pos_at ha
  have p3 := ok.le_at ha
  have p4 := ok.pos_drop (a + 1)
  have p5 := ok.le_drop (a + 1)
  have hk' := hk
  rw [Sh.parts_div ok a ha] at hk'
  have hlt := fun (j : Nat) (hj : j < ns.getD a 0) => Sh.at_lt hk' hj
  rw [← Sh.parts ns a ha] at hlt
  unfold lineOf
  obtain ⟨P, hP⟩ : ∃ P, P = Sh.prod ns := ⟨_, rfl⟩
  obtain ⟨L, hL⟩ : ∃ L, L = ns.getD a 0 := ⟨_, rfl⟩
  obtain ⟨I, hI⟩ : ∃ I, I = Sh.prod (ns.drop (a + 1)) := ⟨_, rfl⟩
  rw [← hP] at HA p1 hk hlt
  rw [← hL] at c1 p2 p3 hk hlt ⊢
  rw [← hI] at HI p4 p5 hlt ⊢
  obtain ⟨t, ht⟩ : ∃ t, t = P / L := ⟨_, rfl⟩
  rw [← ht] at hk
  have q1 : (P : Int) / (L : Int) = (t : Int) := by rw [ht]; exact cast_div P L
  have q2 : (L : Int) ≠ 0 := by omega
  have q3 : t ≤ P := by rw [ht]; exact Nat.div_le_self _ _
  have q4 : (I : Int) ≠ 0 := by omega
  have d1 : decide ((k : Int) < 0) = false := by simp
  have d2 : decide ((t : Int) ≤ (k : Int)) = false := by simp; omega
  obtain ⟨z1, hz1⟩ : ∃ z, z = k / I := ⟨_, rfl⟩
  obtain ⟨z2, hz2⟩ : ∃ z, z = z1 * I := ⟨_, rfl⟩
  obtain ⟨z3, hz3⟩ : ∃ z, z = z2 * L := ⟨_, rfl⟩
  obtain ⟨z4, hz4⟩ : ∃ z, z = k % I := ⟨_, rfl⟩
  obtain ⟨F, hF⟩ : ∃ F, F = Sh.first I L k := ⟨_, rfl⟩
  have hF' : z3 + z4 = F := by rw [hF, hz3, hz4, hz2, hz1]; rfl
  rw [← hF] at hlt ⊢
  have hF0 := hlt 0 (by omega)
  have g1 : (k : Int) / (I : Int) = (z1 : Int) := by rw [hz1]; exact cast_div k I
  have g2 : (z1 : Int) * (I : Int) = (z2 : Int) := by rw [hz2, Int.natCast_mul]
  have g3 : (z2 : Int) * (L : Int) = (z3 : Int) := by rw [hz3, Int.natCast_mul]
  have g4 : (k : Int) % (I : Int) = (z4 : Int) := by rw [hz4]; exact cast_mod k I
  have g5 : (z3 : Int) + (z4 : Int) = (F : Int) := by omega
  have b1 : z1 ≤ k := by rw [hz1]; exact Nat.div_le_self _ _
  have b2 : z2 ≤ 4096 := by
    have : z2 ≤ k := by rw [hz2, hz1]; exact Nat.div_mul_le_self _ _
    omega
  have HLT := Lib.hid hlt
  obtain ⟨i0, hi, hy0, hy1, hy2⟩ := info_parts info_int
  have HY2 := Lib.hid hy2
  clear hP hL hI ht hcx hx ok hk' hz1 hz2 hz3 hz4 hF hlt hy2
  go_enter Tryd.func74, Tryd.ntmps74
  go_wp2_with (first
    | (go_at_call 94; refine HI.out.mono ?_; rintro e w' ⟨rfl, rfl⟩)
    | (go_at_call 51; refine HA.out.mono ?_; rintro e w' ⟨rfl, rfl⟩))
  go_quiet (fail)
  go_wp2_with (at_make; refine wpList_make_full _ rfl _ _ 65 rfl w.heap.size 3 i0 (.int .i64 0) 1 Tryd.underlying65 hi hy0 hy1 .i64 .i64 _ _ L rfl rfl rfl rfl (by rw [HY2.out]; omega) (by unfold maxLen; omega) (Nat.le_refl _) ?_; intro w1 hown hgrow)
  have hst := Half.start (f := fun j => ((F + j * I : Nat) : Int)) hown
  have hbl := (below_draws (Below.refl w.heap.size w) nq).grown hgrow (Nat.le_refl _) (fun k e => by cases e)
  clear hown hgrow hi hy0 hy1
  go_loopw [58] (fun i wr => ∃ j : Nat, j ≤ L ∧ i = .int .i64 (j : Int) ∧ Half .i64 3 wr w.heap.size w.heap.size L (fun j => ((F + j * I : Nat) : Int)) (fun _ => 0) j ∧ Below w.heap.size w wr) (fun i _ => L - (intOf i).toNat)
  case atStart => exact ⟨0, Nat.zero_le _, rfl, hst, hbl⟩
  case round =>
    obtain ⟨j, hj, rfl, hH, hB⟩ := hrel
    by_cases hlt : j < L
    · have hs := hH.step
      have hsB := hB.setCell (p := ⟨w.heap.size, j, none⟩) (Nat.le_refl _) (.int .i64 ((F + j * I : Nat) : Int))
      have hcn := hH.cellNext hlt
      have hf := hH.frozen j
      have hg := hH.lt.2
      have hl1 := HLT.out j hlt
      obtain ⟨r, hr⟩ : ∃ r, r = j * I := ⟨_, rfl⟩
      obtain ⟨s, hs'⟩ : ∃ s, s = F + r := ⟨_, rfl⟩
      rw [← hr, ← hs'] at hs hsB hl1
      have m1 : (j : Int) * (I : Int) = (r : Int) := by rw [hr, Int.natCast_mul]
      have m2 : (F : Int) + (r : Int) = (s : Int) := by rw [hs', Int.natCast_add]
      have HS := Lib.hid hs
      have HB := Lib.hid hsB
      have m3 : r ≤ 4096 := by omega
      clear hr hs' hH hB hs hsB HLT hst hbl
      go_wp2
      go_roundw
      case rel => exact ⟨j + 1, by omega, by congr 1, HS.out, HB.out⟩
      case measure => simp [intOf]; omega
    · obtain rfl : j = L := by omega
      have hR : RetL ((List.range j).map fun j => ((F + j * I : Nat) : Int)) 0 w (.returned (.tuple #[.slice (some ⟨w.heap.size, 0, none⟩) j j, .int .i64 0])) wr := ⟨_, rfl, hH.all, hB⟩
      clear hH hB HLT hst hbl
      go_wp2
      go_ret2
      exact hR

end Go.Proofs.YtlbfllaaabginaaDoor

/-!   What the document's own Coord and Line come to (brackenref05).
-/

namespace Go.Proofs.YtlbfllaaabginaaDoor
open Go.RowKit

theorem lineOf_take (ns : List Nat) (a k j : Nat) (h : j < ns.getD a 0) : (lineOf ns a k).take (j + 1) = (lineOf ns a k).take j ++ [((Sh.first (Sh.prod (ns.drop (a + 1))) (ns.getD a 0) k + j * Sh.prod (ns.drop (a + 1)) : Nat) : Int)] := by
  rw [List.take_succ_eq_append_getElem (by unfold lineOf; rw [List.length_map, List.length_range]; exact h)]
  congr 2
  unfold lineOf
  rw [List.getElem_map, List.getElem_range]
theorem lineOf_len (ns : List Nat) (a k : Nat) : (lineOf ns a k).length = ns.getD a 0 := by unfold lineOf; rw [List.length_map, List.length_range]

/-- A row beyond block base, when something is written into a block below. -/
theorem Owns.set_below {k : IntKind} {e : TypeId} {w : World} {base : Nat} {v : Value} {xs : List Int} (h : Owns k e w base v xs) {p : Addr} (hp : p.block < base) (u : Value) : Owns k e (w.setCell p u) base v xs :=
  h.keep fun g hg _ => Below.heap_setCell w p u g (by omega)
theorem Owns.setAt {k : IntKind} {e : TypeId} {w : World} {base g n cap : Nat} {xs : List Int} (h : Owns k e w base (.slice (some ⟨g, 0, none⟩) n cap) xs) (hn : xs.length = n) (j : Nat) (u : Int) : Owns k e (w.setCell ⟨g, j, none⟩ (.int k u)) base (.slice (some ⟨g, 0, none⟩) n cap) (xs.set j u) := by
  subst hn
  have := (World.ownsRow.stored h j (.int k u)).1
  rw [map_set] at this
  unfold Owns
  rw [List.length_set]
  exact this
/-- One of two rows, when the other one grows. -/
theorem Owns.other {k : IntKind} {e : TypeId} {w w' : World} {base g n cap : Nat} {xs : List Int} (h : Owns k e w base (.slice (some ⟨g, 0, none⟩) n cap) xs) {row : Option Nat} (hg : w.grownBy w' row) (hr : ∀ r, row = some r → g < r) : Owns k e w' base (.slice (some ⟨g, 0, none⟩) n cap) xs := by
  refine World.ownsRow.kept h hg (.inr fun e => ?_)
  have := hr g e.symm
  omega

end Go.Proofs.YtlbfllaaabginaaDoor

/-!   slices.Backward over a slice of words, or of ints: a contract of the function value that it hands back, for every loop body that keeps what lay below n0.
-/

namespace Go.Proofs.YtlbfllaaabginaaDoor
open Go.RowKit Go.Shelf

attribute [local go_sem] Oper.semAt_some

/-- The places that have come when k rounds are over: the last one first. -/
def downTo (n k : Nat) : List (Fin n) := (List.finRange n).reverse.take k
theorem downTo_zero (n : Nat) : downTo n 0 = [] := by simp [downTo]
theorem downTo_len (n k : Nat) (h : k ≤ n) : (downTo n k).length = k := by simp [downTo, h]
theorem downTo_succ (n k : Nat) (h : k < n) : downTo n (k + 1) = downTo n k ++ [⟨n - 1 - k, by omega⟩] := by
  unfold downTo
  rw [List.take_succ_eq_append_getElem (by simpa using h)]
  congr 2
  simp [List.getElem_reverse]

/-- What a round keeps: whatever lies below n0, and the block Bs (the box of the slice that is gone through). -/
def KeepsBox (n0 Bs : Nat) (W W' : World) : Prop := Below n0 W W' ∧ W'.heap[Bs]? = W.heap[Bs]?
theorem KeepsBox.refl (n0 Bs : Nat) (W : World) : KeepsBox n0 Bs W W := ⟨Below.refl _ _, rfl⟩
theorem KeepsBox.trans {n0 Bs : Nat} {A B C : World} (h : KeepsBox n0 Bs A B) (k : KeepsBox n0 Bs B C) : KeepsBox n0 Bs A C := ⟨h.1.trans k.1, k.2.trans h.2⟩
theorem KeepsBox.cell {n0 Bs : Nat} {A B : World} (h : KeepsBox n0 Bs A B) : B.cell? ⟨Bs, 0, none⟩ = A.cell? ⟨Bs, 0, none⟩ := World.cell?_of_block (a := ⟨Bs, 0, none⟩) h.2
theorem keepsBox_b {n0 Bs : Nat} {w : World} (hn : n0 ≤ w.heap.size) (hB : Bs < w.heap.size) : ∀ (W : World) (l : Nat) (o o' : Obj), w.heap.size ≤ l → W.heap[l]? = some o → o.isCells = false → o.isWalk = false → KeepsBox n0 Bs W (W.putObj l o') :=
  fun W l o o' hl h1 h2 h3 => ⟨belowK_b hn W l o o' hl h1 h2 h3, World.putObj_heap_other (by omega)⟩

/-! The same over a slice of ints. -/

theorem backwardI_any (x : Option Addr) (n cap : Nat) (w : World) :
    Calls Tryd.prog 97 #[.slice x n cap] w fun e w' =>
      e = .returned (.func (.func 110) #[] #[.pointer (some ⟨w.heap.size, 0, none⟩)]) ∧ w.alloc (.cells #[.slice x n cap] 65) = w' := by
  go_enter Tryd.func97, Tryd.ntmps97
  go_wp2
  go_ret
  exact ⟨rfl, rfl⟩

set_option maxRecDepth 100000 in
set_option maxHeartbeats 2000000 in
theorem back1I_in (m : Nat) (hm : 1 ≤ m) (l Bs n0 : Nat) (x : Option Addr) (cap : Nat) (xs : List Int) (hreach : xs.length ≤ 1000000) (J Jx : List (Fin xs.length) → World → Prop)
    (hY : Hid (∀ pre j W, J pre W → pre.length < xs.length → YieldAt Fence.wide (m - 1) Tryd.prog l #[.int .i64 (j.1 : Int), .int .i64 (xs.getD j.1 0)] W fun e W' =>
      (e = .returned (.bool true) ∧ J (pre ++ [j]) W' ∧ KeepsBox n0 Bs W W') ∨ (e = .returned (.bool false) ∧ Jx (pre ++ [j]) W')))
    (W : World) (hBs : W.cell? ⟨Bs, 0, none⟩ = some (.slice x xs.length cap)) (hx : Hid (Reads .i64 W n0 x xs)) (h0 : J [] W) :
    CallsIn Fence.wide m Tryd.prog 110 #[.func (.yield l) #[] #[], .pointer (some ⟨Bs, 0, none⟩)] W fun e W' => (∃ v, e = .returned v) ∧
      ((∃ ys, ys = downTo xs.length xs.length ∧ J ys W') ∨ (∃ pre, (∃ k, k ≤ xs.length ∧ pre = downTo xs.length k) ∧ Jx pre W')) := by
  refine callsIn_of_wp Tryd.func110 rfl trivial ?_ rfl
  simp only [Tryd.ntmps110, List.size_toArray, List.length_cons, List.length_nil, Nat.reduceAdd, Nat.reduceSub, Array.replicate_succ, Array.replicate_zero, List.push_toArray, List.append_toArray, List.nil_append, List.cons_append]
  gi_wp2
  gi_loopw [3] (fun i wr => ∃ k d : Nat, d + k = xs.length ∧ i = .int .i64 ((d : Int) - 1) ∧ J (downTo xs.length k) wr ∧ KeepsBox n0 Bs W wr)
    (fun i _ => (intOf i + 1).toNat)
  case atStart => exact ⟨0, xs.length, by omega, by go_num, h0, KeepsBox.refl _ _ _⟩
  case round =>
    obtain ⟨k, d, hd, rfl, hJs, hnx⟩ := hrel
    have hBx := hnx.cell.trans hBs
    have HD := Lib.hid hd; clear hd
    cases d with
    | zero =>
      rw [show ((0 : Nat) : Int) - 1 = -1 from rfl]
      gi_wp2
      go_end0
      have hk := HD.out
      rw [show k = xs.length by omega] at hJs
      exact ⟨⟨_, rfl⟩, .inl ⟨_, rfl, hJs⟩⟩
    | succ j =>
      rw [show ((j + 1 : Nat) : Int) - 1 = (j : Int) by omega]
      have hj : j < xs.length := by have := HD.out; omega
      obtain ⟨b, off, rfl, hb, hc⟩ := hx.out (by omega)
      have hcx := (hnx.1.cell (p := ⟨b, off + j, none⟩) hb).trans (hc j hj)
      obtain ⟨fn, tmps, assign, body, hy, hR⟩ := hY.out _ ⟨j, hj⟩ wr hJs (by have := HD.out; rw [downTo_len _ _ (by omega)]; omega)
      dsimp only at hy
      have HE : Hid (downTo xs.length k ++ [⟨j, hj⟩] = downTo xs.length (k + 1)) := Lib.hid (by
        have := HD.out
        rw [downTo_succ _ _ (by omega)]; congr 3; omega)
      obtain ⟨u, hu⟩ : ∃ u, u = xs.getD j 0 := ⟨_, rfl⟩
      rw [← hu] at hcx hy
      clear hu hc
      have hBs' := Lib.hid hBs; clear hBs
      gi_wp2
      refine hR.mono ?_
      rintro e W3 (⟨rfl, hJ3, hk3⟩ | ⟨rfl, hJx3⟩)
      · gi_wp2
        go_roundw
        case rel => exact ⟨k + 1, j, by have := HD.out; omega, rfl, by rw [← HE.out]; exact hJ3, hnx.trans hk3⟩
        case measure => simp [intOf]
      · gi_wp2
        refine bodyPost_ret (results_none rfl _ _ _) rfl ?_
        exact ⟨⟨_, rfl⟩, .inr ⟨_, ⟨k + 1, by have := HD.out; omega, HE.out⟩, hJx3⟩⟩

theorem backI_stops (m : Nat) (hm : 1 ≤ m) (Bs n0 : Nat) (x : Option Addr) (cap : Nat) (xs : List Int) (hreach : xs.length ≤ 1000000) (w : World) (hB : Bs < w.heap.size) (hn0 : n0 ≤ w.heap.size)
    (hBs : w.cell? ⟨Bs, 0, none⟩ = some (.slice x xs.length cap)) (hx : Reads .i64 w n0 x xs) :
    SeqStopsK Fence.wide m Tryd.prog 110 #[.pointer (some ⟨Bs, 0, none⟩)] (fun j : Fin xs.length => #[.int .i64 (j.1 : Int), .int .i64 (xs.getD j.1 0)]) (KeepsBox n0 Bs)
      (fun ys => ys = downTo xs.length xs.length) (fun pre => ∃ k, k ≤ xs.length ∧ pre = downTo xs.length k) xs.length w := fun l J Jx W hW _ _ hY h0 =>
  back1I_in m hm l Bs n0 x cap xs hreach J Jx (Lib.hid hY) W ((hW.cell (p := ⟨Bs, 0, none⟩) hB).trans hBs) (Lib.hid (hx.below (hW.mono hn0))) h0

end Go.Proofs.YtlbfllaaabginaaDoor

/-!   What shape.Coord comes to.
-/

namespace Go.Proofs.YtlbfllaaabginaaDoor
open Go.RowKit Go.Shelf

attribute [local go_sem] Oper.semAt_some

namespace Sh
/-- What the list and the place have come to, the axes js having come. -/
def crdAll (ns : List Nat) (i : Nat) (js : List Nat) : List Nat × Nat := js.foldl (fun s j => (s.1.set j (s.2 % ns.getD j 0), s.2 / ns.getD j 0)) (List.replicate ns.length 0, i)
theorem crdAll_snoc (ns : List Nat) (i : Nat) (js : List Nat) (j : Nat) : crdAll ns i (js ++ [j]) = ((crdAll ns i js).1.set j ((crdAll ns i js).2 % ns.getD j 0), (crdAll ns i js).2 / ns.getD j 0) := by
  simp [crdAll]
theorem crdAll_bd (ns : List Nat) (i : Nat) (js : List Nat) : (crdAll ns i js).1.length = ns.length ∧ (crdAll ns i js).2 ≤ i := by
  unfold crdAll
  have : ∀ (js : List Nat) (s : List Nat × Nat), s.1.length = ns.length ∧ s.2 ≤ i → (js.foldl (fun s j => (s.1.set j (s.2 % ns.getD j 0), s.2 / ns.getD j 0)) s).1.length = ns.length ∧ (js.foldl (fun s j => (s.1.set j (s.2 % ns.getD j 0), s.2 / ns.getD j 0)) s).2 ≤ i := by
    intro js
    induction js with
    | nil => intro s h; exact h
    | cons j js ih =>
      intro s h
      exact ih _ ⟨by simpa using h.1, Nat.le_trans (Nat.div_le_self _ _) h.2⟩
  exact this js _ ⟨by simp, Nat.le_refl _⟩
theorem crdAll_down (ns : List Nat) (i : Nat) : ∀ k, k ≤ ns.length → crdAll ns i ((downTo ns.length k).map Fin.val) = (List.replicate (ns.length - k) 0 ++ (crd ns i).drop (ns.length - k), i / prod (ns.drop (ns.length - k)))
  | 0, _ => by
    rw [downTo_zero]
    have e : (crd ns i).drop ns.length = [] := List.drop_eq_nil_of_le (by rw [crd_len]; exact Nat.le_refl _)
    have e2 : ns.drop ns.length = [] := List.drop_eq_nil_of_le (Nat.le_refl _)
    simp [crdAll, e, e2, prod]
  | k + 1, h => by
    rw [downTo_succ _ _ (by omega), List.map_append, List.map_cons, List.map_nil, crdAll_snoc, crdAll_down ns i k (by omega)]
    obtain ⟨j, hj⟩ : ∃ j, j = ns.length - 1 - k := ⟨_, rfl⟩
    have e1 : ns.length - k = j + 1 := by omega
    have e2 : ns.length - (k + 1) = j := by omega
    have hl : j < ns.length := by omega
    simp only [e1, e2, ← hj]
    refine Prod.ext ?_ ?_
    · dsimp only
      rw [← crd_get ns i j hl, List.replicate_succ']
      have hc : j < (crd ns i).length := by rw [crd_len]; exact hl
      rw [List.append_assoc, List.set_append_right _ _ (by simp), List.length_replicate, Nat.sub_self]
      congr 1
      rw [List.drop_eq_getElem_cons hc]
      simp [hc]
    · dsimp only
      rw [Nat.div_div_eq_div_mul, Nat.mul_comm, prod_drop ns j hl]
theorem crdAll_done (ns : List Nat) (i m : Nat) (hm : m = ns.length) : (crdAll ns i ((downTo m m).map Fin.val)).1 = crd ns i := by
  subst hm
  rw [crdAll_down ns i _ (Nat.le_refl _)]
  simp
end Sh

theorem coord_no (ds : List Int) (no : Sh.No ds) (i : Int) (x : Option Addr) (n cap : Nat) (w : World) (hx : Reads .i64 w w.heap.size x ds) (hn : ds.length = n) :
    Calls Tryd.prog 76 #[.slice x n cap, .int .i64 i] w (RetL [] 3 w) := by
  have HB := Lib.hid ((Below.refl w.heap.size w).alloc (Nat.le_refl _) (.cells #[.int .i64 i] 3))
  have HA := Lib.hid (all_no ds no x n cap _ w.heap.size (hx.below HB.out) hn)
  clear no hx hn
  go_enter Tryd.func76, Tryd.ntmps76
  go_wp2_with (go_at_call 51; refine HA.out.mono ?_; rintro e w' ⟨rfl, rfl⟩)
  go_ret2
  exact ⟨_, rfl, Owns.nil, HB.out⟩

theorem coord_arg (ns : List Nat) (ok : Sh.Ok ns) (i : Int) (hi : ¬ (0 ≤ i ∧ i < (Sh.prod ns : Nat))) (x : Option Addr) (n cap : Nat) (w : World) (hx : Reads .i64 w w.heap.size x (Sh.ints ns)) (hn : ns.length = n) :
    Calls Tryd.prog 76 #[.slice x n cap, .int .i64 i] w (RetL [] 1 w) := by
  have HB := Lib.hid ((Below.refl w.heap.size w).alloc (Nat.le_refl _) (.cells #[.int .i64 i] 3))
  have HA := Lib.hid (all_ok ns ok x n cap _ w.heap.size (hx.below HB.out) hn)
  by_cases h0 : i < 0
  · have d1 : decide (i < 0) = true := by simpa using h0
    clear ok hx hi hn
    go_enter Tryd.func76, Tryd.ntmps76
    go_wp2_with (go_at_call 51; refine HA.out.mono ?_; rintro e w' ⟨rfl, rfl⟩)
    go_ret2
    exact ⟨_, rfl, Owns.nil, HB.out⟩
  · have d1 : decide (i < 0) = false := by simpa using h0
    have d2 : decide (((Sh.prod ns : Nat) : Int) ≤ i) = true := by simp; omega
    clear ok hx hi hn
    go_enter Tryd.func76, Tryd.ntmps76
    go_wp2_with (go_at_call 51; refine HA.out.mono ?_; rintro e w' ⟨rfl, rfl⟩)
    go_ret2
    exact ⟨_, rfl, Owns.nil, HB.out⟩

/-- Between two rounds, the axes js having come: the boxes of the place and of the row, and the row. -/
def CrdInv (ns : List Nat) (i : Nat) (w : World) (g Bc : Nat) (js : List (Fin (Sh.ints ns).length)) (W : World) : Prop :=
  Boxed W w.heap.size 3 (.int .i64 ((Sh.crdAll ns i (js.map Fin.val)).2 : Nat)) ∧ Boxed W Bc 65 (.slice (some ⟨g, 0, none⟩) ns.length ns.length) ∧
  W.ownsRow w.heap.size 3 1 (.slice (some ⟨g, 0, none⟩) ns.length ns.length) ns.length ((Sh.ints (Sh.crdAll ns i (js.map Fin.val)).1).map (Value.int .i64)) ∧ Below w.heap.size w W

theorem CrdInv.own {ns : List Nat} {i : Nat} {w : World} {g Bc B : Nat} (hB : w.heap.size ≤ B) : OwnFrom B (CrdInv ns i w g Bc) := by
  rintro js W W' row ⟨h1, h2, h3, h4⟩ hg hr
  have hr' : ∀ r, row = some r → ∃ o : Obj, W.heap[r]? = some o ∧ o.isCells = false := fun r e => (hr r e).2
  exact ⟨boxed_stays h1 hg hr', boxed_stays h2 hg hr', owned_stays h3 hg hr', h4.grown hg h4.size (fun k e => Nat.le_trans hB (hr k e).1)⟩

theorem CrdInv.step {ns : List Nat} {i : Nat} {w W : World} {g Bc : Nat} {js : List (Fin (Sh.ints ns).length)} (h : CrdInv ns i w g Bc js W) (h1 : w.heap.size < g) (h2 : g < Bc) {j : Nat} (hj : j < (Sh.ints ns).length) {q d r s : Nat}
    (hq : q = (Sh.crdAll ns i (js.map Fin.val)).2) (hd : d = ns.getD j 0) (hr : r = q % d) (hs : s = q / d) (n1 : Nat) :
    CrdInv ns i w g Bc (js ++ [⟨j, hj⟩]) (((W.drewN n1).setCell ⟨g, j, none⟩ (.int .i64 (r : Int))).setCell ⟨w.heap.size, 0, none⟩ (.int .i64 (s : Int))) := by
  obtain ⟨b1, b2, b3, b4⟩ := h
  have e1 : Sh.crdAll ns i ((js ++ [(⟨j, hj⟩ : Fin (Sh.ints ns).length)]).map Fin.val) = ((Sh.crdAll ns i (js.map Fin.val)).1.set j r, s) := by
    rw [List.map_append, List.map_cons, List.map_nil, Sh.crdAll_snoc, hr, hs, hq, hd]
  have c1 : Boxed ((W.drewN n1).setCell ⟨g, j, none⟩ (.int .i64 (r : Int))) w.heap.size 3 (.int .i64 ((Sh.crdAll ns i (js.map Fin.val)).2 : Nat)) := boxed_set (W := W.drewN n1) b1 _ (by show w.heap.size ≠ g; omega)
  have c2 : Boxed ((W.drewN n1).setCell ⟨g, j, none⟩ (.int .i64 (r : Int))) Bc 65 (.slice (some ⟨g, 0, none⟩) ns.length ns.length) := boxed_set (W := W.drewN n1) b2 _ (by show Bc ≠ g; omega)
  have c4 := (World.ownsRow.stored (w := W.drewN n1) b3 j (.int .i64 (r : Int))).1
  rw [map_set, Sh.ints_set] at c4
  refine ⟨?_, boxed_set c2 _ (by show Bc ≠ w.heap.size; omega), ?_, ?_⟩
  · rw [e1]; exact c1.set _
  · rw [e1]; exact owned_set (W := (W.drewN n1).setCell ⟨g, j, none⟩ (.int .i64 (r : Int))) c4 _ (by show g ≠ w.heap.size; omega)
  · exact ((below_draws b4 n1).setCell (p := ⟨g, j, none⟩) (by show _ ≤ g; omega) _).setCell (p := ⟨w.heap.size, 0, none⟩) (Nat.le_refl _) _

set_option maxRecDepth 100000 in
set_option maxHeartbeats 2000000 in
theorem coord_ok (ns : List Nat) (ok : Sh.Ok ns) (i : Nat) (hi : i < Sh.prod ns) (x : Option Addr) (n cap : Nat) (w : World) (hx : Reads .i64 w w.heap.size x (Sh.ints ns)) (hn : ns.length = n) :
    Calls Tryd.prog 76 #[.slice x n cap, .int .i64 (i : Int)] w (RetL (Sh.ints (Sh.crd ns i)) 0 w) := by
  subst hn
  have hB0 := (Below.refl w.heap.size w).alloc (Nat.le_refl _) (.cells #[.int .i64 (i : Int)] 3)
  have HA := Lib.hid (all_ok ns ok x _ cap _ w.heap.size (hx.below hB0) rfl)
  have h1 := ok.one
  have h4 := ok.four
  have p1 := ok.le
  have d1 : decide ((i : Int) < 0) = false := by simp
  have HX := Lib.hid hx
  have HK := Lib.hid ok
  obtain ⟨i0, hti, hy0, hy1, hy2⟩ := info_parts info_int
  have hmk : ∀ W : World, (Instr.makeSlice 65 (.int .i64 (ns.length : Int)) (.int .i64 (ns.length : Int))).run Tryd.prog W = .ok (.slice (some ⟨W.heap.size, 0, none⟩) ns.length ns.length) (W.alloc (.cells (madeCells (Value.int .i64 0).cells (ns.length * 1)) 3)) := fun W => by
    have := run_make (P := Tryd.prog) W 65 3 i0 (.int .i64 0) Tryd.underlying65 hti hy0 .i64 .i64 ns.length ns.length (by omega) (Int.le_refl _) (by rw [hy2]; omega) (by omega)
    simpa [hy1] using this
  obtain ⟨O, hO⟩ : ∃ O, O = Obj.cells (madeCells (Value.int .i64 0).cells (ns.length * 1)) 3 := ⟨_, rfl⟩
  rw [← hO] at hmk
  have HO := Lib.hid hO
  obtain ⟨P, hP⟩ : ∃ P, P = Sh.prod ns := ⟨_, rfl⟩
  rw [← hP] at HA p1 hi
  have d2 : decide (P ≤ i) = false := by simp; omega
  clear hx ok hP hO hti hy0 hy1 hy2 hB0
  refine (callsIn_wide (n := 3)).1 ?_
  refine callsIn_of_wp_marks Tryd.func76 rfl trivial ?_ rfl
  simp only [Tryd.ntmps76, List.size_toArray, List.length_cons, List.length_nil, Nat.reduceAdd, Nat.reduceSub, Array.replicate_succ, Array.replicate_zero, List.push_toArray, List.append_toArray, List.nil_append, List.cons_append]
  gi_wp2_with (refine ⟨trivial, ?_⟩; gi_at_call 51; refine (callsIn_wide.2 HA.out).mono ?_; rintro e w' ⟨rfl, rfl⟩)
  obtain ⟨W2, hW2⟩ : ∃ W2, ((w.alloc (.cells #[.int .i64 (i : Int)] 3)).alloc O).alloc (.cells #[.slice (some ⟨w.heap.size + 1, 0, none⟩) ns.length ns.length] 65) = W2 := ⟨_, rfl⟩
  have hI0 : CrdInv ns i w (w.heap.size + 1) (w.heap.size + 1 + 1) [] W2 ∧ W2.heap.size = w.heap.size + 3 := by
    rw [← hW2]
    have s1 : (w.alloc (.cells #[.int .i64 (i : Int)] 3)).heap.size = w.heap.size + 1 := World.size_alloc _ _
    have s2 : ((w.alloc (.cells #[.int .i64 (i : Int)] 3)).alloc O).heap.size = w.heap.size + 1 + 1 := by rw [World.size_alloc, s1]
    refine ⟨⟨((Boxed.new w 3 _).alloc _).alloc _, ?_, ?_, ?_⟩, by rw [World.size_alloc, s2]⟩
    · have := Boxed.new ((w.alloc (.cells #[.int .i64 (i : Int)] 3)).alloc O) 65 (.slice (some ⟨w.heap.size + 1, 0, none⟩) ns.length ns.length)
      rw [s2] at this
      exact this
    · have := World.ownsRow_lit (base := w.heap.size) (size := 1) (e := 3) (w.alloc (.cells #[.int .i64 (i : Int)] 3)) (madeCells (Value.int .i64 0).cells (ns.length * 1)) ns.length (by rw [s1]; omega) (by unfold maxLen; omega) (size_madeCells _ _)
      rw [s1, show (Value.int .i64 0).cells = #[.int .i64 0] from rfl, toList_madeCells_one, Nat.mul_one] at this
      refine World.ownsRow.alloc ?_ _
      have e : (Sh.ints (Sh.crdAll ns i (([] : List (Fin (Sh.ints ns).length)).map Fin.val)).1).map (Value.int .i64) = List.replicate ns.length (.int .i64 0) := by simp [Sh.crdAll, Sh.ints]
      rw [e, HO.out, show (Value.int .i64 0).cells = #[.int .i64 0] from rfl, Nat.mul_one]
      exact this
    · exact (((Below.refl w.heap.size w).alloc (Nat.le_refl _) _).alloc (by rw [s1]; omega) _).alloc (by rw [s2]; omega) _
  obtain ⟨hI, hs2⟩ := hI0
  rw [hW2]
  have HX2 := Lib.hid ((HX.out.below hI.2.2.2))
  have HS2 := Lib.hid hs2
  clear hW2 hs2 hmk HA
  refine ⟨trivial, (callsIn_wide.2 (backwardI_any _ _ _ _)).mono ?_⟩
  rintro e W3 ⟨rfl, rfl⟩
  have bS := Boxed.new W2 65 (.slice x ns.length cap)
  have hI3 : CrdInv ns i w (w.heap.size + 1) (w.heap.size + 1 + 1) [] (W2.alloc (.cells #[.slice x ns.length cap] 65)) := (CrdInv.own (B := w.heap.size) (Nat.le_refl _)).alloc _ hI
  have hX3 : Reads .i64 (W2.alloc (.cells #[.slice x ns.length cap] 65)) w.heap.size x (Sh.ints ns) := (HX2.out).below ((Below.refl _ W2).alloc hI.2.2.2.size _)
  have hlt3 : W2.heap.size < (W2.alloc (.cells #[.slice x ns.length cap] 65)).heap.size := by simp
  have cS : (W2.alloc (.cells #[.slice x ns.length cap] 65)).cell? ⟨W2.heap.size, 0, none⟩ = some (.slice x (Sh.ints ns).length cap) := by rw [Sh.ints_len]; exact bS.cell
  gi_wp2
  refine wpIn_rangeFunc_ownG rfl (by omega) (gf := 110) (lb := #[.pointer (some ⟨W2.heap.size, 0, none⟩)]) rfl trivial (enters_of Tryd.func110 (by kernel_rfl) rfl)
    (backI_stops 2 (by omega) W2.heap.size w.heap.size x cap (Sh.ints ns) (by rw [Sh.ints_len]; omega) _ hlt3 hI3.2.2.2.size cS hX3) KeepsBox.trans (keepsBox_b hI3.2.2.2.size hlt3) (Below.refl _ _) (fun _ => rfl)
    (CrdInv ns i w (w.heap.size + 1) (w.heap.size + 1 + 1)) (fun _ _ _ => False) (CrdInv.own (hI3.2.2.2.size)) (fun _ _ _ _ _ hs _ _ => hs) hI3 ?a1 ?assign ?body ?done ?stop
  case assign =>
    intro l j W K hK
    gi_wp2
    exact hK
  case body =>
    rintro l js ⟨j, hj⟩ W hJ hlj
    have hJ' := hJ
    obtain ⟨hb1, hb2, hr, hb⟩ := hJ'
    have hjn : j < ns.length := by rw [Sh.ints_len] at hj; exact hj
    have cI := hb1.cell
    have fI := hb1.frozen
    have cC := hb2.cell
    have hc := hr.cellAt j (by omega)
    have fR := hr.frozenAt j
    obtain ⟨e1, e2⟩ := Sh.crdAll_bd ns i (js.map Fin.val)
    obtain ⟨q, hq⟩ : ∃ q, q = (Sh.crdAll ns i (js.map Fin.val)).2 := ⟨_, rfl⟩
    obtain ⟨d, hd⟩ : ∃ d, d = ns.getD j 0 := ⟨_, rfl⟩
    obtain ⟨y, hy⟩ : ∃ y, y = (Sh.crdAll ns i (js.map Fin.val)).1.getD j 0 := ⟨_, rfl⟩
    rw [← hq] at cI e2
    have hjl : j < (Sh.crdAll ns i (js.map Fin.val)).1.length := by rw [e1]; exact hjn
    have hc' : W.cell? ⟨w.heap.size + 1, j, none⟩ = some (.int .i64 (y : Int)) := by rw [hc, hy, List.getElem?_map, Sh.ints, List.getElem?_map, List.getD_eq_getElem?_getD, List.getElem?_eq_getElem hjl]; rfl
    obtain ⟨r, hr1⟩ : ∃ r, r = q % d := ⟨_, rfl⟩
    obtain ⟨s, hs1⟩ : ∃ s, s = q / d := ⟨_, rfl⟩
    have g1 : (q : Int) % (d : Int) = (r : Int) := by rw [hr1]; exact cast_mod q d
    have g2 : (q : Int) / (d : Int) = (s : Int) := by rw [hs1]; exact cast_div q d
    have g3 : 1 ≤ d := by rw [hd]; exact HK.out.pos_at hjn
    have g4 : d ≤ 4096 := by rw [hd]; exact HK.out.le_at hjn
    have g5 : (d : Int) ≠ 0 := by omega
    have g6 : s ≤ q := by rw [hs1]; exact Nat.div_le_self _ _
    have hwl : w.heap.size < W.heap.size := hb1.lt
    have hgl : w.heap.size + 1 < W.heap.size := (hr.lt _ rfl).2
    have hBl : w.heap.size + 1 + 1 < W.heap.size := hb2.lt
    have hdv : (Sh.ints ns)[j] = (d : Int) := by simp [Sh.ints, hd, hjn]
    have HST := Lib.hid (fun n1 => hJ.step (by omega) (by omega) hj hq hd hr1 hs1 n1)
    show Code.wpIn _ _ _ _ _ _ W
    simp only [hdv]
    clear hc hq hd hy hr1 hs1 hb1 hb2 hr hb hlj hI hI3 hX3 bS cS hlt3 hJ hdv e1
    have hmx : Tryd.prog.follows .mixedOrders = true := by kernel_rfl
    gi_wp2
    refine regionIn_quiet_tail 6 hmx (by kernel_rfl) (by kernel_rfl) (fun ⟨_, _, h⟩ => h) ?_
    simp only [List.take_succ_cons, List.take_zero, List.drop_succ_cons, List.drop_zero]
    repeat (first | go_big_quiet_step (fail) | quiet_step (fail))
    refine wpQuiet_nil ?_
    rintro w' ⟨nq, rfl⟩
    go_wp2
    gi_wp2
    have hs2 := HS2.out
    refine ⟨?_, ⟨?_, ?_⟩, HST.out _⟩
    · exact (((keeps_draws W nq).trans (KeepsOthers.setCell _ _ _)).trans (KeepsOthers.setCell _ _ _)).from _
    · exact ((draws_below w.heap.size W nq).setCell (p := ⟨w.heap.size + 1, j, none⟩) (by show _ ≤ w.heap.size + 1; omega) _).setCell (p := ⟨w.heap.size, 0, none⟩) (Nat.le_refl _) _
    · exact (Below.heap_setCell _ _ _ _ (by show W2.heap.size ≠ w.heap.size; omega)).trans (Below.heap_setCell (W.drewN nq) _ _ _ (by show W2.heap.size ≠ w.heap.size + 1; omega))
  case done =>
    rintro D ys W hD rfl hJ hK
    have cU := hJ.2.1.cell
    have hR : RetL (Sh.ints (Sh.crd ns i)) 0 w (.returned (.tuple #[.slice (some ⟨w.heap.size + 1, 0, none⟩) ns.length ns.length, .int .i64 0])) (W.putObj D (.deferred none)) := by
      refine ⟨_, rfl, ?_, hJ.2.2.2.trans (belowK_b (w := w) (Nat.le_refl _) W D _ _ (by have := hI3.2.2.2.size; omega) hK rfl rfl)⟩
      have := ownsRow_putObj hJ.2.2.1 (.deferred none) hK rfl
      rw [Sh.crdAll_done ns i _ (Sh.ints_len ns)] at this
      unfold Owns
      rw [Sh.ints_len, Sh.crd_len]
      exact this
    gi_wp2
    refine ⟨by simp, .inl ⟨_, _, rfl, run_takeDeferred hK, ?_⟩⟩
    exact ⟨_, results_tmp2 (t := 4) (u := 5) rfl _ _ _, hR⟩
  case stop =>
    rintro D c pre W _ _ h _
    exact h.elim

end Go.Proofs.YtlbfllaaabginaaDoor
