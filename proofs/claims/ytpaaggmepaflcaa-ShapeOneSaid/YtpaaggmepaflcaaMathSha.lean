/-
  Plain mathematics of layer 5: products of axes, coordinates and places, lines of an axis. No program is named here.
-/
import Derived.Test.YtpaaggmepaflcaaProg
namespace Go.Proofs.Ytpaaggmepaflcaa.Sh

def prod : List Nat → Nat
  | [] => 1
  | d :: t => d * prod t
/-- Numbers as the program has them. -/
def ints (ns : List Nat) : List Int := ns.map (fun n : Nat => (n : Int))
theorem ints_len (ns : List Nat) : (ints ns).length = ns.length := by simp [ints]
theorem ints_get (ns : List Nat) (k : Nat) : (ints ns).getD k 0 = ((ns.getD k 0 : Nat) : Int) := by
  by_cases h : k < ns.length
  · simp [ints, h]
  · simp [ints, h]
theorem ints_inj {a b : List Nat} (h : ints a = ints b) : a = b := by
  have := congrArg (List.map Int.toNat) h
  simpa [ints, Function.comp_def] using this
theorem ints_append (a b : List Nat) : ints (a ++ b) = ints a ++ ints b := by simp [ints]
theorem ints_take (ns : List Nat) (k : Nat) : (ints ns).take k = ints (ns.take k) := by simp [ints]
theorem ints_drop (ns : List Nat) (k : Nat) : (ints ns).drop k = ints (ns.drop k) := by simp [ints]
theorem ints_set (ns : List Nat) (k x : Nat) : (ints ns).set k (x : Int) = ints (ns.set k x) := by simp [ints]
theorem ints_eq {a b : List Nat} : (ints a = ints b) = (a = b) := propext ⟨ints_inj, fun h => by rw [h]⟩

theorem prod_append (a b : List Nat) : prod (a ++ b) = prod a * prod b := by
  induction a with
  | nil => simp [prod]
  | cons d t ih => simp [prod, ih, Nat.mul_assoc]
theorem prod_pos {ns : List Nat} (h : ∀ d ∈ ns, 1 ≤ d) : 1 ≤ prod ns := by
  induction ns with
  | nil => simp [prod]
  | cons d t ih =>
    have h1 := h d (by simp)
    have h2 := ih (fun d hd => h d (by simp [hd]))
    exact Nat.mul_le_mul h1 h2
theorem prod_split (ns : List Nat) (k : Nat) : prod (ns.take k) * prod (ns.drop k) = prod ns := by
  rw [← prod_append, List.take_append_drop]
theorem prod_take (ns : List Nat) (k : Nat) (h : k < ns.length) : prod (ns.take k) * ns.getD k 0 = prod (ns.take (k + 1)) := by
  rw [List.take_succ_eq_append_getElem h, prod_append]
  simp [prod, h]
theorem prod_drop (ns : List Nat) (k : Nat) (h : k < ns.length) : ns.getD k 0 * prod (ns.drop (k + 1)) = prod (ns.drop k) := by
  rw [List.drop_eq_getElem_cons h]
  simp [prod, h]

/-- Axes that may be. -/
structure Ok (ns : List Nat) : Prop where
  one : 1 ≤ ns.length
  four : ns.length ≤ 4
  pos : ∀ d ∈ ns, 1 ≤ d
  le : prod ns ≤ 4096
theorem Ok.pos_take {ns : List Nat} (h : Ok ns) (k : Nat) : 1 ≤ prod (ns.take k) := prod_pos fun d hd => h.pos d (List.mem_of_mem_take hd)
theorem Ok.pos_drop {ns : List Nat} (h : Ok ns) (k : Nat) : 1 ≤ prod (ns.drop k) := prod_pos fun d hd => h.pos d (List.mem_of_mem_drop hd)
theorem Ok.pos_at {ns : List Nat} (h : Ok ns) {k : Nat} (hk : k < ns.length) : 1 ≤ ns.getD k 0 := by
  have := h.pos ns[k] (List.getElem_mem hk)
  simpa [hk] using this
theorem le_mul_one {a b c : Nat} (h : a * b = c) (hb : 1 ≤ b) : a ≤ c := by
  have := Nat.mul_le_mul_left a hb
  omega
theorem Ok.le_take {ns : List Nat} (h : Ok ns) (k : Nat) : prod (ns.take k) ≤ 4096 := Nat.le_trans (le_mul_one (prod_split ns k) (h.pos_drop k)) h.le
theorem Ok.le_drop {ns : List Nat} (h : Ok ns) (k : Nat) : prod (ns.drop k) ≤ 4096 := Nat.le_trans (le_mul_one ((Nat.mul_comm _ _).trans (prod_split ns k)) (h.pos_take k)) h.le
theorem Ok.le_at {ns : List Nat} (h : Ok ns) {k : Nat} (hk : k < ns.length) : ns.getD k 0 ≤ 4096 := Nat.le_trans (le_mul_one (prod_drop ns k hk) (h.pos_drop _)) (h.le_drop k)
theorem Ok.div_at {ns : List Nat} (h : Ok ns) {k : Nat} (hk : k < ns.length) : ns.getD k 0 ≤ 4096 / prod (ns.take k) := by
  rw [Nat.le_div_iff_mul_le (h.pos_take k), Nat.mul_comm, prod_take ns k hk]
  exact h.le_take _
theorem Ok.le_mid {ns : List Nat} (h : Ok ns) (i j : Nat) : prod ((ns.drop i).take j) ≤ 4096 :=
  Nat.le_trans (le_mul_one (prod_split (ns.drop i) j) (prod_pos fun d hd => h.pos d (List.mem_of_mem_drop (List.mem_of_mem_drop hd)))) (h.le_drop i)
theorem Ok.here {ns : List Nat} (h : Ok ns) : 1 ≤ prod ns := prod_pos h.pos

/-- Axes that may not be. -/
def No (ds : List Int) : Prop := ∀ ns, Ok ns → ds ≠ ints ns
theorem ok_or (ds : List Int) : (∃ ns, Ok ns ∧ ds = ints ns) ∨ No ds := by
  by_cases h : ∃ ns, Ok ns ∧ ds = ints ns
  · exact .inl h
  · exact .inr fun ns h1 h2 => h ⟨ns, h1, h2⟩
/-- The first k of them are 1 or more, and these. -/
def Pre (ds : List Int) (k : Nat) (ns : List Nat) : Prop := ds.take k = ints ns ∧ ∀ d ∈ ns, 1 ≤ d
theorem Pre.zero (ds : List Int) : Pre ds 0 [] := ⟨by simp [ints], by simp⟩
theorem Pre.next {ds : List Int} {k : Nat} {ns : List Nat} (h : Pre ds k ns) (hk : k < ds.length) (d : Nat) (hd : ds.getD k 0 = (d : Int)) (h1 : 1 ≤ d) : Pre ds (k + 1) (ns ++ [d]) ∧ prod (ns ++ [d]) = prod ns * d := by
  refine ⟨⟨?_, ?_⟩, by simp [prod_append, prod]⟩
  · rw [List.take_succ_eq_append_getElem hk, h.1, ints_append]
    simp [hk] at hd
    simp [ints, hd]
  · intro x hx
    rcases List.mem_append.1 hx with hx | hx
    · exact h.2 x hx
    · simp at hx; omega
theorem No.more {ds : List Int} (h : No ds) (h1 : 1 ≤ ds.length) (h4 : ds.length ≤ 4) {ns : List Nat} (hp : Pre ds ds.length ns) : 4096 < prod ns := by
  obtain ⟨e, hp⟩ := hp
  rw [List.take_length] at e
  rcases Nat.lt_or_ge 4096 (prod ns) with h' | h'
  · exact h'
  · have hl := ints_len ns
    rw [← e] at hl
    exact absurd e (h ns ⟨by omega, by omega, hp, h'⟩)

/-- Coordinates of a place. -/
def crd : List Nat → Nat → List Nat
  | [], _ => []
  | d :: t, i => i / prod t % d :: crd t i
/-- The place of coordinates. -/
def fl : List Nat → List Nat → Nat
  | _ :: t, c :: u => c * prod t + fl t u
  | _, _ => 0
def In : List Nat → List Nat → Prop
  | [], [] => True
  | d :: t, c :: u => c < d ∧ In t u
  | _, _ => False
theorem crd_len (ns : List Nat) (i : Nat) : (crd ns i).length = ns.length := by
  induction ns with
  | nil => rfl
  | cons d t ih => simp [crd, ih]
theorem crd_get (ns : List Nat) (i k : Nat) (h : k < ns.length) : (crd ns i).getD k 0 = i / prod (ns.drop (k + 1)) % ns.getD k 0 := by
  induction ns generalizing k with
  | nil => simp at h
  | cons d t ih =>
    cases k with
    | zero => simp [crd]
    | succ k =>
      have := ih k (by simpa using h)
      simpa [crd] using this
theorem crd_take (ns : List Nat) (i k : Nat) (h : k < ns.length) : (crd ns i).take (k + 1) = (crd ns i).take k ++ [i / prod (ns.drop (k + 1)) % ns.getD k 0] := by
  rw [List.take_succ_eq_append_getElem (by rw [crd_len]; exact h), ← crd_get ns i k h]
  simp [crd_len, h]
theorem In.len {ns cs : List Nat} (h : In ns cs) : cs.length = ns.length := by
  induction ns generalizing cs with
  | nil => cases cs with
    | nil => rfl
    | cons c u => exact h.elim
  | cons d t ih => cases cs with
    | nil => exact h.elim
    | cons c u => simp [ih h.2]
theorem In.get {ns cs : List Nat} (h : In ns cs) {k : Nat} (hk : k < ns.length) : cs.getD k 0 < ns.getD k 0 := by
  induction ns generalizing cs k with
  | nil => simp at hk
  | cons d t ih => cases cs with
    | nil => exact h.elim
    | cons c u => cases k with
      | zero => simpa using h.1
      | succ k => simpa using ih h.2 (by simpa using hk)
theorem In.set {ns cs : List Nat} (h : In ns cs) (a x : Nat) (hx : x < ns.getD a 0) : In ns (cs.set a x) := by
  induction ns generalizing cs a with
  | nil => simp at hx
  | cons d t ih => cases cs with
    | nil => exact h.elim
    | cons c u => cases a with
      | zero => exact ⟨by simpa using hx, h.2⟩
      | succ a => exact ⟨h.1, ih h.2 a (by simpa using hx)⟩
theorem crd_in {ns : List Nat} (h : ∀ d ∈ ns, 1 ≤ d) (i : Nat) : In ns (crd ns i) := by
  induction ns with
  | nil => trivial
  | cons d t ih => exact ⟨Nat.mod_lt _ (h d (by simp)), ih fun d hd => h d (by simp [hd])⟩
theorem fl_lt {ns cs : List Nat} (h : In ns cs) : fl ns cs < prod ns := by
  induction ns generalizing cs with
  | nil => cases cs with
    | nil => simp [fl, prod]
    | cons c u => exact h.elim
  | cons d t ih => cases cs with
    | nil => exact h.elim
    | cons c u =>
      have h1 := ih h.2
      have h2 : (c + 1) * prod t ≤ d * prod t := Nat.mul_le_mul_right _ h.1
      simp only [fl, prod]
      rw [Nat.add_mul] at h2
      omega
theorem crd_fl_at {ns cs : List Nat} (h : In ns cs) (a : Nat) : crd ns (a * prod ns + fl ns cs) = cs := by
  induction ns generalizing cs a with
  | nil => cases cs with
    | nil => rfl
    | cons c u => exact h.elim
  | cons d t ih => cases cs with
    | nil => exact h.elim
    | cons c u =>
      have h1 := fl_lt h.2
      have e : a * prod (d :: t) + fl (d :: t) (c :: u) = (a * d + c) * prod t + fl t u := by
        simp only [fl, prod]
        rw [Nat.add_mul, Nat.mul_assoc, Nat.add_assoc]
      rw [e]
      simp only [crd]
      rw [ih h.2]
      congr 1
      rw [Nat.mul_comm, Nat.mul_add_div (by omega), Nat.div_eq_of_lt h1, Nat.add_zero, Nat.mul_comm a d, Nat.mul_add_mod, Nat.mod_eq_of_lt h.1]
theorem crd_fl {ns cs : List Nat} (h : In ns cs) : crd ns (fl ns cs) = cs := by
  have := crd_fl_at h 0
  simpa using this
theorem fl_crd (ns : List Nat) (i : Nat) : fl ns (crd ns i) = i % prod ns := by
  induction ns with
  | nil => simp [fl, prod, Nat.mod_one]
  | cons d t ih =>
    simp only [fl, crd, prod]
    rw [ih, Nat.mul_comm d, Nat.mod_mul, Nat.mul_comm (prod t) (i / prod t % d)]
    omega
theorem fl_crd' {ns : List Nat} {i : Nat} (h : i < prod ns) : fl ns (crd ns i) = i := by
  rw [fl_crd, Nat.mod_eq_of_lt h]
theorem fl_set {ns cs : List Nat} (hl : cs.length = ns.length) (a x : Nat) (ha : a < ns.length) (h0 : cs.getD a 0 = 0) : fl ns (cs.set a x) = fl ns cs + x * prod (ns.drop (a + 1)) := by
  induction ns generalizing cs a with
  | nil => simp at ha
  | cons d t ih => cases cs with
    | nil => simp at hl
    | cons c u => cases a with
      | zero =>
        simp at h0
        subst h0
        simp [fl]
        omega
      | succ a =>
        have := ih (cs := u) (by simpa using hl) a (by simpa using ha) (by simpa using h0)
        simp only [List.set_cons_succ, fl, List.drop_succ_cons]
        omega
theorem fl_drop {ns cs : List Nat} (hl : cs.length = ns.length) (k : Nat) (h : k < ns.length) : fl (ns.drop k) (cs.drop k) = cs.getD k 0 * prod (ns.drop (k + 1)) + fl (ns.drop (k + 1)) (cs.drop (k + 1)) := by
  rw [List.drop_eq_getElem_cons h, List.drop_eq_getElem_cons (by omega : k < cs.length)]
  simp [fl, show k < cs.length by omega]
theorem fl_end {ns cs : List Nat} (k : Nat) (h : ns.length ≤ k) : fl (ns.drop k) (cs.drop k) = 0 := by
  rw [List.drop_eq_nil_of_le h]; simp [fl]
theorem horner {ns cs : List Nat} (hl : cs.length = ns.length) (k acc : Nat) (h : k < ns.length) :
    acc * prod (ns.drop k) + fl (ns.drop k) (cs.drop k) = (acc * ns.getD k 0 + cs.getD k 0) * prod (ns.drop (k + 1)) + fl (ns.drop (k + 1)) (cs.drop (k + 1)) := by
  rw [fl_drop hl k h, ← prod_drop ns k h, Nat.add_mul, Nat.mul_assoc, Nat.add_assoc]

/-- Coordinates that may not be. -/
def Out (ns : List Nat) (cs : List Int) : Prop := ∀ us, In ns us → cs ≠ ints us
theorem in_or (ns : List Nat) (cs : List Int) : (∃ us, In ns us ∧ cs = ints us) ∨ Out ns cs := by
  by_cases h : ∃ us, In ns us ∧ cs = ints us
  · exact .inl h
  · exact .inr fun us h1 h2 => h ⟨us, h1, h2⟩
theorem In.of {ns cs : List Nat} (hl : cs.length = ns.length) (h : ∀ k, k < ns.length → cs.getD k 0 < ns.getD k 0) : In ns cs := by
  induction ns generalizing cs with
  | nil => cases cs with
    | nil => trivial
    | cons c u => simp at hl
  | cons d t ih => cases cs with
    | nil => simp at hl
    | cons c u =>
      refine ⟨by simpa using h 0 (by simp), ih (by simpa using hl) fun k hk => ?_⟩
      simpa using h (k + 1) (by simpa using hk)
theorem Out.none {ns : List Nat} {cs : List Int} (h : Out ns cs) (hl : cs.length = ns.length) (hg : ∀ k, k < ns.length → 0 ≤ cs.getD k 0 ∧ cs.getD k 0 < (ns.getD k 0 : Nat)) : False := by
  have e : cs = ints (cs.map Int.toNat) := by
    apply List.ext_getElem
    · simp [ints]
    · intro k h1 h2
      have := (hg k (by omega)).1
      simp [h1] at this
      simp [ints]
      omega
  refine h (cs.map Int.toNat) (In.of (by simpa using hl) fun k hk => ?_) e
  have := hg k hk
  have h1 : k < cs.length := by omega
  simp [h1, hk] at this ⊢
  omega
theorem acc_lt {acc p d c q : Nat} (h : acc < p) (hc : c < d) (hq : p * d = q) : acc * d + c < q := by
  have : (acc + 1) * d ≤ p * d := Nat.mul_le_mul_right _ h
  rw [Nat.add_mul] at this
  omega

/-! Lines: I is how far two words stand apart, L how long the axis is. -/
def first (I L k : Nat) : Nat := k / I * I * L + k % I
/-- The line in which a place is. -/
def lnum (I L i : Nat) : Nat := i / I / L * I + i % I
section
variable {I L : Nat}
theorem first_add (k x : Nat) : first I L k + x * I = (k / I * L + x) * I + k % I := by
  unfold first
  rw [Nat.add_mul, Nat.mul_assoc (k / I) I L, Nat.mul_comm I L, ← Nat.mul_assoc]
  omega
theorem at_div (hI : 1 ≤ I) (k x : Nat) : (first I L k + x * I) / I = k / I * L + x := by
  rw [first_add, Nat.mul_comm, Nat.mul_add_div (by omega), Nat.div_eq_of_lt (Nat.mod_lt _ hI), Nat.add_zero]
theorem at_mod (k x : Nat) : (first I L k + x * I) % I = k % I := by
  rw [first_add, Nat.mul_comm, Nat.mul_add_mod, Nat.mod_mod]
theorem at_coord (hI : 1 ≤ I) {x : Nat} (hx : x < L) (k : Nat) : (first I L k + x * I) / I % L = x := by
  rw [at_div hI, Nat.mul_comm, Nat.mul_add_mod, Nat.mod_eq_of_lt hx]
theorem at_line (hI : 1 ≤ I) {x : Nat} (hx : x < L) (k : Nat) : lnum I L (first I L k + x * I) = k := by
  unfold lnum
  rw [at_div hI, at_mod, Nat.mul_comm (k / I) L, Nat.mul_add_div (by omega), Nat.div_eq_of_lt hx, Nat.add_zero, Nat.mul_comm]
  exact Nat.div_add_mod k I
theorem back (hI : 1 ≤ I) (i : Nat) : first I L (lnum I L i) + i / I % L * I = i := by
  have e1 : lnum I L i / I = i / I / L := by
    unfold lnum
    rw [Nat.mul_comm, Nat.mul_add_div (by omega), Nat.div_eq_of_lt (Nat.mod_lt _ hI), Nat.add_zero]
  have e2 : lnum I L i % I = i % I := by
    unfold lnum
    rw [Nat.mul_comm, Nat.mul_add_mod, Nat.mod_mod]
  rw [first_add, e1, e2, Nat.mul_comm (i / I / L) L, Nat.div_add_mod, Nat.mul_comm, Nat.div_add_mod]
theorem first_lt (hI : 1 ≤ I) (hL : 1 ≤ L) {k m : Nat} (h : k < m) : first I L k < first I L m := by
  have hk := Nat.div_add_mod k I
  have hm := Nat.div_add_mod m I
  have r1 : k % I < I := Nat.mod_lt _ hI
  have hd : k / I ≤ m / I := Nat.div_le_div_right (Nat.le_of_lt h)
  unfold first
  rcases Nat.lt_or_ge (k / I) (m / I) with h1 | h1
  · have h2 : (k / I + 1) * I * L ≤ m / I * I * L := Nat.mul_le_mul_right _ (Nat.mul_le_mul_right _ h1)
    have h3 : I ≤ I * L := Nat.le_mul_of_pos_right _ hL
    rw [Nat.add_mul, Nat.add_mul, Nat.one_mul] at h2
    omega
  · have e : k / I = m / I := by omega
    rw [e] at hk ⊢
    omega
theorem at_lt {O k x : Nat} (hk : k < O * I) (hx : x < L) : first I L k + x * I < O * (L * I) := by
  rw [first_add]
  have hI : 1 ≤ I := by
    rcases Nat.eq_zero_or_pos I with h | h
    · rw [h] at hk; omega
    · exact h
  have r1 : k % I < I := Nat.mod_lt _ hI
  have h1 : k / I < O := by rw [Nat.div_lt_iff_lt_mul hI]; exact hk
  have h2 : (k / I + 1) * L ≤ O * L := Nat.mul_le_mul_right _ h1
  rw [Nat.add_mul, Nat.one_mul] at h2
  have h3 : (k / I * L + x + 1) * I ≤ O * L * I := Nat.mul_le_mul_right _ (by omega)
  rw [Nat.add_mul, Nat.one_mul, Nat.mul_assoc O] at h3
  omega
theorem line_lt {O i : Nat} (hi : i < O * (L * I)) : lnum I L i < O * I := by
  unfold lnum
  have hI : 1 ≤ I := by
    rcases Nat.eq_zero_or_pos I with h | h
    · rw [h] at hi; simp at hi
    · exact h
  have r1 : i % I < I := Nat.mod_lt _ hI
  have h0 : 1 ≤ L := by
    rcases Nat.eq_zero_or_pos L with h | h
    · rw [h] at hi; simp at hi
    · exact h
  have h1 : i / I / L < O := by
    rw [Nat.div_lt_iff_lt_mul h0, Nat.div_lt_iff_lt_mul hI, Nat.mul_assoc]; exact hi
  have h2 : (i / I / L + 1) * I ≤ O * I := Nat.mul_le_mul_right _ h1
  rw [Nat.add_mul, Nat.one_mul] at h2
  omega
/-- So many lines have begun ahead of place i. -/
structure Seen (I L k i s : Nat) : Prop where
  le : s ≤ k
  there : i ≤ first I L s
  ahead : ∀ j, j < s → first I L j < i
theorem first_zero : first I L 0 = 0 := by simp [first]
theorem Seen.start (k : Nat) : Seen I L k 0 0 := ⟨Nat.zero_le _, Nat.zero_le _, fun j h => by omega⟩
theorem Seen.same {k i s : Nat} (hI : 1 ≤ I) (h : Seen I L k i s) (hn : i / I % L ≠ 0) (hL : 1 ≤ L) : Seen I L k (i + 1) s := by
  refine ⟨h.le, ?_, fun j hj => by have := h.ahead j hj; omega⟩
  have h0 := at_coord hI (L := L) (x := 0) hL s
  have := h.there
  rcases Nat.lt_or_ge i (first I L s) with h1 | h1
  · exact h1
  · have e : i = first I L s := by omega
    rw [Nat.zero_mul, Nat.add_zero, ← e] at h0
    exact absurd h0 hn
theorem Seen.found {k i s : Nat} (hI : 1 ≤ I) (hL : 1 ≤ L) (h : Seen I L k i s) (h0 : i / I % L = 0) : i = first I L s := by
  have hb := back hI (L := L) i
  rw [h0, Nat.zero_mul, Nat.add_zero] at hb
  rcases Nat.lt_or_ge (lnum I L i) s with h1 | h1
  · have := h.ahead _ h1; omega
  · rcases Nat.lt_or_ge s (lnum I L i) with h2 | h2
    · have := first_lt hI hL h2
      have := h.there
      omega
    · rw [show s = lnum I L i by omega]; exact hb.symm
theorem Seen.next {k i s : Nat} (hI : 1 ≤ I) (hL : 1 ≤ L) (h : Seen I L k i s) (h0 : i / I % L = 0) (hs : s < k) : Seen I L k (i + 1) (s + 1) := by
  have e := h.found hI hL h0
  have h1 := first_lt hI hL (Nat.lt_succ_self s)
  refine ⟨hs, by rw [e]; exact h1, fun j hj => ?_⟩
  rcases Nat.lt_or_ge j s with h2 | h2
  · have := h.ahead j h2; omega
  · obtain rfl : j = s := by omega
    omega
theorem Seen.lt {k i s n : Nat} (hI : 1 ≤ I) (hL : 1 ≤ L) (h : Seen I L k i s) (hn : first I L k < n) : i < n := by
  have h1 := h.there
  rcases Nat.lt_or_ge s k with h2 | h2
  · have := first_lt hI hL h2; omega
  · have := h.le
    obtain rfl : s = k := by omega
    omega
end

/-- The products of the axes ahead of one, and of those behind. -/
theorem parts (ns : List Nat) (a : Nat) (h : a < ns.length) : prod ns = prod (ns.take a) * (ns.getD a 0 * prod (ns.drop (a + 1))) := by
  rw [prod_drop ns a h, prod_split]
theorem parts_div {ns : List Nat} (ok : Ok ns) (a : Nat) (h : a < ns.length) : prod ns / ns.getD a 0 = prod (ns.take a) * prod (ns.drop (a + 1)) := by
  rw [parts ns a h, Nat.mul_left_comm, Nat.mul_div_cancel_left _ (ok.pos_at h)]

/-! An axis of length 1, put in anywhere. -/
theorem crd_append (a b : List Nat) (i : Nat) : crd (a ++ b) i = crd a (i / prod b) ++ crd b i := by
  induction a with
  | nil => rfl
  | cons d t ih =>
    simp only [List.cons_append, crd, ih]
    rw [prod_append, Nat.div_div_eq_div_mul, Nat.mul_comm (prod b)]
theorem crd_one (b : List Nat) (i : Nat) : crd (1 :: b) i = 0 :: crd b i := by simp [crd, Nat.mod_one]
def more (ns : List Nat) (k : Nat) : List Nat := ns.take k ++ 1 :: ns.drop k
theorem prod_more (ns : List Nat) (k : Nat) : prod (more ns k) = prod ns := by
  unfold more
  rw [prod_append, prod, Nat.one_mul, prod_split]
theorem more_len (ns : List Nat) (k : Nat) : (more ns k).length = ns.length + 1 := by
  simp [more]; omega
theorem Ok.more {ns : List Nat} (h : Ok ns) (h3 : ns.length ≤ 3) (k : Nat) : Ok (more ns k) := by
  refine ⟨by rw [more_len]; omega, by rw [more_len]; omega, fun d hd => ?_, by rw [prod_more]; exact h.le⟩
  unfold Sh.more at hd
  rcases List.mem_append.1 hd with hd | hd
  · exact h.pos d (List.mem_of_mem_take hd)
  · rcases List.mem_cons.1 hd with hd | hd
    · omega
    · exact h.pos d (List.mem_of_mem_drop hd)
theorem crd_more (ns : List Nat) (k i : Nat) : crd (more ns k) i = (crd ns i).take (min k ns.length) ++ 0 :: (crd ns i).drop (min k ns.length) := by
  unfold more
  have e : crd ns i = crd (ns.take k) (i / prod (ns.drop k)) ++ crd (ns.drop k) i := by rw [← crd_append, List.take_append_drop]
  have hl : (crd (ns.take k) (i / prod (ns.drop k))).length = min k ns.length := by rw [crd_len]; simp
  rw [crd_append, crd_one, e]
  rw [← hl, List.take_left, List.drop_left]
  simp [prod]
theorem No.put {ds : List Int} (h : No ds) (h1 : 1 ≤ ds.length) {k : Nat} (hk : k ≤ ds.length) : No (ds.take k ++ 1 :: ds.drop k) := by
  intro ns ok e
  have hl := congrArg List.length e
  rw [ints_len] at hl
  have ht : (ds.take k).length = k := by simp; omega
  rw [List.length_append, ht, List.length_cons, List.length_drop] at hl
  have e1 : ds.take k = ints (ns.take k) := by
    rw [← ints_take, ← e, List.take_left' ht]
  have e2 : 1 :: ds.drop k = ints (ns.drop k) := by
    rw [← ints_drop, ← e, List.drop_left' ht]
  have hc : ns.drop k = 1 :: ns.drop (k + 1) := by
    have hk' : k < ns.length := by omega
    rw [List.drop_eq_getElem_cons hk'] at e2 ⊢
    simp only [ints, List.map_cons, List.cons.injEq] at e2
    rw [show ns[k] = 1 by have := e2.1; omega]
  rw [hc] at e2
  have e3 : ds.drop k = ints (ns.drop (k + 1)) := by
    simp [ints] at e2 ⊢
    exact e2
  refine h (ns.take k ++ ns.drop (k + 1)) ⟨?_, ?_, fun d hd => ?_, ?_⟩ ?_
  · simp; omega
  · simp; have := ok.four; omega
  · rcases List.mem_append.1 hd with hd | hd
    · exact ok.pos d (List.mem_of_mem_take hd)
    · exact ok.pos d (List.mem_of_mem_drop hd)
  · have := prod_split ns k
    rw [hc, prod, Nat.one_mul] at this
    rw [prod_append, this]
    exact ok.le
  · rw [ints_append, ← e1, ← e3, List.take_append_drop]

end Go.Proofs.Ytpaaggmepaflcaa.Sh
