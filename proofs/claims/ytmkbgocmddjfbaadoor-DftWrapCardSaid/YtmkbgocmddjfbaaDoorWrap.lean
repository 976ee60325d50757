/-
  What dft.Wrap comes to, over every input: the product that goes around of XMathDft.
-/
import Derived.Test.YtmkbgocmddjfbaaDoorDft
import Derived.Test.YtmkbgocmddjfbaaDoorQuietTail
namespace Go.Proofs.YtmkbgocmddjfbaaDoor
open Go.RowKit Go.Shelf

/-- A row of n places at block g that holds f. -/
def RowAt (k : IntKind) (e : TypeId) (wr : World) (base g n : Nat) (f : Nat → Int) : Prop := Owns k e wr base (.slice (some ⟨g, 0, none⟩) n n) ((List.range n).map f)
section
variable {k : IntKind} {e : TypeId} {wr : World} {base g n : Nat} {f f' : Nat → Int}
theorem RowAt.half (h : RowAt k e wr base g n f) (f1 : Nat → Int) : Half k e wr base g n f1 f 0 := by unfold Half; rw [mixed_zero]; exact h
theorem RowAt.cell (h : RowAt k e wr base g n f) (j : Nat) (hj : j < n) : wr.cell? ⟨g, j, none⟩ = some (.int k (f j)) := by
  have := (h.half f).cell j hj
  rwa [if_neg (by omega)] at this
theorem RowAt.frozen (h : RowAt k e wr base g n f) (j : Nat) : wr.frozen? ⟨g, j, none⟩ = false := (h.half f).frozen j
theorem RowAt.lt (h : RowAt k e wr base g n f) : base ≤ g ∧ g < wr.heap.size := (h.half f).lt
theorem RowAt.draws (h : RowAt k e wr base g n f) (m : Nat) : RowAt k e (wr.drewN m) base g n f := h
theorem RowAt.congr (h : RowAt k e wr base g n f) (hf : ∀ t, t < n → f t = f' t) : RowAt k e wr base g n f' := by
  unfold RowAt at *
  rwa [List.map_congr_left (fun t ht => hf t (List.mem_range.1 ht))] at h
theorem RowAt.set (h : RowAt k e wr base g n f) (t0 : Nat) (hf : ∀ t, t < n → t ≠ t0 → f' t = f t) : RowAt k e (wr.setCell ⟨g, t0, none⟩ (.int k (f' t0))) base g n f' := by
  have := (World.ownsRow.stored (h.half f).own t0 (.int k (f' t0))).1
  rw [map_set, mixed_zero] at this
  have e1 : ((List.range n).map f).set t0 (f' t0) = (List.range n).map f' := by
    apply List.ext_getElem?
    intro j
    rw [List.getElem?_set]
    by_cases hj : j < n
    · by_cases e : t0 = j
      · subst e; simp [hj]
      · simp [hj, e, hf j hj (Ne.symm e)]
    · by_cases e : t0 = j
      · subst e; simp [hj]
      · simp [hj, e]
  rw [e1] at this
  unfold RowAt Owns
  rw [List.length_map, List.length_range]
  exact this
theorem RowAt.start (h : wr.ownsRow base e 1 (.slice (some ⟨g, 0, none⟩) n n) n (madeCells (Value.int k 0).cells (n * 1)).toList) : RowAt k e wr base g n (fun _ => 0) := by
  have := Half.start (f := fun _ => 0) h
  unfold Half at this
  rwa [mixed_zero] at this
theorem RowAt.mono {base' : Nat} (h : RowAt k e wr base g n f) (hb : base' ≤ base) : RowAt k e wr base' g n f := Owns.mono h hb
end

namespace Fp
/-- What word i of a and word j of b bring to place t. -/
def cf (neg : Bool) (n : Nat) (a b : Nat → Int) (i j t : Nat) : Int := if (i + j) % n = t then sg neg n i j * (a i * b j) else 0
/-- Place t when i words of a have been taken with all of b, and the next one with j of b. -/
def acc (p : Int) (neg : Bool) (n : Nat) (a b : Nat → Int) (i j t : Nat) : Int := (sum (fun i' => sum (fun j' => cf neg n a b i' j' t) n) i + sum (fun j' => cf neg n a b i j' t) j) % p
theorem acc_start (p : Int) (neg : Bool) (n : Nat) (a b : Nat → Int) (t : Nat) : acc p neg n a b 0 0 t = 0 := by simp [acc, sum]
theorem acc_turn (p : Int) (neg : Bool) (n : Nat) (a b : Nat → Int) (i t : Nat) : acc p neg n a b i n t = acc p neg n a b (i + 1) 0 t := by simp [acc, sum]
theorem acc_end (p : Int) (neg : Bool) (n : Nat) (a b : Nat → Int) (t : Nat) : acc p neg n a b n 0 t = wr neg n a b t % p := by simp [acc, sum, wr, cf]
theorem acc_else (p : Int) (neg : Bool) (n : Nat) (a b : Nat → Int) (i j t : Nat) (h : (i + j) % n ≠ t) : acc p neg n a b i (j + 1) t = acc p neg n a b i j t := by simp [acc, sum, cf, h]
theorem acc_here (p : Int) (neg : Bool) (n : Nat) (a b : Nat → Int) (i j : Nat) : acc p neg n a b i (j + 1) ((i + j) % n) = (acc p neg n a b i j ((i + j) % n) + sg neg n i j * (a i * b j)) % p := by
  have e : cf neg n a b i j ((i + j) % n) = sg neg n i j * (a i * b j) := by simp [cf]
  show (_ + (_ + cf neg n a b i j ((i + j) % n))) % p = _
  rw [e, ← Int.add_assoc]
  unfold acc
  rw [Int.emod_add_emod]
theorem neg_kn {p : Int} (a : Int) (h : kn p = true) : neg p a = (-a) % p := by unfold neg sub; rw [if_pos h, Int.zero_sub]
theorem acc_plus {p : Int} (h : kn p = true) (ng : Bool) (n : Nat) (a b : Nat → Int) (i j : Nat) (hs : ¬ (ng = true ∧ n ≤ i + j)) : add p (acc p ng n a b i j ((i + j) % n)) (mul p (a i) (b j)) = acc p ng n a b i (j + 1) ((i + j) % n) := by
  have e : sg ng n i j = 1 := by unfold sg; rw [if_neg hs]
  rw [acc_here, e, Int.one_mul, add_kn h, mul_kn _ _ h, Int.add_emod_emod]
theorem acc_minus {p : Int} (h : kn p = true) (ng : Bool) (n : Nat) (a b : Nat → Int) (i j : Nat) (hs : ng = true ∧ n ≤ i + j) : add p (acc p ng n a b i j ((i + j) % n)) (neg p (mul p (a i) (b j))) = acc p ng n a b i (j + 1) ((i + j) % n) := by
  have e : sg ng n i j = -1 := by unfold sg; rw [if_pos hs]
  rw [acc_here, e, add_kn h, neg_kn _ h, mul_kn _ _ h, Int.add_emod_emod]
  have : eqm p (-(a i * b j % p)) (-1 * (a i * b j)) := by
    rw [Int.neg_mul, Int.one_mul]
    exact (eqm_md p _).neg
  exact (eqm.rfl (p := p) (a := acc p ng n a b i j ((i + j) % n))).add this
theorem acc_bd {p : Int} (h : kn p = true) (ng : Bool) (n : Nat) (a b : Nat → Int) (i j t : Nat) : 0 ≤ acc p ng n a b i j t ∧ acc p ng n a b i j t < 18446744073709551616 := by
  obtain ⟨h1, _, h2⟩ := mod_bd h (sum (fun i' => sum (fun j' => cf ng n a b i' j' t) n) i + sum (fun j' => cf ng n a b i j' t) j)
  exact ⟨h1, h2⟩
end Fp

/-- What is wrong with two lines whose product is asked for; and the product, word by word. -/
def wrapE (p : Int) (xs ys : List Int) (neg : Bool) : Int := if lineE p xs neg ≠ 0 then lineE p xs neg else if lineE p ys neg ≠ 0 then lineE p ys neg else if xs.length ≠ ys.length then 6 else 0
def wrpN (p : Int) (xs ys : List Int) (neg : Bool) (t : Nat) : Int := Fp.wr neg xs.length (nth xs) (nth ys) t % p
def wrp (p : Int) (xs ys : List Int) (neg : Bool) : List Int := if wrapE p xs ys neg = 0 then (List.range xs.length).map (wrpN p xs ys neg) else []
theorem wrapE_cases (p : Int) (xs ys : List Int) (neg : Bool) : wrapE p xs ys neg = lineE p xs neg ∧ lineE p xs neg ≠ 0 ∨ wrapE p xs ys neg = lineE p ys neg ∧ lineE p xs neg = 0 ∧ lineE p ys neg ≠ 0 ∨
    wrapE p xs ys neg = 6 ∧ lineE p xs neg = 0 ∧ lineE p ys neg = 0 ∧ xs.length ≠ ys.length ∨ wrapE p xs ys neg = 0 ∧ lineE p xs neg = 0 ∧ lineE p ys neg = 0 ∧ xs.length = ys.length := by
  unfold wrapE
  by_cases h1 : lineE p xs neg = 0
  · by_cases h2 : lineE p ys neg = 0
    · by_cases h3 : xs.length = ys.length
      · simp [h1, h2, h3]
      · simp [h1, h2, h3]
    · simp [h1, h2]
  · simp [h1]
theorem eq_of_bne {a : Int} (h : a = 0) : (a != 0) = false := by rw [h]; rfl

set_option maxHeartbeats 4000000 in
theorem wrap_any (p : Int) (x y : Option Addr) (n m cap cap' : Nat) (xs ys : List Int) (neg : Bool) (w : World) (hG : Gl w) (hx : Reads .u64 w w.heap.size x xs) (hy : Reads .u64 w w.heap.size y ys) (hn : xs.length = n) (hm : ys.length = m)
    (hw : Words xs) (hw' : Words ys) (hl : n ≤ maxLen) (hl' : m ≤ maxLen) :
    Calls Tryd.prog 12 #[.int .u64 p, .slice x n cap, .slice y m cap', .bool neg] w (LineRet w (wrp p xs ys neg) (wrapE p xs ys neg)) := by
  subst hn
  subst hm
  have HC1 := Lib.hid (lcheck_any p x xs.length cap xs neg w hG hx rfl hl)
  have HC2 := Lib.hid (fun W (hB : Below w.heap.size w W) => lcheck_any p y ys.length cap' ys neg W (hG.below hG.lt hB) ((hy.below hB).more hB.size) rfl hl')
  unfold wrp
  rcases wrapE_cases p xs ys neg with ⟨hE, h1⟩ | ⟨hE, h1, h2⟩ | ⟨hE, h1, h2, h3⟩ | ⟨hE, h1, h2, h3⟩
  · rw [hE, if_neg h1]
    have t := ne_of_bne h1
    clear hE h1 hG hx hy hw hw' hl hl'
    go_enter Tryd.func12, Tryd.ntmps12
    go_wp2_with (go_at_call 15; refine HC1.out.mono ?_; rintro e w1 ⟨rfl, hB1⟩)
    go_ret2
    exact ⟨_, rfl, Owns.nil, hB1⟩
  · rw [hE, if_neg h2]
    have t := ne_of_bne h2
    rw [h1] at HC1
    clear hE h1 h2 hG hx hy hw hw' hl hl'
    go_enter Tryd.func12, Tryd.ntmps12
    go_wp2_with (first
      | (go_at_call_of 15 (Value.slice x xs.length cap); refine HC1.out.mono ?_; rintro e w1 ⟨rfl, hB1⟩)
      | (go_at_call 15; refine (HC2.out _ hB1).mono ?_; rintro e w2 ⟨rfl, hB2⟩))
    go_ret2
    exact ⟨_, rfl, Owns.nil, hB1.trans (hB2.mono hB1.size)⟩
  · rw [hE, if_neg (by omega)]
    rw [h1] at HC1
    rw [h2] at HC2
    have t : ((xs.length : Int) != (ys.length : Int)) = true := by rw [bne_iff_ne]; omega
    clear hE h1 h2 h3 hG hx hy hw hw' hl hl'
    go_enter Tryd.func12, Tryd.ntmps12
    go_wp2_with (first
      | (go_at_call_of 15 (Value.slice x xs.length cap); refine HC1.out.mono ?_; rintro e w1 ⟨rfl, hB1⟩)
      | (go_at_call 15; refine (HC2.out _ hB1).mono ?_; rintro e w2 ⟨rfl, hB2⟩))
    go_ret2
    exact ⟨_, rfl, Owns.nil, hB1.trans (hB2.mono hB1.size)⟩
  · rw [hE, if_pos rfl]
    rw [h1] at HC1
    rw [h2] at HC2
    have hL := lineE_zero h1
    obtain ⟨l1, l2⟩ := hL.len
    have H := Lib.hid hL.kn
    have t : ((xs.length : Int) != (ys.length : Int)) = false := by rw [h3]; simp
    have HX := Lib.hid hx
    have HY := Lib.hid hy
    have HW := Lib.hid hw
    have HW' := Lib.hid hw'
    obtain ⟨i0, hi, hz0, hz1, hz2⟩ := info_parts info_u64
    have HZ2 := Lib.hid hz2
    have hmx : Tryd.prog.follows .mixedOrders = true := by kernel_rfl
    have hn0 : (xs.length : Int) ≠ 0 := by omega
    rw [← h3] at HC2 t ⊢
    have HY3 := Lib.hid h3
    clear hE h1 h2 h3 hG hx hy hw hw' hl hl' hL hz2
    go_enter Tryd.func12, Tryd.ntmps12
    go_wp2_with (first
      | (go_at_call_of 15 (Value.slice x xs.length cap); refine HC1.out.mono ?_; rintro e w1 ⟨rfl, hB1⟩)
      | (go_at_call 15; refine (HC2.out _ hB1).mono ?_; rintro e w2 ⟨rfl, hB2⟩)
      | (at_make; refine wpList_make_full _ rfl _ _ 23 rfl w2.heap.size 22 i0 (.int .u64 0) 1 Tryd.underlying23 hi hz0 hz1 .i64 .i64 _ _ xs.length rfl rfl rfl rfl (by rw [HZ2.out]; omega) (by unfold maxLen; omega) (Nat.le_refl _) ?_; intro w3 hown hgrow))
    have hB0 := hB1.trans (hB2.mono hB1.size)
    have hst : RowAt .u64 22 w3 w.heap.size w2.heap.size xs.length (Fp.acc p neg xs.length (nth xs) (nth ys) 0 0) := ((RowAt.start hown).mono hB0.size).congr (fun t _ => (Fp.acc_start _ _ _ _ _ _).symm)
    have hbl := hB0.trans (((Below.refl w2.heap.size w2).grown hgrow (Nat.le_refl _) (fun k e => by cases e)).mono hB0.size)
    obtain ⟨g, hg⟩ : ∃ g, g = w2.heap.size := ⟨_, rfl⟩
    rw [← hg] at hst ⊢
    clear hown hgrow hi hz0 hz1 HC1 HC2 hB1 hB2 hB0 hg
    go_loopw [45] (fun i wr => ∃ i' : Nat, i' ≤ xs.length ∧ i = .int .i64 (i' : Int) ∧ RowAt .u64 22 wr w.heap.size g xs.length (Fp.acc p neg xs.length (nth xs) (nth ys) i' 0) ∧ Below w.heap.size w wr) (fun i _ => xs.length - (intOf i).toNat)
    case atStart => exact ⟨0, Nat.zero_le _, rfl, hst, hbl⟩
    case round =>
      obtain ⟨i, hi, rfl, hP, hB⟩ := hrel
      clear hst hbl
      by_cases hlt : i < xs.length
      · have hdi : decide (i < xs.length) = true := by simpa using hlt
        obtain ⟨b, off, rfl, hb, hcx⟩ := HX.out (by omega)
        have hx1 := (hB.cell (p := ⟨b, off + i, none⟩) hb).trans (hcx i hlt)
        obtain ⟨u0, u1⟩ := HW.out i
        obtain ⟨u, hu⟩ : ∃ u, u = xs.getD i 0 := ⟨_, rfl⟩
        rw [← hu] at hx1 u0 u1
        have HU : Hid (u = nth xs i) := Lib.hid hu
        have HP := Lib.hid hP
        have HB := Lib.hid hB
        clear hP hB hcx hu
        go_wp2
        go_loopw [52] (fun j wi => ∃ j' : Nat, j' ≤ xs.length ∧ j = .int .i64 (j' : Int) ∧ RowAt .u64 22 wi w.heap.size g xs.length (Fp.acc p neg xs.length (nth xs) (nth ys) i j') ∧ Below w.heap.size w wi) (fun j _ => xs.length - (intOf j).toNat)
        case atStart => exact ⟨0, Nat.zero_le _, rfl, HP.out, HB.out⟩
        case round =>
          clear HP HB hx1
          obtain ⟨j, hj, rfl, hP, hB⟩ := hrel
          by_cases hlm : j < xs.length
          · have hdm : decide (j < xs.length) = true := by simpa using hlm
            obtain ⟨b', off', rfl, hb', hcy⟩ := HY.out (by have := HY3.out; omega)
            have hy1 := (hB.cell (p := ⟨b', off' + j, none⟩) hb').trans (hcy j (by have := HY3.out; omega))
            obtain ⟨v0, v1⟩ := HW'.out j
            obtain ⟨v, hv⟩ : ∃ v, v = ys.getD j 0 := ⟨_, rfl⟩
            rw [← hv] at hy1 v0 v1
            have HV : Hid (v = nth ys j) := Lib.hid hv
            obtain ⟨s, hs⟩ : ∃ s, s = i + j := ⟨_, rfl⟩
            have hsc : (i : Int) + (j : Int) = (s : Int) := by omega
            obtain ⟨t0, ht⟩ : ∃ t0, t0 = s % xs.length := ⟨_, rfl⟩
            have hct : (s : Int) % (xs.length : Int) = (t0 : Int) := by rw [ht]; exact cast_mod s xs.length
            have htl : t0 < xs.length := by rw [ht]; exact Nat.mod_lt _ (by omega)
            have hc := hP.cell t0 htl
            have hf := hP.frozen t0
            have hg := hP.lt
            obtain ⟨a0, a1⟩ := Fp.acc_bd H.out neg xs.length (nth xs) (nth ys) i j t0
            have HE : Hid (∀ z, z = Fp.acc p neg xs.length (nth xs) (nth ys) i (j + 1) t0 → ∀ q, RowAt .u64 22 ((wr.drewN q).setCell ⟨g, t0, none⟩ (.int .u64 z)) w.heap.size g xs.length (Fp.acc p neg xs.length (nth xs) (nth ys) i (j + 1)) ∧ Below w.heap.size w ((wr.drewN q).setCell ⟨g, t0, none⟩ (.int .u64 z))) := Lib.hid (by
              rintro z rfl q
              refine ⟨(hP.draws q).set t0 (fun t _ hne => Fp.acc_else _ _ _ _ _ _ _ _ (by rw [← hs, ← ht]; exact Ne.symm hne)), (below_draws hB q).setCell (p := ⟨g, t0, none⟩) hg.1 _⟩)
            have HT : Hid (t0 = (i + j) % xs.length) := Lib.hid (by rw [ht, hs])
            have HSS := Lib.hid hs
            obtain ⟨av, hav⟩ : ∃ av, av = Fp.acc p neg xs.length (nth xs) (nth ys) i j t0 := ⟨_, rfl⟩
            rw [← hav] at hc a0 a1
            have HA := Lib.hid hav
            obtain ⟨g0, g1⟩ := hg
            clear hP hB hcy hv hs ht hav
            obtain ⟨z0, z1, -⟩ := Fp.mul_bd p u v
            obtain ⟨y0, y1, -⟩ := Fp.neg_bd p (Fp.mul p u v)
            have hss : s ≤ 8192 := by have := HSS.out; omega
            by_cases hcase : neg = true ∧ xs.length ≤ s
            · have HZ : Hid (Fp.add p av (Fp.neg p (Fp.mul p u v)) = Fp.acc p neg xs.length (nth xs) (nth ys) i (j + 1) t0) := Lib.hid (by
                rw [HA.out, HT.out, HU.out, HV.out]
                exact Fp.acc_minus H.out neg xs.length (nth xs) (nth ys) i j ⟨hcase.1, by have := HSS.out; omega⟩)
              obtain ⟨rfl, hcs⟩ := hcase
              have hdc : decide (xs.length ≤ s) = true := by simpa using hcs
              go_wp2_with (first
                | (go_at_call 19; refine (mul_any _ _ _ _ (by omega) (by omega) (by omega) (by omega)).mono ?_; rintro e w' ⟨rfl, nm, rfl⟩)
                | (go_at_call 35; refine (neg_any _ _ _ (by omega) (by omega)).mono ?_; rintro e w' ⟨rfl, nn, rfl⟩))
              obtain ⟨W0, hW0⟩ : ∃ W0, W0 = wr.drewN (nm + nn) := ⟨_, rfl⟩
              rw [← hW0]
              have hc0 : W0.cell? ⟨g, t0, none⟩ = some (.int .u64 av) := by rw [hW0]; exact hc
              have hf0 : W0.frozen? ⟨g, t0, none⟩ = false := by rw [hW0]; exact hf
              have hg0 : g < W0.heap.size := by rw [hW0]; exact g1
              have HW0 := Lib.hid hW0
              clear hW0 hc hf
              refine region_quiet_tail 14 hmx (by kernel_rfl) ?_
              simp only [List.take_succ_cons, List.take_zero, List.drop_succ_cons, List.drop_zero]
              repeat (first | go_big_quiet_step ((go_at_call 18; exact Calls.quiet_of (add_any _ _ _ _ (by omega) (by omega) (by omega) (by omega)))) | quiet_step ((go_at_call 18; exact Calls.quiet_of (add_any _ _ _ _ (by omega) (by omega) (by omega) (by omega)))))
              refine wpQuiet_nil ?_
              rintro w' ⟨nq, rfl⟩
              go_wp2
              go_roundw
              case rel => exact ⟨j + 1, by omega, by go_num, by rw [HW0.out, World.drewN_drewN]; exact HE.out _ HZ.out _⟩
              case measure => simp [intOf]; omega
            · have HZ : Hid (Fp.add p av (Fp.mul p u v) = Fp.acc p neg xs.length (nth xs) (nth ys) i (j + 1) t0) := Lib.hid (by
                rw [HA.out, HT.out, HU.out, HV.out]
                exact Fp.acc_plus H.out neg xs.length (nth xs) (nth ys) i j (by have := HSS.out; rw [← this]; exact hcase))
              by_cases hcs : xs.length ≤ s
              · have hdc : decide (xs.length ≤ s) = true := by simpa using hcs
                obtain rfl : neg = false := by
                  cases neg with
                  | false => rfl
                  | true => exact absurd ⟨rfl, hcs⟩ hcase
                clear hcase
                go_wp2_with (go_at_call 19; refine (mul_any _ _ _ _ (by omega) (by omega) (by omega) (by omega)).mono ?_; rintro e w' ⟨rfl, nm, rfl⟩)
                obtain ⟨W0, hW0⟩ : ∃ W0, W0 = wr.drewN nm := ⟨_, rfl⟩
                rw [← hW0]
                have hc0 : W0.cell? ⟨g, t0, none⟩ = some (.int .u64 av) := by rw [hW0]; exact hc
                have hf0 : W0.frozen? ⟨g, t0, none⟩ = false := by rw [hW0]; exact hf
                have hg0 : g < W0.heap.size := by rw [hW0]; exact g1
                have HW0 := Lib.hid hW0
                clear hW0 hc hf
                refine region_quiet_tail 14 hmx (by kernel_rfl) ?_
                simp only [List.take_succ_cons, List.take_zero, List.drop_succ_cons, List.drop_zero]
                repeat (first | go_big_quiet_step ((go_at_call 18; exact Calls.quiet_of (add_any _ _ _ _ (by omega) (by omega) (by omega) (by omega)))) | quiet_step ((go_at_call 18; exact Calls.quiet_of (add_any _ _ _ _ (by omega) (by omega) (by omega) (by omega)))))
                refine wpQuiet_nil ?_
                rintro w' ⟨nq, rfl⟩
                go_wp2
                go_roundw
                case rel => exact ⟨j + 1, by omega, by go_num, by rw [HW0.out, World.drewN_drewN]; exact HE.out _ HZ.out _⟩
                case measure => simp [intOf]; omega
              · have hdc : decide (xs.length ≤ s) = false := by simpa using hcs
                clear hcase
                go_wp2_with (go_at_call 19; refine (mul_any _ _ _ _ (by omega) (by omega) (by omega) (by omega)).mono ?_; rintro e w' ⟨rfl, nm, rfl⟩)
                obtain ⟨W0, hW0⟩ : ∃ W0, W0 = wr.drewN nm := ⟨_, rfl⟩
                rw [← hW0]
                have hc0 : W0.cell? ⟨g, t0, none⟩ = some (.int .u64 av) := by rw [hW0]; exact hc
                have hf0 : W0.frozen? ⟨g, t0, none⟩ = false := by rw [hW0]; exact hf
                have hg0 : g < W0.heap.size := by rw [hW0]; exact g1
                have HW0 := Lib.hid hW0
                clear hW0 hc hf
                refine region_quiet_tail 14 hmx (by kernel_rfl) ?_
                simp only [List.take_succ_cons, List.take_zero, List.drop_succ_cons, List.drop_zero]
                repeat (first | go_big_quiet_step ((go_at_call 18; exact Calls.quiet_of (add_any _ _ _ _ (by omega) (by omega) (by omega) (by omega)))) | quiet_step ((go_at_call 18; exact Calls.quiet_of (add_any _ _ _ _ (by omega) (by omega) (by omega) (by omega)))))
                refine wpQuiet_nil ?_
                rintro w' ⟨nq, rfl⟩
                go_wp2
                go_roundw
                case rel => exact ⟨j + 1, by omega, by go_num, by rw [HW0.out, World.drewN_drewN]; exact HE.out _ HZ.out _⟩
                case measure => simp [intOf]; omega
          · obtain rfl : j = xs.length := by omega
            have hR := hP.congr (fun t _ => Fp.acc_turn p neg xs.length (nth xs) (nth ys) i t)
            clear hP
            go_wp2
            go_roundw
            case rel => exact ⟨i + 1, by omega, by go_num, hR, hB⟩
            case measure => simp [intOf]; omega
      · obtain rfl : i = xs.length := by omega
        have hR : LineRet w ((List.range xs.length).map (wrpN p xs ys neg)) 0 (.returned (.tuple #[.slice (some ⟨g, 0, none⟩) xs.length xs.length, .int .i64 0])) wr := ⟨_, rfl, hP.congr (fun t _ => Fp.acc_end _ _ _ _ _ _), hB⟩
        clear hP hB
        go_wp2
        go_ret2
        exact hR

end Go.Proofs.YtmkbgocmddjfbaaDoor
