/-
  What Forward and Inverse of package dft come to, over every input: the sums of XMathDft.
-/
import Derived.Test.YtmcnamlgbkbiaaaDoorPowersOf
import Derived.Test.YtmcnamlgbkbiaaaDoorRefInv
import Derived.Laws.EntriesVeiled
namespace Go.Proofs.YtmcnamlgbkbiaaaDoor
open Go.RowKit Go.Shelf

/-- A list's words by their places. -/
def nth (xs : List Int) (j : Nat) : Int := xs.getD j 0
/-- The root of a line, and what undoes it. -/
def rtl (p : Int) (neg : Bool) (n : Nat) : Int := Fp.rt p (Fp.od neg n)
def bkl (p : Int) (neg : Bool) (n : Nat) : Int := Fp.inv p (rtl p neg n)
/-- A line transformed, and back, word by word. -/
def fwdN (p : Int) (xs : List Int) (neg : Bool) (k : Nat) : Int := Fp.fw (rtl p neg xs.length) neg xs.length (nth xs) k % p
def bwdN (p : Int) (xs : List Int) (neg : Bool) (j : Nat) : Int := Fp.mul p (Fp.bw (bkl p neg xs.length) neg xs.length (nth xs) j % p) (Fp.inv p xs.length)
def fwd (p : Int) (xs : List Int) (neg : Bool) : List Int := if lineE p xs neg = 0 then (List.range xs.length).map (fwdN p xs neg) else []
def bwd (p : Int) (xs : List Int) (neg : Bool) : List Int := if lineE p xs neg = 0 then (List.range xs.length).map (bwdN p xs neg) else []

/-- A list in memory of its own, and an error's number. -/
def LineRet (w : World) (xs : List Int) (er : Int) (e : Ending) (w' : World) : Prop := ∃ v, e = .returned (.tuple #[v, .int .i64 er]) ∧ Owns .u64 22 w' w.heap.size v xs ∧ Below w.heap.size w w'

theorem Line.turns {p : Int} {xs : List Int} {neg : Bool} (h : Line p xs neg) : Fp.Turns p (rtl p neg xs.length) (bkl p neg xs.length) (Fp.od neg xs.length) := by
  obtain ⟨h1, h2⟩ := h.len
  obtain ⟨o1, o2⟩ := Fp.od_bd neg h1 h2
  have hd := rt_dvd h.kn (n := ((Fp.od neg xs.length : Nat) : Int)) (by omega) h.dvd
  rw [Int.toNat_natCast] at hd
  exact Fp.rt_turns h.kn hd (by omega)

namespace Fp
theorem turns_mod {p w v : Int} {N : Nat} (h : Turns p w v N) (m : Nat) : eqm p (pw p w (m % N)) (w ^ m) := by
  rw [pw_kn _ _ h.kn]
  refine (eqm_md p _).trans ?_
  have e : w ^ m = w ^ (N * (m / N)) * w ^ (m % N) := by rw [← Int.pow_add, Nat.div_add_mod]
  rw [e]
  have := ((h.pw (N * (m / N))).2 (Nat.dvd_mul_right _ _)).mul (eqm.rfl (p := p) (a := w ^ (m % N)))
  rw [Int.one_mul] at this
  exact this.symm
end Fp
theorem summed_fw {p : Int} {xs : List Int} {neg : Bool} {r v : Int} (h : Fp.Turns p r v (Fp.od neg xs.length)) (k : Nat) :
    summed p xs (gof p r neg xs.length) k = Fp.fw r neg xs.length (nth xs) k % p :=
  Fp.sum_mod fun _ _ => Fp.eqm.rfl.mul (Fp.turns_mod h _)
theorem summed_bw {p : Int} {xs : List Int} {neg : Bool} {r v : Int} (h : Fp.Turns p r v (Fp.od neg xs.length)) (j : Nat) :
    summed p xs (fun k j => gof p r neg xs.length j k) j = Fp.bw r neg xs.length (nth xs) j % p :=
  Fp.sum_mod fun _ _ => Fp.eqm.rfl.mul (Fp.turns_mod h _)

theorem ne_of_bne {a : Int} (h : a ≠ 0) : (a != 0) = true := by rw [bne_iff_ne]; exact h

set_option maxHeartbeats 1000000 in
theorem forward_any (p : Int) (x : Option Addr) (n cap : Nat) (xs : List Int) (neg : Bool) (w : World) (hG : Gl w) (hx : Reads .u64 w w.heap.size x xs) (hn : xs.length = n) (hw : Words xs) (hl : n ≤ maxLen) :
    Calls Tryd.prog 21 #[.int .u64 p, .slice x n cap, .bool neg] w (LineRet w (fwd p xs neg) (lineE p xs neg)) := by
  subst hn
  have HCk := Lib.hid (lcheck_any p x xs.length cap xs neg w hG hx rfl hl)
  by_cases hE : lineE p xs neg = 0
  · have h := lineE_zero hE
    unfold fwd
    rw [hE, if_pos rfl]
    rw [hE] at HCk
    obtain ⟨h1, h2⟩ := h.len
    obtain ⟨o1, o2⟩ := Fp.od_bd neg h1 h2
    have HO := Lib.hid (fun W => orderOf_any xs.length neg W h2)
    have HR := Lib.hid (fun W (hG' : Gl W) => root_any p ((Fp.od neg xs.length : Nat) : Int) W hG' (by omega))
    unfold rootN at HR
    rw [h.rootE, if_pos rfl, Int.toNat_natCast] at HR
    obtain ⟨r0, r1, -⟩ := Fp.rt_bd p (Fp.od neg xs.length)
    have HP := Lib.hid (fun W => powersOf_any p (Fp.rt p (Fp.od neg xs.length)) xs.length neg W h.kn r0 (by omega) h1 h2)
    have HS := Lib.hid (fun W v (hx : Reads .u64 W W.heap.size x xs) (hT : Tells W v xs.length (gof p (Fp.rt p (Fp.od neg xs.length)) neg xs.length)) => sums_any p x xs.length cap xs v _ W h.kn hx rfl hw (by omega) hT (gof_bd _ _ _ _))
    have HF : Hid (∀ k, summed p xs (gof p (Fp.rt p (Fp.od neg xs.length)) neg xs.length) k = fwdN p xs neg k) := Lib.hid (fun k => summed_fw h.turns k)
    have HG := Lib.hid hG
    have HX := Lib.hid hx
    have hle : xs.length ≤ 4096 := h2
    generalize Fp.rt p (Fp.od neg xs.length) = r at HR HP HS HF
    generalize Fp.od neg xs.length = o at HO HR
    clear hE h hG hx hw hl h1 h2 r0 r1 o1 o2
    go_enter Tryd.func21, Tryd.ntmps21
    go_wp2_with (first
      | (go_at_call 37; refine HCk.out.mono ?_; rintro e w1 ⟨rfl, hB1⟩)
      | (go_at_call 39; refine (HO.out _).mono ?_; rintro e w' ⟨rfl, rfl⟩)
      | (go_at_call 38; refine (HR.out _ (HG.out.below HG.out.lt hB1)).mono ?_; rintro e w2 ⟨rfl, hB2⟩)
      | (go_at_call 41; refine (HP.out _).mono ?_; rintro e w3 ⟨v, rfl, hT, hB3⟩; have HB : Hid (Below w.heap.size w w3) := Lib.hid ((hB1.trans (hB2.mono hB1.size)).trans (hB3.mono (Nat.le_trans hB1.size hB2.size))); have HT := Lib.hid hT; clear hT)
      | (go_at_call 40; refine (HS.out _ _ ((HX.out.below HB.out).more HB.out.size) HT.out).mono ?_; rintro e w4 ⟨b, rfl, hH, hB4⟩))
    go_ret2
    have hA := hH.all
    rw [List.map_congr_left (fun k _ => HF.out k)] at hA
    exact ⟨_, rfl, hA.mono HB.out.size, HB.out.trans (hB4.mono HB.out.size)⟩
  · unfold fwd
    rw [if_neg hE]
    have t := ne_of_bne hE
    clear hE hG hx hw hl
    go_enter Tryd.func21, Tryd.ntmps21
    go_wp2_with (go_at_call 37; refine HCk.out.mono ?_; rintro e w1 ⟨rfl, hB1⟩)
    go_ret2
    exact ⟨_, rfl, Owns.nil, hB1⟩

theorem Tells.form {w : World} {v : Value} {n : Nat} {g : Nat → Nat → Int} (h : Tells w v n g) : ∃ fid lb, v = .func (.func fid) #[] lb := by
  obtain ⟨a, b, c, _⟩ := h
  exact ⟨a, b, c⟩

/-- The closure that takes word and sum the other way round. -/
theorem inverse1_any {w : World} {v : Value} {n : Nat} {g : Nat → Nat → Int} (hT : Tells w v n g) (B : Nat) (W : World) (hB : Below w.heap.size w W) (hc : W.cell? ⟨B, 0, none⟩ = some v) (j k : Nat) (hj : j < n) (hk : k < n) :
    Calls Tryd.prog 44 #[.int .i64 (k : Int), .int .i64 (j : Int), .pointer (some ⟨B, 0, none⟩)] W (RetQ (.int .u64 (g j k)) W) := by
  obtain ⟨fid, lb, rfl, hE, hC⟩ := hT
  have HC := Lib.hid (hC W hB j k hj hk)
  clear hC
  go_enter Tryd.func44, Tryd.ntmps44
  go_wp2_with (go_at_fn fid; refine HC.out.mono ?_; rintro e w' ⟨rfl, n1, rfl⟩)
  go_ret
  exact ⟨rfl, _, rfl⟩

theorem tells_turned {w : World} {v : Value} {n : Nat} {g : Nat → Nat → Int} (hT : Tells w v n g) :
    Tells (w.alloc (.cells #[v] 54)) (.func (.func 44) #[] #[.pointer (some ⟨w.heap.size, 0, none⟩)]) n (fun k j => g j k) := by
  have hb0 : Below w.heap.size w (w.alloc (.cells #[v] 54)) := (Below.refl _ w).alloc (Nat.le_refl _) _
  refine ⟨44, _, rfl, enters_of Tryd.func44 (by kernel_rfl) rfl, fun W hW k j hk hj => ?_⟩
  have hs : w.heap.size < (w.alloc (.cells #[v] 54)).heap.size := by simp
  refine inverse1_any hT w.heap.size W (hb0.trans (hW.mono hb0.size)) ?_ j k hj hk
  exact (hW.cell (p := ⟨w.heap.size, 0, none⟩) hs).trans (Boxed.new w 54 v).cell

theorem Half.again {k : IntKind} {e : TypeId} {wr : World} {base g n : Nat} {f f0 f1 : Nat → Int} (h : Half k e wr base g n f f0 n) : Half k e wr base g n f1 f 0 := by
  unfold Half at *
  rw [mixed_all] at h
  rw [mixed_zero]
  exact h

set_option maxHeartbeats 2000000 in
theorem inverse_any (p : Int) (x : Option Addr) (n cap : Nat) (xs : List Int) (neg : Bool) (w : World) (hG : Gl w) (hx : Reads .u64 w w.heap.size x xs) (hn : xs.length = n) (hw : Words xs) (hl : n ≤ maxLen) :
    Calls Tryd.prog 22 #[.int .u64 p, .slice x n cap, .bool neg] w (LineRet w (bwd p xs neg) (lineE p xs neg)) := by
  subst hn
  have HCk := Lib.hid (lcheck_any p x xs.length cap xs neg w hG hx rfl hl)
  by_cases hE : lineE p xs neg = 0
  · have h := lineE_zero hE
    unfold bwd
    rw [hE, if_pos rfl]
    rw [hE] at HCk
    obtain ⟨h1, h2⟩ := h.len
    obtain ⟨o1, o2⟩ := Fp.od_bd neg h1 h2
    obtain ⟨p1, p2⟩ := Fp.kn_bd h.kn
    have HO := Lib.hid (fun W => orderOf_any xs.length neg W h2)
    have HR := Lib.hid (fun W (hG' : Gl W) => back_any p ((Fp.od neg xs.length : Nat) : Int) W hG' (by omega))
    unfold backN at HR
    rw [h.rootE, if_pos rfl, Int.toNat_natCast] at HR
    obtain ⟨r0, r1, -⟩ := Fp.inv_bd p (Fp.rt p (Fp.od neg xs.length))
    have HP := Lib.hid (fun W => powersOf_any p (Fp.inv p (Fp.rt p (Fp.od neg xs.length))) xs.length neg W h.kn r0 (by omega) h1 h2)
    have HS := Lib.hid (fun W v (hx : Reads .u64 W W.heap.size x xs) (hT : Tells W v xs.length (fun k j => gof p (Fp.inv p (Fp.rt p (Fp.od neg xs.length))) neg xs.length j k)) => sums_any p x xs.length cap xs v _ W h.kn hx rfl hw (by omega) hT (fun j k => gof_bd _ _ _ _ k j))
    have HF : Hid (∀ j, summed p xs (fun k j => gof p (Fp.inv p (Fp.rt p (Fp.od neg xs.length))) neg xs.length j k) j = Fp.bw (bkl p neg xs.length) neg xs.length (nth xs) j % p) := Lib.hid (fun j => summed_bw h.turns.flip j)
    have hz : Fp.red p (xs.length : Int) ≠ 0 := by
      have : Fp.red p (xs.length : Int) = (xs.length : Int) % p := by unfold Fp.red; rw [if_pos h.kn]
      rw [this, Int.emod_eq_of_lt (by omega) (by omega)]
      omega
    have HI := Lib.hid (fun W => inv_yes p (xs.length : Int) W h.kn (by omega) (by omega) hz)
    obtain ⟨v0, v1, -⟩ := Fp.inv_bd p (xs.length : Int)
    have HG := Lib.hid hG
    have HX := Lib.hid hx
    have HK := Lib.hid h.kn
    have hle : xs.length ≤ 4096 := h2
    have HN : Hid (∀ j, bwdN p xs neg j = Fp.mul p (summed p xs (fun k j => gof p (Fp.inv p (Fp.rt p (Fp.od neg xs.length))) neg xs.length j k) j) (Fp.inv p xs.length)) := Lib.hid (fun j => by rw [HF.out]; rfl)
    have HM : Hid (∀ j, 0 ≤ summed p xs (fun k j => gof p (Fp.inv p (Fp.rt p (Fp.od neg xs.length))) neg xs.length j k) j ∧ summed p xs (fun k j => gof p (Fp.inv p (Fp.rt p (Fp.od neg xs.length))) neg xs.length j k) j < 18446744073709551616) := Lib.hid (fun j => by rw [HF.out]; obtain ⟨a, _, b⟩ := Fp.mod_bd HK.out (Fp.bw (bkl p neg xs.length) neg xs.length (nth xs) j); exact ⟨a, b⟩)
    generalize summed p xs (fun k j => gof p (Fp.inv p (Fp.rt p (Fp.od neg xs.length))) neg xs.length j k) = sm at HS HN HM
    generalize Fp.inv p (Fp.rt p (Fp.od neg xs.length)) = r at HR HP HS
    generalize Fp.inv p (xs.length : Int) = iv at HI HN v0 v1
    generalize Fp.od neg xs.length = o at HO HR
    clear hE h hG hx hw hl h1 h2 r0 r1 o1 o2 HF hz
    go_enter Tryd.func22, Tryd.ntmps22
    go_wp2_with (first
      | (go_at_call 37; refine HCk.out.mono ?_; rintro e w1 ⟨rfl, hB1⟩)
      | (go_at_call 39; refine (HO.out _).mono ?_; rintro e w' ⟨rfl, rfl⟩)
      | (go_at_call 42; refine (HR.out _ (HG.out.below HG.out.lt hB1)).mono ?_; rintro e w2 ⟨rfl, hB2⟩)
      | (go_at_call 43; refine (HI.out _).mono ?_; rintro e w' ⟨rfl, nd, rfl⟩)
      | (go_at_call 41; refine (HP.out _).mono ?_; rintro e w3 ⟨v, rfl, hT, hB3⟩; obtain ⟨fid, lb, rfl⟩ := hT.form; have HB : Hid (Below w.heap.size w w3) := Lib.hid ((hB1.trans ((below_draws hB2 nd).mono hB1.size)).trans (hB3.mono (Nat.le_trans hB1.size hB2.size))); have HT := Lib.hid (tells_turned hT); have HB3 : Hid (Below w.heap.size w (w3.alloc (.cells #[.func (.func fid) #[] lb] 54))) := Lib.hid (HB.out.alloc HB.out.size _); clear hT)
      | (go_at_call 40; refine (HS.out _ _ ((HX.out.below HB3.out).more HB3.out.size) HT.out).mono ?_; rintro e w4 ⟨b, rfl, hH, hB4⟩))
    have hA : Half .u64 22 w4 w.heap.size b xs.length (bwdN p xs neg) sm 0 := Half.again (Owns.mono hH HB3.out.size)
    have hB5 := HB3.out.trans (hB4.mono HB3.out.size)
    clear hH hB4 HB HT HB3 hB1 hB2 hB3
    go_loopw [53] (fun i wr => ∃ k : Nat, k ≤ xs.length ∧ i = .int .i64 (k : Int) ∧ Half .u64 22 wr w.heap.size b xs.length (bwdN p xs neg) sm k ∧ Below w.heap.size w wr) (fun i _ => xs.length - (intOf i).toNat)
    case atStart => exact ⟨0, Nat.zero_le _, rfl, hA, hB5⟩
    case round =>
      obtain ⟨k, hk, rfl, hP, hB⟩ := hrel
      clear hA hB5
      by_cases hlt : k < xs.length
      · have hs := hP.step
        have hsB := hB.setCell (p := ⟨b, k, none⟩) hP.lt.1 (.int .u64 (bwdN p xs neg k))
        have hc := hP.cellNext hlt
        have hf := hP.frozen k
        have hg := hP.lt.2
        obtain ⟨s0, s1⟩ := HM.out k
        rw [HN.out k] at hs hsB
        obtain ⟨sv, hsv⟩ : ∃ sv, sv = sm k := ⟨_, rfl⟩
        rw [← hsv] at hs hsB hc s0 s1
        clear hP hB hsv
        have HSS := Lib.hid (And.intro hs hsB)
        clear hs hsB
        go_wp2_with (go_at_call 19; refine (mul_any _ _ _ _ (by omega) (by omega) (by omega) (by omega)).mono ?_; rintro e w' ⟨rfl, nd, rfl⟩)
        go_roundw
        case rel => exact ⟨k + 1, by omega, by go_num, HSS.out.1.draws _, below_draws HSS.out.2 _⟩
        case measure => simp [intOf]; omega
      · obtain rfl : k = xs.length := by omega
        have hR : LineRet w ((List.range xs.length).map (bwdN p xs neg)) 0 (.returned (.tuple #[.slice (some ⟨b, 0, none⟩) xs.length xs.length, .int .i64 0])) wr := ⟨_, rfl, hP.all, hB⟩
        clear hP hB
        go_wp2
        go_ret2
        exact hR
  · unfold bwd
    rw [if_neg hE]
    have t := ne_of_bne hE
    clear hE hG hx hw hl
    go_enter Tryd.func22, Tryd.ntmps22
    go_wp2_with (go_at_call 37; refine HCk.out.mono ?_; rintro e w1 ⟨rfl, hB1⟩)
    go_ret2
    exact ⟨_, rfl, Owns.nil, hB1⟩

end Go.Proofs.YtmcnamlgbkbiaaaDoor
