/-
  Slices of axes, read as lists; how long they are (grid.Dims, and the document's).
-/
import Derived.Test.YtjmgieepgdjomaaDoorMathGrid
import Derived.Test.YtjmgieepgdjomaaDoorRows2
import Derived.Test.YtjmgieepgdjomaaDoorShapes
import Derived.Deep.Slices
import Derived.Deep.Strs
import Derived.ChangeSame
import Derived.SizedLaws
namespace Go.Proofs.YtjmgieepgdjomaaDoor
open Go.RowKit Go.Deep Go.ChangeShapes

/-- The address x holds the axes xa, in blocks below B (asked only if there are any). -/
def ReadsA (w : World) (B : Nat) (x : Option Addr) (xa : List Ax) : Prop :=
  0 < xa.length → ∃ b off, x = some ⟨b, off, none⟩ ∧ b < B ∧ ∀ j, j < xa.length →
    w.cell? ⟨b, off + j * 2, none⟩ = some (.int .i64 (xa.getD j noAx).n) ∧ w.cell? ⟨b, off + j * 2 + 1, none⟩ = some (.bool (xa.getD j noAx).neg)

section
variable {w w' : World} {B B' : Nat} {x : Option Addr} {xa : List Ax}
theorem ReadsA.nil : ReadsA w B x [] := fun h => absurd h (by simp)
theorem ReadsA.keep (h : ReadsA w B x xa) (hk : ∀ p : Addr, p.block < B → w'.cell? p = w.cell? p) : ReadsA w' B x xa := fun hn => by
  obtain ⟨b, off, e, hb, hc⟩ := h hn
  exact ⟨b, off, e, hb, fun j hj => ⟨(hk _ (by exact hb)).trans (hc j hj).1, (hk _ (by exact hb)).trans (hc j hj).2⟩⟩
theorem ReadsA.more (h : ReadsA w B x xa) (hB : B ≤ B') : ReadsA w B' x xa := fun hn => by
  obtain ⟨b, off, e, hb, hc⟩ := h hn
  exact ⟨b, off, e, by omega, hc⟩
theorem ReadsA.below (h : ReadsA w B x xa) (hb : Below B w w') : ReadsA w' B x xa := h.keep fun _ hp => hb.cell hp
theorem ReadsA.draws (h : ReadsA w B x xa) (n : Nat) : ReadsA (w.drewN n) B x xa := h
end

/-- A slice of axes that came in. -/
def AxisIn (w : World) (a : Option Addr) (len cap : Nat) (xa : List Ax) : Prop := xa.length = len ∧ len ≤ cap ∧ cap ≤ maxLen ∧ ReadsA w w.heap.size a xa ∧ ∀ k, -9223372036854775808 ≤ (xa.getD k noAx).n ∧ (xa.getD k noAx).n < 9223372036854775808

theorem cells_axis : Tryd.prog.cellsOf 41 = 2 := by kernel_rfl
theorem cells_intA : Tryd.prog.cellsOf 3 = 1 := by kernel_rfl
theorem cells_boolA : Tryd.prog.cellsOf 4 = 1 := by kernel_rfl

theorem open_Axis {H : Type} {enc : TypeId × Value → H} {w : World} {base : Nat} {spare : Nat → Bool} {held : Bool} {fuel : Nat} {cs : List Value} {x : DataW H × List MemPlace} {a : Option Addr} {len cap : Nat}
    (h : DataW.trod enc Tryd.prog w base spare held fuel 23 cs = some x) (hcs : cs = [.slice a len cap]) : ∃ xa, AxisIn w a len cap xa := by
  rcases open_slice Tryd.underlying23 h with ⟨e, _⟩ | ⟨ad, l, c, m, n, D, Pl, e, _, hl, hm, hmm, _, hx⟩
  · rw [hcs] at e
    simp at e
    obtain ⟨rfl, rfl, rfl⟩ := e
    exact ⟨[], rfl, Nat.le_refl _, by unfold maxLen; omega, ReadsA.nil, fun k => by simp [noAx]⟩
  · rw [hcs] at e
    simp at e
    obtain ⟨rfl, rfl, rfl⟩ := e
    have hlm : len ≤ m := by rw [hmm]; split <;> omega
    have each : ∀ i, i < m → ∃ s : Ax, w.cell? (ad.add (i * 2)) = some (.int .i64 s.n) ∧ w.cell? (ad.add (i * 2 + 1)) = some (.bool s.neg) ∧ -9223372036854775808 ≤ s.n ∧ s.n < 9223372036854775808 := by
      intro i hi
      obtain ⟨cs', h1, h2⟩ := hx i hi
      rw [cells_axis] at h1
      obtain ⟨_, hlen, hcell⟩ := World.cells?_some h1
      obtain ⟨y0, y1, k, _, _, g0, g1⟩ := trod_struct2 Tryd.underlying41 h2
      match cs', hlen with
      | [v0, v1], _ =>
        dsimp only at g0 g1
        rw [cells_intA] at g0
        rw [cells_boolA] at g1
        obtain ⟨n0, e0, _, hwf⟩ := DataW.trod_int Tryd.underlying3 g0
        obtain ⟨n1, e1, _⟩ := DataW.trod_bool Tryd.underlying4 g1
        simp at e0 e1
        have c0 := hcell 0 (by omega)
        have c1 := hcell 1 (by omega)
        rw [add_add] at c0 c1
        have hb := i64_of hwf
        exact ⟨⟨n0, n1⟩, by simpa [e0] using c0, by simpa [e1] using c1, hb.1, hb.2⟩
    obtain ⟨q, hq⟩ := choose_lt each
    refine ⟨(List.range len).map q, by simp, hl, hm, fun hn => ?_, fun k => ?_⟩
    · simp at hn
      obtain ⟨b, off, spot⟩ := ad
      have hspot : spot = none := by simpa [Addr.add] using World.cell?_spot (hq 0 (by omega)).1
      subst hspot
      refine ⟨b, off, rfl, World.block_lt_of_cell? _ _ (by simpa [Addr.add] using (hq 0 (by omega)).1), fun j hj => ?_⟩
      simp at hj
      obtain ⟨c0, c1, _⟩ := hq j (by omega)
      rw [Go.WideShapes.add_plain] at c0 c1
      have eg : ((List.range len).map q).getD j noAx = q j := by simp [hj]
      rw [eg]
      exact ⟨c0, c1⟩
    · by_cases hk : k < len
      · have eg : ((List.range len).map q).getD k noAx = q k := by simp [hk]
        rw [eg]
        exact (hq k (by omega)).2.2
      · simp [hk, noAx]

theorem bytes_axis : Tryd.prog.bytesOf 41 = 16 := by kernel_rfl

/-- How many axes the form's own reach lets come in. -/
theorem axis_bound {H : Type} {enc : TypeId × Value → H} {w : World} {base : Nat} {spare : Nat → Bool} {held : Bool} {fuel : Nat} {cs : List Value} {x : DataW H × List MemPlace} {a : Option Addr} {len cap : Nat}
    (h : DataW.trod enc Tryd.prog w base spare held fuel 23 cs = some x) (hcs : cs = [.slice a len cap]) {ts : List TypeId} {ds : List (DataW H)} (hz : (DataW.weightsEach Tryd.prog ts ds).all (· ≤ reachBytes) = true) {j : Nat} (ht : ts[j]? = some 23) (hd : ds[j]? = some x.1) : len ≤ 8796093022208 := by
  rcases open_slice Tryd.underlying23 h with ⟨e, _⟩ | ⟨ad, l, c, m, n, D, Pl, e, _, hl, hm, hmm, hx, _⟩
  · rw [hcs] at e
    simp at e
    omega
  · rw [hcs] at e
    simp at e
    obtain ⟨rfl, rfl, rfl⟩ := e
    rw [hx] at hd
    have := sized_slice hz ht hd Tryd.underlying23
    rw [bytes_axis, List.length_map, List.length_range] at this
    have := reachBytes_lt
    omega

theorem Half.alloc {k : IntKind} {e : TypeId} {w : World} {base g n i : Nat} {f f0 : Nat → Int} (h : Half k e w base g n f f0 i) (o : Obj) : Half k e (w.alloc o) base g n f f0 i := Owns.alloc h o

/-- It returns a list of integers, in memory of its own. -/
def RetI (w : World) (xs : List Int) (e : Ending) (w' : World) : Prop := ∃ v, e = .returned v ∧ Owns .i64 3 w' w.heap.size v xs ∧ Below w.heap.size w w'

theorem dims_take (xa : List Ax) (k : Nat) (h : k < xa.length) : (dims xa).take (k + 1) = (dims xa).take k ++ [(xa.getD k noAx).n] := by
  rw [List.take_succ_eq_append_getElem (by rw [dims_len]; exact h)]
  simp [dims, h]

set_option maxHeartbeats 1000000 in
theorem dims_any (x : Option Addr) (n cap : Nat) (xa : List Ax) (w : World) (hx : ReadsA w w.heap.size x xa) (hn : xa.length = n) (hl : n ≤ 8796093022208) :
    Calls Tryd.prog 17 #[.slice x n cap] w (RetI w (dims xa)) := by
  subst hn
  have HX := Lib.hid hx; clear hx
  have hE : (List.range xa.length).map (fun j => (xa.getD j noAx).n) = dims xa := by
    have := list_range (dims xa)
    rw [dims_len] at this
    refine Eq.trans (List.map_congr_left fun j _ => ?_) this
    rw [dims_get]
  have HE := Lib.hid hE; clear hE
  obtain ⟨i0, hi, hy0, hy1, hy2⟩ := info_parts info_int
  have HY2 := Lib.hid hy2; clear hy2
  go_enter Tryd.func17, Tryd.ntmps17
  go_wp2_with (at_make; refine wpList_make_full _ rfl _ _ 34 rfl w.heap.size 3 i0 (.int .i64 0) 1 Tryd.underlying34 hi hy0 hy1 .i64 .i64 _ _ xa.length rfl rfl rfl rfl (by rw [HY2.out]; omega) (by unfold maxLen; omega) (Nat.le_refl _) ?_; intro w1 hown hgrow)
  have hst := Half.start (f := fun j => (xa.getD j noAx).n) hown
  have hbl := (Below.refl w.heap.size w).grown hgrow (Nat.le_refl _) (fun k e => by cases e)
  clear hown hgrow hi hy0 hy1
  go_loopw [11] (fun i wr => ∃ j : Nat, j ≤ xa.length ∧ i = .int .i64 (j : Int) ∧ Half .i64 3 wr w.heap.size w.heap.size xa.length (fun j => (xa.getD j noAx).n) (fun _ => 0) j ∧ Below w.heap.size w wr) (fun i _ => xa.length - (intOf i).toNat)
  case atStart => exact ⟨0, Nat.zero_le _, rfl, hst, hbl⟩
  case round =>
    obtain ⟨j, hj, rfl, hH, hB⟩ := hrel
    clear hst hbl
    by_cases hlt : j < xa.length
    · obtain ⟨b, off, rfl, hb, hc⟩ := (HX.out.below hB) (by omega)
      obtain ⟨c0, c1⟩ := hc j hlt
      obtain ⟨u, hu⟩ : ∃ u, u = xa.getD j noAx := ⟨_, rfl⟩
      rw [← hu] at c0 c1
      have hs := hH.step.alloc (.cells #[.int .i64 u.n, .bool u.neg] 41)
      have hsB := below_al (hB.setCell (p := ⟨w.heap.size, j, none⟩) (Nat.le_refl _) (.int .i64 (xa.getD j noAx).n)) (.cells #[.int .i64 u.n, .bool u.neg] 41)
      have HS := Lib.hid (And.intro hs hsB)
      rw [← hu] at HS
      have hcn := hH.cellNext hlt
      have hf := hH.frozen j
      have hg := hH.lt.2
      clear hc hu hH hB HX HE hs hsB
      go_wp2
      go_roundw
      case rel => exact ⟨j + 1, by omega, by congr 1, HS.out.1, HS.out.2⟩
      case measure => simp [intOf]; omega
    · obtain rfl : j = xa.length := by omega
      have hR : RetI w (dims xa) (.returned (.slice (some ⟨w.heap.size, 0, none⟩) xa.length xa.length)) wr := ⟨_, rfl, by rw [← HE.out]; exact hH.all, hB⟩
      clear hH hB HX HE
      go_wp2
      go_ret
      exact hR

set_option maxHeartbeats 1000000 in
theorem rdims_any (x : Option Addr) (n cap : Nat) (xa : List Ax) (w : World) (hx : ReadsA w w.heap.size x xa) (hn : xa.length = n) (hl : n ≤ 8796093022208) :
    Calls Tryd.prog 18 #[.slice x n cap] w (RetI w (dims xa)) := by
  subst hn
  have HX := Lib.hid hx; clear hx
  have HT := Lib.hid (dims_take xa)
  have HL := Lib.hid (dims_len xa)
  obtain ⟨i0, hti, hy0, hy1, hy2⟩ := info_parts info_int
  go_enter Tryd.func18, Tryd.ntmps18
  go_wp2
  go_loopw [3, 8] (fun v j wr => ∃ (k : Nat) (o : Value), k ≤ xa.length ∧ j = .int .i64 (k : Int) ∧ o = v ∧ Owns .i64 3 wr w.heap.size o ((dims xa).take k) ∧ Below w.heap.size w wr) (fun _ j _ => xa.length - (intOf j).toNat)
  case atStart => exact ⟨0, _, Nat.zero_le _, rfl, rfl, Owns.nil, Below.refl _ _⟩
  case round =>
    obtain ⟨k, o, hk, rfl, rfl, hO, hB⟩ := hrel
    by_cases hlt : k < xa.length
    · obtain ⟨b, off, rfl, hb, hc⟩ := (HX.out.below hB) (by omega)
      obtain ⟨c0, c1⟩ := hc k hlt
      have hT := HT.out k hlt
      obtain ⟨u, hu⟩ : ∃ u, u = xa.getD k noAx := ⟨_, rfl⟩
      rw [← hu] at c0 c1 hT
      have HT' := Lib.hid hT
      have hw2 := Lib.hid (hB.alloc hB.size (.cells #[.int .i64 u.n, .bool u.neg] 41))
      have HO := Lib.hid (hO.alloc (.cells #[.int .i64 u.n, .bool u.neg] 41))
      have hn4 : Hid (((dims xa).take k).length = k) := Lib.hid (by rw [List.length_take, HL.out]; omega)
      have HSr : Hid (Src .i64 ((wr.alloc (.cells #[.int .i64 u.n, .bool u.neg] 41)).alloc (.cells #[.int .i64 u.n] 3)) (some ⟨wr.heap.size + 1, 0, none⟩) 1 1 [u.n]) := Lib.hid (by
        have := src_one (wr.alloc (.cells #[.int .i64 u.n, .bool u.neg] 41)) .i64 3 u.n
        rwa [World.size_alloc] at this)
      clear hc hu hO hT HX HT
      go_wp2_with (at_builtin; refine wpList_append_list rfl _ _ 34 rfl w.heap.size 3 i0 .i64 8 Tryd.underlying34 hti hy0 hy1 hy2 _ _ rfl (HO.out.alloc _) _ 1 1 [u.n] rfl HSr.out (by have := hn4.out; unfold maxLen; omega) (by have := hn4.out; omega) (by have := hw2.out.size; simp at this; simp; omega) ?_; intro v' w3 hO2 hg2)
      go_roundw
      case rel =>
        refine ⟨k + 1, _, by omega, by congr 1, rfl, ?_, ?_⟩
        · rw [HT'.out]; exact hO2
        · exact (below_al hw2.out _).grown hg2 (by have := hw2.out.size; simp at this; simp; omega) (fun g e => HO.out.ownBlock g e)
      case measure => simp [intOf]; omega
    · have HO : Hid (Owns .i64 3 wr w.heap.size o (dims xa)) := Lib.hid (by rw [List.take_of_length_le (by have := HL.out; omega)] at hO; exact hO)
      have HB := Lib.hid hB
      clear hO hB HX HT
      go_wp2
      go_ret
      exact ⟨_, rfl, HO.out, HB.out⟩

end Go.Proofs.YtjmgieepgdjomaaDoor
