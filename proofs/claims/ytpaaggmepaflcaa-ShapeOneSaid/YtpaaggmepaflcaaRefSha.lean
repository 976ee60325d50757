/-
  What the document's own Coord and Line come to (brackenref05).
-/
import Derived.Test.YtpaaggmepaflcaaLines
namespace Go.Proofs.Ytpaaggmepaflcaa
open Go.RowKit

theorem rcoord_no (ds : List Int) (no : Sh.No ds) (i : Int) (x : Option Addr) (n cap : Nat) (w : World) (B : Nat) (hx : Reads .i64 w B x ds) (hn : ds.length = n) :
    Calls Try.prog 11 #[.slice x n cap, .int .i64 i] w (RetL [] 3 w) := by
  have HA := Lib.hid (rall_no ds no x n cap w B hx hn)
  clear no hx hn
  go_enter Try.func11, Try.ntmps11
  go_wp2_with (go_at_call 9; refine HA.out.mono ?_; rintro e w' ⟨rfl, rfl⟩)
  go_ret2
  exact RetL.none _ _

theorem rcoord_arg (ns : List Nat) (ok : Sh.Ok ns) (i : Int) (hi : ¬ (0 ≤ i ∧ i < (Sh.prod ns : Nat))) (x : Option Addr) (n cap : Nat) (w : World) (B : Nat) (hx : Reads .i64 w B x (Sh.ints ns)) (hn : ns.length = n) :
    Calls Try.prog 11 #[.slice x n cap, .int .i64 i] w (RetL [] 1 w) := by
  have HA := Lib.hid (rall_ok ns ok x n cap w B hx hn)
  by_cases h0 : i < 0
  · have d1 : decide (i < 0) = true := by simpa using h0
    clear ok hx hi hn
    go_enter Try.func11, Try.ntmps11
    go_wp2_with (go_at_call 9; refine HA.out.mono ?_; rintro e w' ⟨rfl, rfl⟩)
    go_ret2
    exact RetL.none _ _
  · have d1 : decide (i < 0) = false := by simpa using h0
    have d2 : decide (((Sh.prod ns : Nat) : Int) ≤ i) = true := by simp; omega
    clear ok hx hi hn
    go_enter Try.func11, Try.ntmps11
    go_wp2_with (go_at_call 9; refine HA.out.mono ?_; rintro e w' ⟨rfl, rfl⟩)
    go_ret2
    exact RetL.none _ _

set_option maxRecDepth 100000 in
set_option maxHeartbeats 2000000 in
theorem rcoord_ok (ns : List Nat) (ok : Sh.Ok ns) (i : Nat) (hi : i < Sh.prod ns) (x : Option Addr) (n cap : Nat) (w : World) (hx : Reads .i64 w w.heap.size x (Sh.ints ns)) (hn : ns.length = n) (hc : n ≤ cap) :
    Calls Try.prog 11 #[.slice x n cap, .int .i64 (i : Int)] w (RetL (Sh.ints (Sh.crd ns i)) 0 w) := by
  subst hn
  have HA := Lib.hid (rall_ok ns ok x _ cap w w.heap.size hx rfl)
  have h4 := ok.four
  have p1 := ok.le
  have d1 : decide ((i : Int) < 0) = false := by simp
  have d2 : decide (((Sh.prod ns : Nat) : Int) ≤ (i : Int)) = false := by simp; omega
  obtain ⟨b, off, rfl, hb, hcx⟩ := hx (by rw [Sh.ints_len]; have := ok.one; omega)
  have HCX := Lib.hid hcx
  have HX := Lib.hid hx
  have HK := Lib.hid ok
  have HZ := Lib.hid hc
  have HT := Lib.hid (Sh.crd_take ns i)
  have HL := Lib.hid (Sh.crd_len ns i)
  obtain ⟨i0, hti, hy0, hy1, hy2⟩ := info_parts info_int
  obtain ⟨P, hP⟩ : ∃ P, P = Sh.prod ns := ⟨_, rfl⟩
  obtain ⟨C, hC⟩ : ∃ C, C = Sh.crd ns i := ⟨_, rfl⟩
  rw [← hP] at HA p1 d2 hi
  rw [← hC] at HT HL ⊢
  clear hcx hx ok hP hC
  go_enter Try.func11, Try.ntmps11
  go_wp2_with (go_at_call 9; refine HA.out.mono ?_; rintro e w' ⟨rfl, rfl⟩)
  go_loopw [8, 28] (fun v j wr => ∃ (k : Nat) (o : Value), k ≤ ns.length ∧ j = .int .i64 (k : Int) ∧ o = v ∧ Owns .i64 3 wr w.heap.size o (Sh.ints (C.take k)) ∧ Below w.heap.size w wr) (fun _ j _ => ns.length - (intOf j).toNat)
  case atStart => exact ⟨0, _, Nat.zero_le _, rfl, rfl, Owns.nil, Below.refl _ _⟩
  case round =>
    obtain ⟨k, o, hk, rfl, rfl, hO, hB⟩ := hrel
    by_cases hlt : k < ns.length
    · have c1 := (hB.cell (p := ⟨b, off + k, none⟩) hb).trans (HCX.out k (by rw [Sh.ints_len]; exact hlt))
      rw [Sh.ints_get] at c1
      have hb1 := ((HX.out.below hB).behind (cap := cap) (by rw [Sh.ints_len]; exact HZ.out) (k + 1))
      rw [Sh.ints_drop] at hb1
      have HC := Lib.hid (fun (t : Nat) => behind_any (ns.drop (k + 1)) (Lib.hid (fun j => HK.out.le_mid (k + 1) j)) (by simp; omega) _ (ns.length - (k + 1)) t wr w.heap.size hb1 (by simp))
      have hT := HT.out k hlt
      have t1 := HK.out.pos_drop (k + 1)
      have t2 := HK.out.le_drop (k + 1)
      have t3 := HK.out.pos_at hlt
      have t4 := HK.out.le_at hlt
      obtain ⟨d, hd⟩ : ∃ d, d = ns.getD k 0 := ⟨_, rfl⟩
      obtain ⟨z, hz⟩ : ∃ z, z = Sh.prod (ns.drop (k + 1)) := ⟨_, rfl⟩
      rw [← hd] at c1 hT t3 t4
      rw [← hz] at HC hT t1 t2
      obtain ⟨r, hr⟩ : ∃ r, r = i / z := ⟨_, rfl⟩
      obtain ⟨s, hs⟩ : ∃ s, s = r % d := ⟨_, rfl⟩
      rw [← hr, ← hs] at hT
      have q1 : (i : Int) / (z : Int) = (r : Int) := by rw [hr]; exact cast_div i z
      have q2 : (r : Int) % (d : Int) = (s : Int) := by rw [hs]; exact cast_mod r d
      have q3 : (z : Int) ≠ 0 := by omega
      have q4 : (d : Int) ≠ 0 := by omega
      have q5 : r ≤ i := by rw [hr]; exact Nat.div_le_self _ _
      have HT' := Lib.hid hT
      have HO := Lib.hid hO
      have HB := Lib.hid hB
      have hn4 : Hid ((Sh.ints (C.take k)).length ≤ 4) := Lib.hid (by rw [Sh.ints_len]; simp; omega)
      clear hd hz hr hs hT hO hB hb1 HCX HX HK HA HT
      go_wp2_with (first
        | (go_at_call 20; refine (HC.out _).mono ?_; rintro e w' ⟨rfl, rfl⟩)
        | (at_builtin; refine wpList_append_list rfl _ _ 22 rfl w.heap.size 3 i0 .i64 8 Try.underlying22 hti hy0 hy1 hy2 _ _ rfl (HO.out.alloc _) _ 1 1 [(s : Int)] rfl (src_one wr .i64 3 (s : Int)) (by have := hn4.out; unfold maxLen; omega) (by have := hn4.out; omega) (by have := HB.out.size; simp; omega) ?_; intro v' w2 hO2 hg2))
      all_goals
        go_roundw
        case rel =>
          refine ⟨_, _, _, _, ?_, rfl, rfl, rfl, rfl⟩
          refine ⟨k + 1, by omega, by congr 1, ?_, ?_⟩
          · rw [HT'.out, Sh.ints_append]; exact hO2
          · exact (HB.out.alloc HB.out.size _).grown hg2 (by have := HB.out.size; simp; omega) (fun g e => HO.out.ownBlock g e)
        case measure => simp [intOf]; omega
    · have HO : Hid (Owns .i64 3 wr w.heap.size o (Sh.ints C)) := Lib.hid (by rw [List.take_of_length_le (by have := HL.out; omega)] at hO; exact hO)
      have HB := Lib.hid hB
      clear hO hB HCX HX HK HA HT
      go_wp2
      go_ret2
      exact ⟨_, rfl, HO.out, HB.out⟩

theorem rline_no (ds : List Int) (no : Sh.No ds) (a k : Int) (x : Option Addr) (n cap : Nat) (w : World) (B : Nat) (hx : Reads .i64 w B x ds) (hn : ds.length = n) :
    Calls Try.prog 17 #[.slice x n cap, .int .i64 a, .int .i64 k] w (RetL [] 3 w) := by
  have HA := Lib.hid (rall_no ds no x n cap w B hx hn)
  clear no hx hn
  go_enter Try.func17, Try.ntmps17
  go_wp2_with (go_at_call 9; refine HA.out.mono ?_; rintro e w' ⟨rfl, rfl⟩)
  go_ret2
  exact RetL.none _ _

theorem rline_axis (ns : List Nat) (ok : Sh.Ok ns) (a k : Int) (ha : ¬ (0 ≤ a ∧ a < (ns.length : Int))) (x : Option Addr) (n cap : Nat) (w : World) (B : Nat) (hx : Reads .i64 w B x (Sh.ints ns)) (hn : ns.length = n) :
    Calls Try.prog 17 #[.slice x n cap, .int .i64 a, .int .i64 k] w (RetL [] 1 w) := by
  have HA := Lib.hid (rall_ok ns ok x n cap w B hx hn)
  by_cases h0 : a < 0
  · have d1 : decide (a < 0) = true := by simpa using h0
    clear ok hx ha hn
    go_enter Try.func17, Try.ntmps17
    go_wp2_with (go_at_call 9; refine HA.out.mono ?_; rintro e w' ⟨rfl, rfl⟩)
    go_ret2
    exact RetL.none _ _
  · have d1 : decide (a < 0) = false := by simpa using h0
    have d2 : decide ((n : Int) ≤ a) = true := by simp; omega
    clear ok hx ha hn
    go_enter Try.func17, Try.ntmps17
    go_wp2_with (go_at_call 9; refine HA.out.mono ?_; rintro e w' ⟨rfl, rfl⟩)
    go_ret2
    exact RetL.none _ _

set_option maxHeartbeats 1000000 in
theorem rline_arg (ns : List Nat) (ok : Sh.Ok ns) (a : Nat) (k : Int) (ha : a < ns.length) (hk : ¬ (0 ≤ k ∧ k < ((Sh.prod ns / ns.getD a 0 : Nat) : Int))) (x : Option Addr) (n cap : Nat) (w : World) (B : Nat) (hx : Reads .i64 w B x (Sh.ints ns)) (hn : ns.length = n) :
    Calls Try.prog 17 #[.slice x n cap, .int .i64 (a : Int), .int .i64 k] w (RetL [] 1 w) := by
  subst hn
  have HA := Lib.hid (rall_ok ns ok x _ cap w B hx rfl)
  obtain ⟨b, off, rfl, hb, hcx⟩ := hx (by rw [Sh.ints_len]; omega)
  have c1 := hcx a (by rw [Sh.ints_len]; exact ha)
  rw [Sh.ints_get] at c1
  have h4 := ok.four
  have p1 := ok.le
  have p2 := ok.pos_at ha
  have p3 := ok.le_at ha
  obtain ⟨P, hP⟩ : ∃ P, P = Sh.prod ns := ⟨_, rfl⟩
  obtain ⟨L, hL⟩ : ∃ L, L = ns.getD a 0 := ⟨_, rfl⟩
  rw [← hP] at HA p1 hk
  rw [← hL] at c1 p2 p3 hk
  obtain ⟨t, ht⟩ : ∃ t, t = P / L := ⟨_, rfl⟩
  rw [← ht] at hk
  have q1 : (P : Int) / (L : Int) = (t : Int) := by rw [ht]; exact cast_div P L
  have q2 : (L : Int) ≠ 0 := by omega
  have q3 : t ≤ P := by rw [ht]; exact Nat.div_le_self _ _
  have d3 : decide ((a : Int) < 0) = false := by simp
  have d4 : decide ((ns.length : Int) ≤ (a : Int)) = false := by simp; omega
  clear hP hL ht hcx hx ok
  by_cases h0 : k < 0
  · have d1 : decide (k < 0) = true := by simpa using h0
    clear hk
    go_enter Try.func17, Try.ntmps17
    go_wp2_with (go_at_call 9; refine HA.out.mono ?_; rintro e w' ⟨rfl, rfl⟩)
    go_ret2
    exact RetL.none _ _
  · have d1 : decide (k < 0) = false := by simpa using h0
    have d2 : decide ((t : Int) ≤ k) = true := by simp; omega
    clear hk
    go_enter Try.func17, Try.ntmps17
    go_wp2_with (go_at_call 9; refine HA.out.mono ?_; rintro e w' ⟨rfl, rfl⟩)
    go_ret2
    exact RetL.none _ _

theorem lineOf_take (ns : List Nat) (a k j : Nat) (h : j < ns.getD a 0) : (lineOf ns a k).take (j + 1) = (lineOf ns a k).take j ++ [((Sh.first (Sh.prod (ns.drop (a + 1))) (ns.getD a 0) k + j * Sh.prod (ns.drop (a + 1)) : Nat) : Int)] := by
  rw [List.take_succ_eq_append_getElem (by unfold lineOf; rw [List.length_map, List.length_range]; exact h)]
  congr 2
  unfold lineOf
  rw [List.getElem_map, List.getElem_range]
theorem lineOf_len (ns : List Nat) (a k : Nat) : (lineOf ns a k).length = ns.getD a 0 := by unfold lineOf; rw [List.length_map, List.length_range]

/-- A row beyond block base, when something is written into a block below. -/
theorem Owns.set_below {k : IntKind} {e : TypeId} {w : World} {base : Nat} {v : Value} {xs : List Int} (h : Owns k e w base v xs) {p : Addr} (hp : p.block < base) (u : Value) : Owns k e (w.setCell p u) base v xs :=
  h.keep fun g hg _ => Below.heap_setCell w p u g (by omega)
theorem Owns.put {k : IntKind} {e : TypeId} {w : World} {base g n cap : Nat} {xs : List Int} (h : Owns k e w base (.slice (some ⟨g, 0, none⟩) n cap) xs) (hn : xs.length = n) (j : Nat) (u : Int) : Owns k e (w.setCell ⟨g, j, none⟩ (.int k u)) base (.slice (some ⟨g, 0, none⟩) n cap) (xs.set j u) := by
  subst hn
  have := (World.ownsRow.stored h j (.int k u)).1
  rw [map_set] at this
  unfold Owns
  rw [List.length_set]
  exact this
/-- One of two rows, when the other one grows. -/
theorem Owns.other {k : IntKind} {e : TypeId} {w w' : World} {base g n cap : Nat} {xs : List Int} (h : Owns k e w base (.slice (some ⟨g, 0, none⟩) n cap) xs) {row : Option Nat} (hg : w.grownBy w' row) (hr : ∀ r, row = some r → g < r) : Owns k e w' base (.slice (some ⟨g, 0, none⟩) n cap) xs := by
  refine World.ownsRow.kept h hg (.inr fun e => ?_)
  have := hr g e.symm
  omega

set_option maxRecDepth 100000 in
set_option maxHeartbeats 4000000 in
theorem rline_ok (ns : List Nat) (ok : Sh.Ok ns) (a k : Nat) (ha : a < ns.length) (hk : k < Sh.prod ns / ns.getD a 0) (x : Option Addr) (n cap : Nat) (w : World) (hx : Reads .i64 w w.heap.size x (Sh.ints ns)) (hn : ns.length = n) (hc : n ≤ cap) :
    Calls Try.prog 17 #[.slice x n cap, .int .i64 (a : Int), .int .i64 (k : Int)] w (RetL (lineOf ns a k) 0 w) := by
  subst hn
  have HA := Lib.hid (rall_ok ns ok x _ cap w w.heap.size hx rfl)
  obtain ⟨b, off, rfl, hb, hcx⟩ := hx (by rw [Sh.ints_len]; omega)
  have c1 := hcx a (by rw [Sh.ints_len]; exact ha)
  rw [Sh.ints_get] at c1
  have h4 := ok.four
  have p1 := ok.le
  have p2 := ok.pos_at ha
  have p3 := ok.le_at ha
  have p4 := ok.pos_drop (a + 1)
  have hk' := hk
  rw [Sh.parts_div ok a ha] at hk'
  have hlt := fun (j : Nat) (hj : j < ns.getD a 0) => Sh.at_lt hk' hj
  rw [← Sh.parts ns a ha] at hlt
  have HCo := Lib.hid (fun (i : Nat) (h : i < Sh.prod ns) (W : World) (hW : Below w.heap.size w W) => rcoord_ok ns ok i h (some ⟨b, off, none⟩) _ cap W ((hx.below hW).more hW.size) rfl hc)
  have HFl := Lib.hid (fun (us : List Nat) (h : Sh.In ns us) (y : Option Addr) (m c : Nat) (W : World) (hW : Below w.heap.size w W) (hy : Reads .i64 W W.heap.size y (Sh.ints us)) (hm : us.length = m) => rflat_ok ns ok us h y m c (some ⟨b, off, none⟩) _ cap W W.heap.size ((hx.below hW).more hW.size) rfl hc hy hm)
  have HGet := Lib.hid (fun (i : Nat) => Sh.crd_get ns i a ha)
  have HLen := Lib.hid (fun (i : Nat) => Sh.crd_len ns i)
  have HIn := Lib.hid (fun (i j : Nat) (hj : j < ns.getD a 0) => (Sh.crd_in ok.pos i).set a j hj)
  have HSet := Lib.hid (fun (i j : Nat) (hi : i < Sh.prod ns) (h0 : (Sh.crd ns i).getD a 0 = 0) => (Sh.fl_set (Sh.crd_len ns i) a j ha h0).trans (by rw [Sh.fl_crd' hi]))
  have HTk := Lib.hid (fun (j : Nat) (h : j < ns.getD a 0) => lineOf_take ns a k j h)
  have HLl := Lib.hid (lineOf_len ns a k)
  obtain ⟨P, hP⟩ : ∃ P, P = Sh.prod ns := ⟨_, rfl⟩
  obtain ⟨L, hL⟩ : ∃ L, L = ns.getD a 0 := ⟨_, rfl⟩
  obtain ⟨I, hI⟩ : ∃ I, I = Sh.prod (ns.drop (a + 1)) := ⟨_, rfl⟩
  obtain ⟨R, hR⟩ : ∃ R, R = lineOf ns a k := ⟨_, rfl⟩
  rw [← hP] at HA p1 hk hlt HCo HSet
  rw [← hL] at c1 p2 p3 hk hlt HGet HIn HTk HLl
  rw [← hI] at p4 hlt HGet HSet HTk
  rw [← hR] at HTk HLl ⊢
  obtain ⟨t, ht⟩ : ∃ t, t = P / L := ⟨_, rfl⟩
  rw [← ht] at hk
  have q1 : (P : Int) / (L : Int) = (t : Int) := by rw [ht]; exact cast_div P L
  have q2 : (L : Int) ≠ 0 := by omega
  have q3 : t ≤ P := by rw [ht]; exact Nat.div_le_self _ _
  have d1 : decide ((k : Int) < 0) = false := by simp
  have d2 : decide (t ≤ k) = false := by simp; omega
  have d3 : decide ((a : Int) < 0) = false := by simp
  have d4 : decide (ns.length ≤ a) = false := by simp; omega
  have HF := Lib.hid (hlt 0 p2)
  have HLT := Lib.hid hlt
  have HC1 := Lib.hid (fun (W : World) (hW : Below w.heap.size w W) => (hW.cell (p := ⟨b, off + a, none⟩) hb).trans c1)
  obtain ⟨i0, hti, hy0, hy1, hy2⟩ := info_parts info_int
  clear hP hL hI hR ht hcx hx ok hk' hlt
  go_enter Try.func17, Try.ntmps17
  go_wp2_with (go_at_call 9; refine HA.out.mono ?_; rintro e w' ⟨rfl, rfl⟩)
  clear HA d1 d2 d3 d4 q1 q2 c1
  go_loopw [10, 49] (fun s i wr => ∃ (j m : Nat), i = .int .i64 (j : Int) ∧ s = .int .i64 (m : Int) ∧ Sh.Seen I L k j m ∧ Below w.heap.size w wr) (fun _ i _ => P - (intOf i).toNat)
  case atStart => exact ⟨0, 0, rfl, rfl, Sh.Seen.start k, Below.refl _ _⟩
  case round =>
    obtain ⟨i, m, rfl, rfl, hS, hB⟩ := hrel
    have hi : i < P := hS.lt p4 p2 (by have := HF.out; omega)
    have hmk := hS.le
    have hco := HCo.out i hi wr hB
    have hg := HGet.out i
    have hln := HLen.out i
    have hin := HIn.out i
    have hst := fun j => HSet.out i j hi
    obtain ⟨C, hC⟩ : ∃ C, C = Sh.crd ns i := ⟨_, rfl⟩
    rw [← hC] at hco hg hln hin hst
    obtain ⟨y, hy⟩ : ∃ y, y = i / I % L := ⟨_, rfl⟩
    rw [← hy] at hg
    have HCO := Lib.hid (hco.mono fun e w1 h => h.open (n := ns.length) (by rw [Sh.ints_len]; exact hln) (by omega))
    have HST := Lib.hid hst
    have HIN := Lib.hid hin
    have HS := Lib.hid hS
    have HB := Lib.hid hB
    have HG := Lib.hid hg
    have HN := Lib.hid hln
    have HY := Lib.hid hy
    clear hC hco hst hin hS hB hg hln hy HCo HGet HLen HIn HSet
    by_cases hy0' : y = 0
    · by_cases hmk' : m < k
      · have e1 : ((y : Int) != 0) = false := by rw [hy0']; rfl
        have e2 : decide ((m : Int) < (k : Int)) = true := by simp; omega
        go_wp2_with (go_at_call 11; refine HCO.out.mono ?_; rintro e w1 ⟨g, capc, rfl, hg1, hg2, hcap, hmx, hO, hrd, hB1⟩; have c2 := hO.cell a (by rw [Sh.ints_len, HN.out]; exact ha); rw [Sh.ints_get, HG.out] at c2; have HO := Lib.hid hO; have HRD := Lib.hid hrd; have HB1 := Lib.hid hB1; clear hO hrd hB1)
        go_roundw
        case rel => exact ⟨i + 1, m + 1, by congr 1, by congr 1, HS.out.next p4 p2 (HY.out.symm.trans hy0') hmk', HB.out.trans (HB1.out.mono HB.out.size)⟩
        case measure => simp [intOf]; omega
      · have e1 : ((y : Int) != 0) = false := by rw [hy0']; rfl
        have e2 : decide ((m : Int) < (k : Int)) = false := by simp; omega
        have hmk2 : m = k := by omega
        have hif : Hid (i = Sh.first I L k) := Lib.hid (by rw [← hmk2]; exact HS.out.found p4 p2 (HY.out.symm.trans hy0'))
        have HC0 : Hid (C.getD a 0 = 0) := Lib.hid (HG.out.trans hy0')
        go_wp2_with (first
          | (go_at_call 11; refine HCO.out.mono ?_; rintro e w1 ⟨g, capc, rfl, hg1, hg2, hcap, hmx, hO, hrd, hB1⟩; have c2 := hO.cell a (by rw [Sh.ints_len, HN.out]; exact ha); rw [Sh.ints_get, HG.out] at c2; have c3 := HC1.out w1 (HB.out.trans (hB1.mono HB.out.size)); have HO := Lib.hid (hO.mono HB.out.size); have HB1 := Lib.hid (HB.out.trans (hB1.mono HB.out.size)); have hws := Nat.le_trans HB.out.size hg1; clear hO hrd hB1))
        clear HCO HS HY HB HF
        go_loopw [14, 72] (fun v q W => ∃ (j z : Nat) (o : Value), j ≤ L ∧ q = .int .i64 (j : Int) ∧ o = v ∧ Owns .i64 3 W w1.heap.size o (R.take j) ∧ Owns .i64 3 W w.heap.size (.slice (some ⟨g, 0, none⟩) ns.length capc) (Sh.ints (C.set a z)) ∧ Below w.heap.size w W ∧ w1.heap.size ≤ W.heap.size) (fun _ q _ => L - (intOf q).toNat)
        case atStart =>
          refine ⟨0, 0, _, Nat.zero_le _, rfl, rfl, Owns.nil, ?_, HB1.out, Nat.le_refl _⟩
          have e0 : C.set a 0 = C := by
            apply List.ext_getElem
            · simp
            · intro j h1 h2
              rw [List.getElem_set]
              split
              · rename_i e
                subst e
                have := HC0.out
                simp [h2] at this
                exact this.symm
              · rfl
          rw [e0]
          exact HO.out
        case round =>
          obtain ⟨j, z, o, hj, rfl, rfl, hR, hC, hW, hsz⟩ := hrel
          by_cases hlt : j < L
          · have hcl := hC.cell a (by rw [Sh.ints_len, List.length_set, HN.out]; exact ha)
            have hfz := hC.unfrozen (by rw [Sh.ints_len, List.length_set, HN.out]) a
            have hC' := hC.put (by rw [Sh.ints_len, List.length_set, HN.out]) a (j : Int)
            rw [Sh.ints_set, List.set_set] at hC'
            have hR' := hR.set_below (p := ⟨g, a, none⟩) hg2 (.int .i64 (j : Int))
            have hW' := hW.setCell (p := ⟨g, a, none⟩) (by show _ ≤ g; omega) (.int .i64 (j : Int))
            obtain ⟨W2, hW2⟩ : ∃ W2, W2 = wr.setCell ⟨g, a, none⟩ (.int .i64 (j : Int)) := ⟨_, rfl⟩
            have hsz' : w1.heap.size ≤ W2.heap.size := by rw [hW2, World.size_setCell]; exact hsz
            rw [← hW2] at hC' hR' hW'
            have hrd' := hC'.reads
            have hfl := HFl.out (C.set a j) (HIN.out j hlt) (some ⟨g, 0, none⟩) ns.length capc W2 hW' hrd' (by rw [List.length_set, HN.out])
            rw [HST.out j HC0.out, hif.out] at hfl
            have hTk := HTk.out j hlt
            have hl1 := HLT.out j hlt
            have hgs : g < wr.heap.size := by omega
            obtain ⟨u, hu⟩ : ∃ u, u = Sh.first I L k + j * I := ⟨_, rfl⟩
            rw [← hu] at hfl hTk hl1
            have hn4 : Hid ((R.take j).length ≤ 4096) := Lib.hid (by rw [List.length_take, HLl.out]; omega)
            have HFL := Lib.hid hfl
            have HTK := Lib.hid hTk
            have HR := Lib.hid hR'
            have HC := Lib.hid hC'
            have HW := Lib.hid hW'
            have HGS := Lib.hid hgs
            have HW2 := Lib.hid hW2
            clear hR hC hW hR' hC' hW' hfl hTk hrd' hu hW2 HTk HLT HST HIN HFl HC1 HC0 hif HO HB1
            go_wp2_with (first
              | (go_at_call 13; rw [← HW2.out]; refine HFL.out.mono ?_; rintro e w' ⟨rfl, rfl⟩)
              | (at_builtin; refine wpList_append_list rfl _ _ 22 rfl w1.heap.size 3 i0 .i64 8 Try.underlying22 hti hy0 hy1 hy2 _ _ rfl (HR.out.alloc _) _ 1 1 [(u : Int)] rfl (src_one W2 .i64 3 (u : Int)) (by have := hn4.out; unfold maxLen; omega) (by have := hn4.out; omega) (by simp; omega) ?_; intro v' w2 hO2 hg2'))
            go_roundw
            case rel =>
              refine ⟨j + 1, j, _, by omega, by congr 1, rfl, ?_, ?_, ?_, ?_⟩
              · rw [HTK.out]; exact hO2
              · exact (HC.out.alloc _).other hg2' (fun r e => Nat.lt_of_lt_of_le hg2 (HR.out.ownBlock r e))
              · exact (HW.out.alloc HW.out.size _).grown hg2' (by have := HW.out.size; simp; omega) (fun r e => by have := HR.out.ownBlock r e; have := HGS.out; omega)
              · have := hg2'.size; simp at this; omega
            case measure => simp [intOf]; omega
          · have HR : Hid (RetL R 0 w (.returned (.tuple #[o, .int .i64 0])) wr) := Lib.hid (by
              rw [List.take_of_length_le (by have := HLl.out; omega)] at hR
              exact ⟨_, rfl, hR.mono (by omega), hW⟩)
            clear hR hC hW HTk HLT HST HIN HFl HC1 HC0 hif HO HB1
            go_wp2
            go_ret2
            exact HR.out
    · have e1 : ((y : Int) != 0) = true := by rw [bne_iff_ne]; omega
      go_wp2_with (go_at_call 11; refine HCO.out.mono ?_; rintro e w1 ⟨g, capc, rfl, hg1, hg2, hcap, hmx, hO, hrd, hB1⟩; have c2 := hO.cell a (by rw [Sh.ints_len, HN.out]; exact ha); rw [Sh.ints_get, HG.out] at c2; have HO := Lib.hid hO; have HRD := Lib.hid hrd; have HB1 := Lib.hid hB1; clear hO hrd hB1)
      go_roundw
      case rel => exact ⟨i + 1, m, by congr 1, rfl, HS.out.same p4 (by rw [← HY.out]; exact hy0') p2, HB.out.trans (HB1.out.mono HB.out.size)⟩
      case measure => simp [intOf]; omega

end Go.Proofs.Ytpaaggmepaflcaa
