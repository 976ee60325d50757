/-
  The laws of layer 5, walked: ShapeOne.
-/
import Derived.Test.YtpaaggmepaflcaaLawSha
import Derived.Test.YtpaaggmepaflcaaGate
import Derived.Deep.RegionLaw
import Derived.Deep.CutRange
namespace Go.Proofs.Ytpaaggmepaflcaa
open Go.RowKit Go.Shelf

/-- 'append(xs, ys...)' where it comes up in a region that draws its order: xs a row of the call's own, ys a slice with an address. -/
theorem step_append_src {P : Program} {w : World} {ops : Array Oper} {o : Oper} {a : Act} {K : Act → World → Prop} {Q : Exit → Act → World → Prop} {E : Prop} (hw : Region.wanted o (yielded ops a.tmps) = true) (s x : Operand) (t : TypeId)
    (ho : o.op = .call { callee := .builtin .append, args := #[s, x], argTypes := #[t, t] }) (base : Nat) (e : TypeId) (i : TypeInfo) (k : IntKind) (bytes : Nat) (ht : P.underlying t = some (.slice e)) (hi : P.info? e = some i) (hz : i.zero = some (.int k 0)) (hsize : i.size = 1) (hby : i.bytes = bytes)
    (v : Value) (xs : List Int) (hs : a.eval s = v) (hown : Owns k e w base v xs) (ad : Addr) (n cap : Nat) (ys : List Int) (hx : a.eval x = .slice (some ad) n cap) (hsrc : Src k w (some ad) n cap ys) (h63 : xs.length + n ≤ maxLen) (hb : (xs.length + n) * bytes ≤ 140737488355328) (hbase : base ≤ w.heap.size)
    (h : ∀ v' w', Owns k e w' base v' (xs ++ ys) → w.grownBy w' v.ownBlock → K (a.put o.dst v') w') : if Region.wanted o (yielded ops a.tmps) = true then Oper.wp P o a w K Q else E := by
  rw [if_pos hw]
  obtain ⟨rfl, ⟨h0, _⟩ | ⟨ad', e', hc⟩⟩ := hsrc
  · cases h0
  · cases e'
    refine wp_append_own w s x t ho base e i (.int k 0) 1 bytes ht hi hz hsize hby rfl (by decide) v _ _ hs hown ad ys.length cap (ys.map (Value.int k)) hx (by simp) ?_ ?_ h63 hb hbase ?_
    · intro j u hu
      have hj : j < ys.length := by
        rcases Nat.lt_or_ge j ys.length with h | h
        · exact h
        · rw [List.getElem?_eq_none (by simpa using h)] at hu; cases hu
      rw [hc j hj]
      simpa [hj] using hu
    · intro u hu
      obtain ⟨z, _, rfl⟩ := List.mem_map.1 hu
      rfl
    · intro v' w' hown' hg _
      refine h v' w' ?_ hg
      unfold Owns
      rw [List.length_append, List.map_append]
      exact hown'

/-- The same at a list of operations: its guard, if it has one, lets it. -/
theorem wpList_append_src {P : Program} {w : World} {ops : Array Oper} {rest : List Oper} {o : Oper} {a : Act} {Q : Exit → Act → World → Prop} (hw : Region.wanted o (yielded ops a.tmps) = true) (s x : Operand) (t : TypeId)
    (ho : o.op = .call { callee := .builtin .append, args := #[s, x], argTypes := #[t, t] }) (base : Nat) (e : TypeId) (i : TypeInfo) (k : IntKind) (bytes : Nat) (ht : P.underlying t = some (.slice e)) (hi : P.info? e = some i) (hz : i.zero = some (.int k 0)) (hsize : i.size = 1) (hby : i.bytes = bytes)
    (v : Value) (xs : List Int) (hs : a.eval s = v) (hown : Owns k e w base v xs) (ad : Addr) (n cap : Nat) (ys : List Int) (hx : a.eval x = .slice (some ad) n cap) (hsrc : Src k w (some ad) n cap ys) (h63 : xs.length + n ≤ maxLen) (hb : (xs.length + n) * bytes ≤ 140737488355328) (hbase : base ≤ w.heap.size)
    (h : ∀ v' w', Owns k e w' base v' (xs ++ ys) → w.grownBy w' v.ownBlock → wpList P ops Q rest (a.put o.dst v') w') : wpList P ops Q (o :: rest) a w := by
  have := step_append_src (Q := Q) (E := True) hw s x t ho base e i k bytes ht hi hz hsize hby v xs hs hown ad n cap ys hx hsrc h63 hb hbase h
  rw [if_pos hw] at this
  unfold wpList
  rw [if_pos hw]
  exact .inl this

theorem Pures.cons {P : Program} {ops : Array Oper} {L : Act → Prop} {o : Oper} {os : List Oper} {a : Act} (v : Value) (hy : Yields P ops o v a) (h : Pures P ops L os (a.put o.dst v)) : Pures P ops L (o :: os) a := ⟨v, hy, h⟩
theorem Pures.nil {P : Program} {ops : Array Oper} {L : Act → Prop} {a : Act} (h : L a) : Pures P ops L [] a := h

/-- The parts by their lengths: m of the head, p that look at local slots alone, one, q more such, and the others. -/
theorem region_parts' {P : Program} {id : Nat} {Q : Exit → Act → World → Prop} {a : Act} {w : World} {l : List Oper} (m p q : Nat) (hmx : P.follows .mixedOrders = true)
    (hB : partsB l.toArray m (List.range' m p ++ List.range' (m + p + 1) q) ((m + p) :: List.range' (m + p + 1 + q) (l.length - (m + p + 1 + q))) = true)
    (hj : (List.range' m p ++ List.range' (m + p + 1) q).map (fun j => l.toArray[j]?) = ((l.drop m).take p ++ (l.drop (m + p + 1)).take q).map some)
    (ht : ((m + p) :: List.range' (m + p + 1 + q) (l.length - (m + p + 1 + q))).map (fun j => l.toArray[j]?) = ((l.drop (m + p)).take 1 ++ l.drop (m + p + 1 + q)).map some) (hQ : ∀ c d v a w, Q (.panic c) (a.put d v) w → Q (.panic c) a w)
    (h : wpQuiet P l.toArray (fun w' => ∃ n, w' = w.drewN n) (fun a' => ∀ w', (∃ n, w' = w.drewN n) → Pures P l.toArray (fun b => wpList P l.toArray Q ((l.drop (m + p)).take 1 ++ l.drop (m + p + 1 + q)) b w') ((l.drop m).take p ++ (l.drop (m + p + 1)).take q) a') (l.take m) a) : (Code.region id l.toArray true).wp P Q a w :=
  region_parts m _ _ hmx hB hj ht hQ h

/-- Axes with one of length 1 put in. -/
def put (ds : List Int) (k : Nat) : List Int := ds.take k ++ [1] ++ ds.drop k
theorem put_len (ds : List Int) (k : Nat) (hk : k ≤ ds.length) : (put ds k).length = ds.length + 1 := by
  unfold put
  rw [List.length_append, List.length_append, List.length_take, List.length_drop, Nat.min_eq_left hk]
  simp
  omega
theorem put_ints (ns : List Nat) (k : Nat) : put (Sh.ints ns) k = Sh.ints (Sh.more ns k) := by
  unfold put Sh.more
  rw [Sh.ints_take, Sh.ints_drop, Sh.ints_append]
  simp [Sh.ints]

/-- What Coord comes to of some axes, and with one of length 1 put in. -/
theorem one_cases (ds : List Int) (h1 : 1 ≤ ds.length) (h3 : ds.length ≤ 3) (k : Nat) (hk : k ≤ ds.length) (i : Int) :
    (∃ e : Int, e ≠ 0 ∧ (∀ W x cap, Reads .i64 W W.heap.size x ds → Calls Try.prog 10 #[.slice x ds.length cap, .int .i64 i] W (RetL [] e W)) ∧ (∀ W x cap, Reads .i64 W W.heap.size x (put ds k) → Calls Try.prog 10 #[.slice x (ds.length + 1) cap, .int .i64 i] W (RetL [] e W))) ∨
    (∃ (ns : List Nat) (j : Nat), ds = Sh.ints ns ∧ Sh.Ok ns ∧ i = (j : Int) ∧ (∀ W x cap, Reads .i64 W W.heap.size x ds → Calls Try.prog 10 #[.slice x ds.length cap, .int .i64 i] W (RetO (Sh.ints (Sh.crd ns j)) ds.length 0 W)) ∧
      (∀ W x cap, Reads .i64 W W.heap.size x (put ds k) → Calls Try.prog 10 #[.slice x (ds.length + 1) cap, .int .i64 i] W (RetO (Sh.ints (Sh.crd (Sh.more ns k) j)) (ds.length + 1) 0 W))) := by
  rcases Sh.ok_or ds with ⟨ns, ok, rfl⟩ | no
  · rw [Sh.ints_len] at h1 h3 hk ⊢
    rw [put_ints]
    have ok' := ok.more h3 k
    have hp := Sh.prod_more ns k
    by_cases hi : 0 ≤ i ∧ i < (Sh.prod ns : Nat)
    · obtain ⟨j, rfl⟩ : ∃ j : Nat, i = (j : Int) := ⟨i.toNat, by omega⟩
      refine .inr ⟨ns, j, rfl, ok, rfl, fun W x cap hx => ?_, fun W x cap hx => ?_⟩
      · exact (coord_ok ns ok j (by omega) x _ cap W hx rfl).mono fun e w' h => h.open (by rw [Sh.ints_len, Sh.crd_len]) (by omega)
      · exact (coord_ok (Sh.more ns k) ok' j (by omega) x _ cap W hx (Sh.more_len ns k)).mono fun e w' h => h.open (by rw [Sh.ints_len, Sh.crd_len, Sh.more_len]) (by omega)
    · refine .inl ⟨1, by omega, fun W x cap hx => ?_, fun W x cap hx => ?_⟩
      · exact coord_arg ns ok i hi x _ cap W hx rfl
      · exact coord_arg (Sh.more ns k) ok' i (by rw [hp]; exact hi) x _ cap W hx (Sh.more_len ns k)
  · refine .inl ⟨3, by omega, fun W x cap hx => coord_no ds no i x _ cap W hx rfl, fun W x cap hx => ?_⟩
    have no' : Sh.No (put ds k) := by
      have := no.put h1 hk
      unfold put
      rw [List.append_assoc]
      exact this
    exact coord_no (put ds k) no' i x _ cap W hx (put_len ds k hk)

/-- The coordinates with a 0 put in, and that taken out again. -/
theorem one_list (ns : List Nat) (j k : Nat) (hk : k ≤ ns.length) : Sh.ints (Sh.crd (Sh.more ns k) j) = (Sh.ints (Sh.crd ns j)).take k ++ [0] ++ (Sh.ints (Sh.crd ns j)).drop k := by
  rw [Sh.crd_more, Nat.min_eq_left hk, Sh.ints_append, Sh.ints_take, Sh.ints_drop]
  simp [Sh.ints]
theorem one_at (A : List Int) (k : Nat) (hk : k ≤ A.length) : (A.take k ++ [0] ++ A.drop k).getD k 0 = 0 := by
  have h : (A.take k).length = k := by simp; omega
  rw [List.getD_eq_getElem?_getD, List.append_assoc, List.getElem?_append_right (by omega), h]
  simp
theorem one_back (A : List Int) (k : Nat) (hk : k ≤ A.length) : (A.take k ++ [0] ++ A.drop k).take k ++ (A.take k ++ [0] ++ A.drop k).drop (k + 1) = A := by
  have h : (A.take k).length = k := by simp; omega
  have h2 : (A.take k ++ [0]).length = k + 1 := by rw [List.length_append, h]; rfl
  rw [List.drop_left' h2, List.append_assoc, List.take_left' h, List.take_append_drop]

/-- All that the law asks, in one: an error, or the two lists and what they are to each other. -/
theorem one_all (ds : List Int) (h1 : 1 ≤ ds.length) (h3 : ds.length ≤ 3) (k : Nat) (hk : k ≤ ds.length) (i : Int) (n m : Nat) (hn : ds.length = n) (hm : n + 1 = m) :
    (∃ e : Int, e ≠ 0 ∧ (∀ W x cap, Reads .i64 W W.heap.size x ds → Calls Try.prog 10 #[.slice x n cap, .int .i64 i] W (RetL [] e W)) ∧ (∀ W x cap, Reads .i64 W W.heap.size x (put ds k) → Calls Try.prog 10 #[.slice x m cap, .int .i64 i] W (RetL [] e W))) ∨
    (∃ A Bl : List Int, (A.length = n ∧ Bl.length = m ∧ Bl.getD k 0 = 0 ∧ Bl.take k ++ Bl.drop (k + 1) = A) ∧ (∀ W x cap, Reads .i64 W W.heap.size x ds → Calls Try.prog 10 #[.slice x n cap, .int .i64 i] W (RetO A n 0 W)) ∧
      (∀ W x cap, Reads .i64 W W.heap.size x (put ds k) → Calls Try.prog 10 #[.slice x m cap, .int .i64 i] W (RetO Bl m 0 W)) ∧
      (∀ W x cap, n ≤ cap → Reads .i64 W W.heap.size x ds → Calls Try.prog 14 #[.slice x n cap, .int .i64 ((n : Int) - 1)] W (RetN 1 0 W))) := by
  subst hn
  subst hm
  rcases one_cases ds h1 h3 k hk i with h | ⟨ns, j, rfl, ok, rfl, hc1, hc2⟩
  · exact .inl h
  · have hA : (Sh.ints (Sh.crd ns j)).length = (Sh.ints ns).length := by rw [Sh.ints_len, Sh.crd_len, Sh.ints_len]
    have hkn : k ≤ ns.length := by rwa [Sh.ints_len] at hk
    refine .inr ⟨Sh.ints (Sh.crd ns j), Sh.ints (Sh.crd (Sh.more ns k) j), ⟨hA, ?_, ?_, ?_⟩, hc1, hc2, fun W x cap hc hx => ?_⟩
    · rw [Sh.ints_len, Sh.crd_len, Sh.more_len, Sh.ints_len]
    · rw [one_list ns j k hkn]; exact one_at _ k (by rw [hA]; exact hk)
    · rw [one_list ns j k hkn]; exact one_back _ k (by rw [hA]; exact hk)
    · rw [Sh.ints_len] at h1 hc ⊢
      have := inner_ok ns ok (ns.length - 1) (by omega) x ns.length cap W W.heap.size hx rfl hc
      rw [show ((ns.length - 1 : Nat) : Int) = (ns.length : Int) - 1 by omega, show ns.length - 1 + 1 = ns.length by omega, List.drop_eq_nil_of_le (Nat.le_refl _)] at this
      exact this

set_option maxRecDepth 100000 in
set_option maxHeartbeats 8000000 in
theorem walk_One_in (ds : List Int) (b off len cap : Nat) (t : Nat) (i : Int) (w : World) (k : Nat) (ht : t < 256) (hk : (t : Int) % ((len : Int) + 1) = (k : Int)) (hkl : k ≤ len) (h1 : 1 ≤ len) (h3 : len ≤ 3) (hc : len ≤ cap) (hl : ds.length = len) (hx : Reads .i64 w w.heap.size (some ⟨b, off, none⟩) ds) :
    Calls Try.prog 6 #[.slice (some ⟨b, off, none⟩) len cap, .int .u8 (t : Int), .int .i64 i] w fun e w' => e = .returned (.bool true) ∧ Below w.heap.size w w' := by
  have d1 : decide ((3 : Int) < (len : Int)) = false := by simp; omega
  have d2 : ((len : Int) == 0) = false := by simp; omega
  have d3 : (len : Int) + 1 ≠ 0 := by omega
  have hkc : k ≤ cap := by omega
  have HS1 : Hid (∀ W, Below w.heap.size w W → Src .i64 W (some ⟨b, off, none⟩) k cap (ds.take k)) := Lib.hid (fun W hW => by
    have := ((hx.below hW).take k).src cap
    rwa [List.length_take, hl, Nat.min_eq_left hkl] at this)
  obtain ⟨ad2, hif⟩ : ∃ ad2, (if cap = k then some (⟨b, off, none⟩ : Addr) else some ⟨b, off + k, none⟩) = some ad2 := by
    split
    · exact ⟨_, rfl⟩
    · exact ⟨_, rfl⟩
  have HS2 : Hid (∀ W, Below w.heap.size w W → Src .i64 W (some ad2) (len - k) (cap - k) (ds.drop k)) := Lib.hid (fun W hW => by
    have := (hx.below hW).behind (cap := cap) (by omega) k
    rw [hif] at this
    have := this.src (cap - k)
    rwa [List.length_drop, hl] at this)
  have HL1 : Hid ((ds.take k).length = k) := Lib.hid (by rw [List.length_take, hl]; omega)
  have HX := Lib.hid hx
  obtain ⟨i0, hti, hy0, hy1, hy2⟩ := info_parts info_int
  have hpl := put_len ds k (by omega)
  obtain ⟨m, hm⟩ : ∃ m, len + 1 = m := ⟨_, rfl⟩
  have HOC := Lib.hid (one_all ds (by omega) (by omega) k (by omega) i _ m hl hm)
  rw [hl, hm] at hpl
  have HMl := Lib.hid hm
  have hmb : ((m : Int) == (len : Int) + 1) = true := by rw [← hm]; simp
  have HPL := Lib.hid hpl
  clear hx hpl hl hm
  go_enter Try.func6, Try.ntmps6
  go_wp2_with (go_at_call 7; refine (live5_any _).mono ?_; rintro e w1 ⟨rfl, hb1⟩; have HB1 := Lib.hid hb1; clear hb1)
  rw [hk]
  have HBd := Lib.hid (below_draws HB1.out 1)
  have HBa := Lib.hid (HBd.out.alloc (o := .cells #[.int .i64 1] 3) HB1.out.size)
  go_cut [8] from 31 to 40 (fun v wx => ∃ o, o = v ∧ Owns .i64 3 wx w.heap.size o (put ds k) ∧ Below w.heap.size w wx)
  case first =>
    clear HOC HX HPL HMl hmb
    go_region_law (first
      | (refine step_append_src (by rfl) (.const (.slice none 0 0)) (.tmp 33) 22 (by rfl) w.heap.size 3 i0 .i64 8 Try.underlying22 hti hy0 hy1 hy2 (.slice none 0 0) [] (by rfl) Owns.nil ⟨b, off, none⟩ k cap (ds.take k) (by rfl) (HS1.out _ (by first | exact HBd.out | exact HBa.out)) (by unfold maxLen; simp; omega) (by simp; omega) (by first | exact HBd.out.size | exact HBa.out.size) ?_; intro v3 w3 hO3 hg3; have HO3 := Lib.hid hO3; have HB3 : Hid (Below w.heap.size w w3) := Lib.hid (by first | exact HBd.out.grown hg3 HBd.out.size (fun k e => by cases e) | exact HBa.out.grown hg3 HBa.out.size (fun k e => by cases e)); have HG3 := Lib.hid hg3; clear hO3 hg3)
      | (refine step_append_src (by rfl) (.tmp 34) (.tmp 35) 22 (by rfl) w.heap.size 3 i0 .i64 8 Try.underlying22 hti hy0 hy1 hy2 v3 (ds.take k) (by rfl) (HO3.out.alloc _) ⟨w3.heap.size, 0, none⟩ 1 1 [1] (by rfl) (src_one w3 .i64 3 1) (by rw [HL1.out]; unfold maxLen; omega) (by rw [HL1.out]; omega) (by have := HB3.out.size; simp; omega) ?_; intro v5 w5 hO5 hg5; have HB5 := Lib.hid ((HB3.out.alloc HB3.out.size _).grown hg5 (by have := HB3.out.size; simp; omega) (fun g e => HO3.out.ownBlock g e)); have HO5 := Lib.hid hO5; clear hO5 hg5)
      | (refine step_append_src (by rfl) (.tmp 34) (.tmp 35) 22 (by rfl) w.heap.size 3 i0 .i64 8 Try.underlying22 hti hy0 hy1 hy2 v3 (ds.take k) (by rfl) HO3.out ⟨w1.heap.size, 0, none⟩ 1 1 [1] (by rfl) ((src_one w1.drew .i64 3 1).keep ((Below.refl _ _).grown HG3.out (Nat.le_refl _) (fun k e => by cases e))) (by rw [HL1.out]; unfold maxLen; omega) (by rw [HL1.out]; omega) HB3.out.size ?_; intro v5 w5 hO5 hg5; have HB5 := Lib.hid (HB3.out.grown hg5 HB3.out.size (fun g e => HO3.out.ownBlock g e)); have HO5 := Lib.hid hO5; clear hO5 hg5)
      | (refine step_append_src (by rfl) (.tmp 36) (.tmp 39) 22 (by rfl) w.heap.size 3 i0 .i64 8 Try.underlying22 hti hy0 hy1 hy2 v5 (ds.take k ++ [1]) (by rfl) HO5.out ad2 (len - k) (cap - k) (ds.drop k) (by rfl) (HS2.out _ HB5.out) (by rw [List.length_append, HL1.out]; unfold maxLen; simp; omega) (by rw [List.length_append, HL1.out]; simp; omega) HB5.out.size ?_; intro v9 w9 hO9 hg9; have HB9 := Lib.hid (HB5.out.grown hg9 HB5.out.size (fun g e => HO5.out.ownBlock g e)); have HO9 := Lib.hid hO9; clear hO9 hg9))
    all_goals
      go_wp2
      go_meet
      case rel => exact ⟨v9, rfl, HO9.out, HB9.out⟩
  case rest =>
    obtain ⟨vm, rfl, hOm, hBm⟩ := hcut
    obtain ⟨xm, capm, rfl, _, _, hRm, _⟩ := hOm.form
    rw [HPL.out]
    have HBm := Lib.hid hBm
    have HRm := Lib.hid hRm
    have HR0 := Lib.hid ((HX.out.below hBm).more hBm.size)
    clear hOm hBm hRm HBd HBa HB1 HS1 HS2 HL1 hk hif
    rcases HOC.out with ⟨ec, hec, hc1, hc2⟩ | ⟨A, Bl, hAB, hc1, hc2, hc3⟩
    · have f1 : (ec != 0) = true := by rw [bne_iff_ne]; exact hec
      have HC1 := Lib.hid (hc1 wc (some ⟨b, off, none⟩) cap HR0.out)
      have HC2 := Lib.hid hc2
      clear hc1 hc2 hec HOC
      go_wp2_with (first
        | (go_at_call_of 10 (Value.slice (some ⟨b, off, none⟩) len cap); refine HC1.out.mono ?_; rintro e w2 ⟨v, rfl, hO2, hb2⟩; obtain ⟨x2, cap2, rfl, _⟩ := hO2.form; have HB2 := Lib.hid (below_next HBm.out HBm.out.size hb2); have HM2 := Lib.hid ((HRm.out.below hb2).more hb2.size); clear hO2 hb2)
        | (go_at_call_of 10 (Value.slice xm m capm); refine (HC2.out w2 xm capm HM2.out).mono ?_; rintro e w3 ⟨v, rfl, hO3, hb3⟩; obtain ⟨x3, cap3, rfl, _⟩ := hO3.form; have HB3 := Lib.hid (below_next HB2.out HB2.out.size hb3); clear hO3 hb3))
      go_ret
      exact ⟨rfl, HB3.out⟩
    · have HC1 := Lib.hid (hc1 wc (some ⟨b, off, none⟩) cap HR0.out)
      have HC2 := Lib.hid hc2
      have HI := Lib.hid (fun (W : World) (hW : Below w.heap.size w W) => hc3 W (some ⟨b, off, none⟩) cap hc ((HX.out.below hW).more hW.size))
      have HAl := Lib.hid hAB.1
      have HBl := Lib.hid hAB.2.1
      have HB0 := Lib.hid hAB.2.2.1
      have HBk := Lib.hid hAB.2.2.2
      have hkm : k + 1 ≤ m := by have := HMl.out; omega
      have hkm' : (k : Int) < (m : Int) := by omega
      have hm4 : m ≤ 4 := by have := HMl.out; omega
      have HLk : Hid ((Bl.take k).length = k) := Lib.hid (by rw [List.length_take, HBl.out]; omega)
      clear hc1 hc2 hc3 HOC hAB
      go_wp2_with (first
        | (go_at_call_of 10 (Value.slice (some ⟨b, off, none⟩) len cap); refine HC1.out.mono ?_; rintro e w2 ⟨ga, capa, rfl, hga1, hga2, hcapa, hmxa, -, hRa, hb2⟩; have HB2 := Lib.hid (below_next HBm.out HBm.out.size hb2); have HM2 := Lib.hid ((HRm.out.below hb2).more hb2.size); have HRa := Lib.hid hRa; clear hRa hb2)
        | (go_at_call_of 10 (Value.slice xm m capm); refine (HC2.out w2 xm capm HM2.out).mono ?_; rintro e w3 ⟨gb, capb, rfl, hgb1, hgb2, hcapb, hmxb, hOb, hRb, hb3⟩; have HB3 := Lib.hid (below_next HB2.out HB2.out.size hb3); have HAr := Lib.hid ((HRa.out.below hb3).more hb3.size); have HRb := Lib.hid hRb; have cb := hOb.cell k (by rw [HBl.out]; omega); rw [HB0.out] at cb; clear hOb hRb hb3)
        | (go_at_call 14; refine (HI.out w3 HB3.out).mono ?_; rintro e w' ⟨rfl, rfl⟩))
      have hkb : k ≤ capb := by omega
      have hwk : IntKind.i64.wrap ((k : Int) + 1) = (k : Int) + 1 := by rw [IntKind.wrap_i64]; omega
      obtain ⟨ad3, hif3⟩ : ∃ ad3, (if capb = k + 1 then some (⟨gb, 0, none⟩ : Addr) else some ⟨gb, k + 1, none⟩) = some ad3 := by
        split
        · exact ⟨_, rfl⟩
        · exact ⟨_, rfl⟩
      have HSb1 : Hid (∀ nn, Src .i64 (w3.drewN nn) (some ⟨gb, 0, none⟩) k capb (Bl.take k)) := Lib.hid (fun nn => by
        have := (((HRb.out).draws nn).take k).src capb
        rw [HLk.out] at this
        exact this)
      have HSb2 : Hid (∀ W, Below w3.heap.size w3 W → Src .i64 W (some ad3) (m - (k + 1)) (capb - (k + 1)) (Bl.drop (k + 1))) := Lib.hid (fun W hW => by
        have := (HRb.out.below hW).behind (cap := capb) (by rw [HBl.out]; exact hcapb) (k + 1)
        rw [Nat.zero_add, hif3] at this
        have := this.src (capb - (k + 1))
        rw [List.length_drop, HBl.out] at this
        exact this)
      clear HRb HRm HR0 HM2 HRa HX HC1 HC2 HI HB0
      have hmx' : Try.prog.follows .mixedOrders = true := by kernel_rfl
      refine region_parts' 22 4 4 hmx' (by kernel_rfl) (by kernel_rfl) (by kernel_rfl) (fun c d v a w h => by cases d <;> exact h) ?_
      simp only [List.take_succ_cons, List.take_zero, List.drop_succ_cons, List.drop_zero, List.cons_append, List.nil_append]
      repeat (go_big_quiet_step (fail))
      refine wpQuiet_nil ?_
      rintro w' ⟨nq, rfl⟩
      refine Pures.cons (Value.slice (some ⟨ga, 0, none⟩) len capa) (.inl ⟨by rfl, fun W => by first | rfl | (go_simp; done) | (go_simp; exact hwk) | (go_simp; intro h; exact absurd (h (by omega)) (by omega))⟩) ?_
      simp only [Act.put, List.setIfInBounds_toArray, List.set_cons_succ, List.set_cons_zero]
      refine Pures.cons (Value.slice (some ⟨gb, 0, none⟩) m capb) (.inl ⟨by rfl, fun W => by first | rfl | (go_simp; done) | (go_simp; exact hwk) | (go_simp; intro h; exact absurd (h (by omega)) (by omega))⟩) ?_
      simp only [Act.put, List.setIfInBounds_toArray, List.set_cons_succ, List.set_cons_zero]
      refine Pures.cons (Value.int .i64 (k : Int)) (.inl ⟨by rfl, fun W => by first | rfl | (go_simp; done) | (go_simp; exact hwk) | (go_simp; intro h; exact absurd (h (by omega)) (by omega))⟩) ?_
      simp only [Act.put, List.setIfInBounds_toArray, List.set_cons_succ, List.set_cons_zero]
      refine Pures.cons (Value.slice (some ⟨gb, 0, none⟩) k capb) (.inl ⟨by rfl, fun W => by first | rfl | (go_simp; done) | (go_simp; exact hwk) | (go_simp; intro h; exact absurd (h (by omega)) (by omega))⟩) ?_
      simp only [Act.put, List.setIfInBounds_toArray, List.set_cons_succ, List.set_cons_zero]
      refine Pures.cons (Value.slice (some ⟨gb, 0, none⟩) m capb) (.inl ⟨by rfl, fun W => by first | rfl | (go_simp; done) | (go_simp; exact hwk) | (go_simp; intro h; exact absurd (h (by omega)) (by omega))⟩) ?_
      simp only [Act.put, List.setIfInBounds_toArray, List.set_cons_succ, List.set_cons_zero]
      refine Pures.cons (Value.int .i64 (k : Int)) (.inl ⟨by rfl, fun W => by first | rfl | (go_simp; done) | (go_simp; exact hwk) | (go_simp; intro h; exact absurd (h (by omega)) (by omega))⟩) ?_
      simp only [Act.put, List.setIfInBounds_toArray, List.set_cons_succ, List.set_cons_zero]
      refine Pures.cons (Value.int .i64 ((k : Int) + 1)) (.inl ⟨by rfl, fun W => by first | rfl | (go_simp; done) | (go_simp; exact hwk) | (go_simp; intro h; exact absurd (h (by omega)) (by omega))⟩) ?_
      simp only [Act.put, List.setIfInBounds_toArray, List.set_cons_succ, List.set_cons_zero]
      refine Pures.cons (Value.slice (some ad3) (m - (k + 1)) (capb - (k + 1))) (.inl ⟨by rfl, fun W => by first | rfl | (go_simp; done) | (go_simp; exact hwk) | (go_simp; intro h; exact absurd (h (by omega)) (by omega))⟩) ?_
      simp only [Act.put, List.setIfInBounds_toArray, List.set_cons_succ, List.set_cons_zero]
      refine Pures.nil ?_
      go_wp2_with (first
        | (at_builtin; refine wpList_append_src (by rfl) (.const (.slice none 0 0)) (.tmp 97) 22 (by rfl) w3.heap.size 3 i0 .i64 8 Try.underlying22 hti hy0 hy1 hy2 (.slice none 0 0) [] (by rfl) Owns.nil ⟨gb, 0, none⟩ k capb (Bl.take k) (by rfl) (HSb1.out _) (by unfold maxLen; simp; omega) (by simp; omega) (Nat.le_refl _) ?_; intro v98 w98 hO98 hg98; rw [List.nil_append] at hO98; have HT98 := Lib.hid ((draws_below w3.heap.size w3 nq).grown hg98 (Nat.le_refl _) (fun k e => by cases e)); have HO98 := Lib.hid hO98; clear hO98 hg98)
        | (at_builtin; refine wpList_append_src (by rfl) (.tmp 98) (.tmp 102) 22 (by rfl) w3.heap.size 3 i0 .i64 8 Try.underlying22 hti hy0 hy1 hy2 v98 (Bl.take k) (by rfl) HO98.out ad3 (m - (k + 1)) (capb - (k + 1)) (Bl.drop (k + 1)) (by rfl) (HSb2.out w98 HT98.out) (by rw [HLk.out]; unfold maxLen; omega) (by rw [HLk.out]; omega) HT98.out.size ?_; intro v99 w99 hO99 hg99; rw [HBk.out] at hO99; have HT99 := Lib.hid (HT98.out.grown hg99 HT98.out.size (fun g e => HO98.out.ownBlock g e)); obtain ⟨x99, cap99, rfl, _, _, hR99, _⟩ := hO99.form; have HR99 := Lib.hid hR99; have HA99 := Lib.hid ((HAr.out.below HT99.out).more HT99.out.size); clear hO99 hg99 hR99)
        | (go_at_call 18; refine (sameInts_any (some ⟨ga, 0, none⟩) x99 len _ capa cap99 A A w99 w99.heap.size HA99.out HR99.out HAl.out rfl (by omega) (by rw [HAl.out]; omega)).mono ?_; rintro e w' ⟨rfl, nd, rfl⟩; rw [decide_eq_true (rfl : A = A)]))
      go_ret
      exact ⟨rfl, below_draws (below_next HB3.out HB3.out.size HT99.out) _⟩

set_option maxRecDepth 100000 in
set_option maxHeartbeats 1000000 in
theorem walk_ShapeOne (x : Option Addr) (len cap : Nat) (zs : List Int) (n i : Int) (w : World) (hr : RowIn .i64 w x len cap zs) (hn : (Lit.int .u8 n).wf = true) (_hi : (Lit.int .i64 i).wf = true) :
    Calls Try.prog 6 #[.slice x len cap, .int .u8 n, .int .i64 i] w fun e w' => e = .returned (.bool true) ∧ Below w.heap.size w w' := by
  obtain ⟨ds, -, hl, hc, hcm, hx, -⟩ := hr.readsI
  clear hr
  by_cases h3 : 3 < len
  · have d1 : decide ((3 : Int) < (len : Int)) = true := by simp; omega
    clear hx hl
    go_enter Try.func6, Try.ntmps6
    go_wp2_with (go_at_call 7; refine (live5_any _).mono ?_; rintro e w1 ⟨rfl, hb⟩)
    go_ret
    exact ⟨rfl, hb⟩
  by_cases h0 : len = 0
  · have d1 : decide ((3 : Int) < (len : Int)) = false := by simp; omega
    have d2 : ((len : Int) == 0) = true := by simp; omega
    clear hx hl h0
    go_enter Try.func6, Try.ntmps6
    go_wp2_with (go_at_call 7; refine (live5_any _).mono ?_; rintro e w1 ⟨rfl, hb⟩)
    go_ret
    exact ⟨rfl, hb⟩
  obtain ⟨n0, n1⟩ := u8_of hn
  obtain ⟨t, rfl⟩ : ∃ t : Nat, n = (t : Int) := ⟨n.toNat, by omega⟩
  have hx' := hx
  obtain ⟨b, off, rfl, _, _⟩ := hx' (by omega)
  have hk : (t : Int) % ((len : Int) + 1) = ((t % (len + 1) : Nat) : Int) := by
    have := cast_mod t (len + 1)
    rw [Int.natCast_add] at this
    exact this
  exact walk_One_in ds b off len cap t i w (t % (len + 1)) (by omega) hk (Nat.le_of_lt_succ (Nat.mod_lt t (Nat.succ_pos len))) (by omega) (by omega) hc hl hx

end Go.Proofs.Ytpaaggmepaflcaa
