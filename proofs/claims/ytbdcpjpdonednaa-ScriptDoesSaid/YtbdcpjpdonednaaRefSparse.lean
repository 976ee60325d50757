/-
  What Near and Sparse of the document's script come to.
-/
import Derived.Test.YtbdcpjpdonednaaMathSparse
import Derived.Test.YtbdcpjpdonednaaScriptQuiet
namespace Go.Proofs.Ytbdcpjpdonednaa
open Go.RowKit

theorem wrap_near {u v : Int} (hu : -9223372036854775808 ≤ u ∧ u < 9223372036854775808) (hv : -9223372036854775808 ≤ v ∧ v < 9223372036854775808) (h : u ≤ v) : IntKind.u64.wrap (IntKind.u64.wrap v - IntKind.u64.wrap u) = v - u := by
  have e : ∀ n : Int, IntKind.u64.wrap n = n % 18446744073709551616 := fun n => by simp [IntKind.wrap, IntKind.bits, IntKind.signed]
  rw [e, e, e]
  omega

set_option maxHeartbeats 2000000 in
theorem Near_any (s t : Ev) (w : World) (hs : EvOk s) (ht : EvOk t) : Calls Try.prog 27 #[evV s, evV t] w (RetB (.bool (near s t)) w) := by
  obtain ⟨a, b, c, d, e, f⟩ := s
  obtain ⟨a', b', c', d', e', f'⟩ := t
  unfold evV near
  dsimp only
  have hc := hs.2.2.1
  have hc' := ht.2.2.1
  dsimp only at hc hc'
  by_cases h1 : a = a'
  · subst h1
    by_cases h2 : b = b'
    · subst h2
      rcases Int.lt_trichotomy c c' with h3 | rfl | h3
      · have hd := wrap_near hc hc' (by omega)
        obtain ⟨u, hu⟩ : ∃ u, IntKind.u64.wrap c = u := ⟨_, rfl⟩
        obtain ⟨v, hv⟩ : ∃ v, IntKind.u64.wrap c' = v := ⟨_, rfl⟩
        rw [hu, hv] at hd
        obtain ⟨q, hq⟩ : ∃ q, q = c' - c := ⟨_, rfl⟩
        rw [← hq] at hd
        have HR : Hid (decide (q < 2) = ((a == a && b == b) && decide (c - c' < 2 ∧ c' - c < 2))) := Lib.hid (by
          rw [beq_self_eq_true, beq_self_eq_true, Bool.true_and, Bool.true_and, Bool.eq_iff_iff, decide_eq_true_eq, decide_eq_true_eq]
          omega)
        rw [← HR.out]
        clear hq HR hs ht
        go_enter Try.func27, Try.ntmps27
        go_wp2
        all_goals first
          | (exfalso; omega)
          | (go_ret; exact ⟨rfl, below_al (below_al (Below.refl _ _) _) _⟩)
      · have HR : Hid (true = ((a == a && b == b) && decide (c - c < 2 ∧ c - c < 2))) := Lib.hid (by simp)
        rw [← HR.out]
        clear HR hs ht
        go_enter Try.func27, Try.ntmps27
        go_wp2
        go_ret
        exact ⟨rfl, below_al (below_al (Below.refl _ _) _) _⟩
      · have hd := wrap_near hc' hc (by omega)
        obtain ⟨u, hu⟩ : ∃ u, IntKind.u64.wrap c = u := ⟨_, rfl⟩
        obtain ⟨v, hv⟩ : ∃ v, IntKind.u64.wrap c' = v := ⟨_, rfl⟩
        rw [hu, hv] at hd
        obtain ⟨q, hq⟩ : ∃ q, q = c - c' := ⟨_, rfl⟩
        rw [← hq] at hd
        have HR : Hid (decide (q < 2) = ((a == a && b == b) && decide (c - c' < 2 ∧ c' - c < 2))) := Lib.hid (by
          rw [beq_self_eq_true, beq_self_eq_true, Bool.true_and, Bool.true_and, Bool.eq_iff_iff, decide_eq_true_eq, decide_eq_true_eq]
          omega)
        rw [← HR.out]
        clear hq HR hs ht
        go_enter Try.func27, Try.ntmps27
        go_wp2
        all_goals first
          | (exfalso; omega)
          | (go_ret; exact ⟨rfl, below_al (below_al (Below.refl _ _) _) _⟩)
    · have t2 : (b != b') = true := by rw [bne_iff_ne]; exact h2
      have t2' : (b == b') = false := beq_eq_false_iff_ne.2 h2
      rw [t2', Bool.and_false, Bool.false_and]
      clear hs ht hc hc'
      go_enter Try.func27, Try.ntmps27
      go_wp2
      go_ret
      exact ⟨rfl, below_al (below_al (Below.refl _ _) _) _⟩
  · have t1 : (a != a') = true := by rw [bne_iff_ne]; exact h1
    have t1' : (a == a') = false := beq_eq_false_iff_ne.2 h1
    rw [t1', Bool.false_and, Bool.false_and]
    clear hs ht hc hc'
    go_enter Try.func27, Try.ntmps27
    go_wp2
    go_ret
    exact ⟨rfl, below_al (below_al (Below.refl _ _) _) _⟩

theorem sparse_more {es : List Ev} {k : Nat} (h : k < es.length) : Sparse (es.take (k + 1)) ↔ Sparse (es.take k) ∧ ∀ j, j < k → near (es.getD k noEv) (es.getD j noEv) = false := by
  have hg : ∀ s, s ∈ es.take k ↔ ∃ j, j < k ∧ s = es.getD j noEv := fun s => by
    constructor
    · intro hs
      obtain ⟨j, hj, e⟩ := List.getElem_of_mem hs
      have hj' : j < k := by simp at hj; omega
      refine ⟨j, hj', ?_⟩
      rw [← e, List.getElem_take, List.getD_eq_getElem?_getD, List.getElem?_eq_getElem (by omega)]
      rfl
    · rintro ⟨j, hj, rfl⟩
      rw [List.getD_eq_getElem?_getD, List.getElem?_eq_getElem (by omega)]
      exact List.mem_take_iff_getElem.2 ⟨j, by omega, rfl⟩
  unfold Sparse
  rw [take_getD es k h, List.pairwise_append]
  constructor
  · rintro ⟨h1, _, h3⟩
    exact ⟨h1, fun j hj => by rw [near_comm]; exact h3 _ ((hg _).2 ⟨j, hj, rfl⟩) _ (by simp)⟩
  · rintro ⟨h1, h2⟩
    refine ⟨h1, List.pairwise_singleton _ _, fun a ha b hb => ?_⟩
    obtain ⟨j, hj, rfl⟩ := (hg a).1 ha
    obtain rfl : b = es.getD k noEv := by simpa using hb
    rw [near_comm]
    exact h2 j hj
theorem sparse_stop {es : List Ev} {k j : Nat} (h : k < es.length) (hj : j < k) (hn : near (es.getD k noEv) (es.getD j noEv) = true) : sparse es = false := by
  refine sparse_no fun hs => ?_
  have h1 : Sparse (es.take (k + 1)) := List.Pairwise.sublist (List.take_sublist _ _) hs
  have := (sparse_more h).1 h1 |>.2 j hj
  rw [hn] at this
  cases this

set_option maxRecDepth 100000 in
set_option maxHeartbeats 4000000 in
theorem rSparse_ok (x : Option Addr) (n cap : Nat) (es : List Ev) (w : World) (hx : ReadsE w w.heap.size x es) (hn : es.length = n) (ho : EvsOk es) (hl : n ≤ 1024) (hcap : n ≤ cap) (hcm : cap ≤ maxLen) :
    Calls Try.prog 13 #[.slice x n cap] w (RetB (.tuple #[.bool (sparse es), .int .i64 0]) w) := by
  subst hn
  have HC := Lib.hid (rcheck_any x es.length cap w)
  rw [chk_ok (by omega)] at HC
  have HX := Lib.hid hx
  have HO := Lib.hid ho
  have hcm' : cap ≤ 9223372036854775807 := by unfold maxLen at hcm; omega
  clear hx ho hcm
  go_enter Try.func13, Try.ntmps13
  go_wp2_with (go_at_call 21; refine HC.out.mono ?_; rintro e w' ⟨rfl, rfl⟩)
  clear HC
  go_loopw [16] (fun i wr => ∃ k : Nat, k ≤ es.length ∧ i = .int .i64 (k : Int) ∧ Hid (Sparse (es.take k) ∧ Below w.heap.size w wr)) (fun i _ => es.length - (intOf i).toNat)
  case atStart => exact ⟨0, Nat.zero_le _, rfl, Lib.hid ⟨List.Pairwise.nil, Below.refl _ _⟩⟩
  case round =>
    obtain ⟨k, hk, rfl, HI⟩ := hrel
    by_cases hlt : k < es.length
    · have hdk : decide (k < es.length) = true := by simpa using hlt
      obtain ⟨b, off, rfl, hb0, hc⟩ := (HX.out.below HI.out.2) (by omega)
      have HCx := Lib.hid (fun W (hB : Below w.heap.size w W) j (hj : j < es.length) => by
        obtain ⟨b', off', e, hb, hc⟩ := (HX.out.below hB) (by omega)
        cases e
        exact hc j hj)
      have hok := HO.out.at k
      have hcu := hc k hlt
      have HSM := Lib.hid (sparse_more hlt)
      have HST := Lib.hid (fun j => sparse_stop (j := j) hlt)
      obtain ⟨u, hu⟩ : ∃ u, u = es.getD k noEv := ⟨_, rfl⟩
      rw [← hu] at hok hcu HSM HST
      have HOK := Lib.hid hok
      have hbox := EvAt.new wr u 38
      have hBx := below_al HI.out.2 (.cells #[.int .i64 u.it, .int .i64 u.tr, .int .i64 u.wn, .int .i64 u.tk, .int .i64 u.ad, .int .u64 u.msk] 38)
      clear hc hu hok
      obtain ⟨a, c, z, d, f, q⟩ := u
      obtain ⟨c0, c1, c2, c3, c4, c5⟩ := hcu
      dsimp only at c0 c1 c2 c3 c4 c5 hbox hBx
      have HBox := Lib.hid hbox
      have HBx := Lib.hid hBx
      obtain ⟨B0, hB0⟩ : ∃ B0, B0 = wr.heap.size := ⟨_, rfl⟩
      rw [← hB0] at HBox
      have HTk := Lib.hid HI.out.1
      clear hbox hBx HX HI
      go_wp2
      rw [← hB0]
      clear hB0
      go_loopw [25] (fun i ws => ∃ j : Nat, j ≤ k ∧ i = .int .i64 (j : Int) ∧ Hid ((∀ i', i' < j → near ⟨a, c, z, d, f, q⟩ (es.getD i' noEv) = false) ∧ EvAt ws B0 0 ⟨a, c, z, d, f, q⟩ ∧ Below w.heap.size w ws)) (fun i _ => k - (intOf i).toNat)
      case atStart => exact ⟨0, Nat.zero_le _, rfl, Lib.hid ⟨fun i' h => by omega, HBox.out, HBx.out⟩⟩
      case round =>
        clear HBox HBx c0 c1 c2 c3 c4 c5
        obtain ⟨j, hj, rfl, HJ⟩ := hrel
        by_cases hjk : j < k
        · have hcv := HCx.out _ HJ.out.2.2 j (by omega)
          have hokv := HO.out.at j
          obtain ⟨v, hv⟩ : ∃ v, v = es.getD j noEv := ⟨_, rfl⟩
          rw [← hv] at hcv hokv
          have hbu := HJ.out.2.1
          have hbl : B0 < wr.heap.size := hbu.lt
          have HNr := Lib.hid (fun W => Near_any ⟨a, c, z, d, f, q⟩ v W HOK.out hokv)
          have HV := Lib.hid hv
          clear hv hokv
          obtain ⟨a', c', z', d', f', q'⟩ := v
          obtain ⟨e0, e1, e2, e3, e4, e5⟩ := hcv
          obtain ⟨p0, p1, p2, p3, p4, p5⟩ := hbu
          unfold evV at HNr
          dsimp only at HNr e0 e1 e2 e3 e4 e5 p0 p1 p2 p3 p4 p5
          cases hnr : near ⟨a, c, z, d, f, q⟩ ⟨a', c', z', d', f', q'⟩
          · rw [hnr] at HNr
            have HNF : Hid (∀ i', i' < j + 1 → near ⟨a, c, z, d, f, q⟩ (es.getD i' noEv) = false) := Lib.hid (fun i' hi' => by
              by_cases e : i' = j
              · rw [e, ← HV.out]; exact hnr
              · exact HJ.out.1 i' (by omega))
            clear hnr
            go_wp2_with (go_at_call 27; refine (HNr.out _).mono ?_; rintro e W ⟨rfl, hb1⟩)
            go_roundw
            case rel => exact ⟨j + 1, by omega, by congr 1, Lib.hid ⟨HNF.out, (HJ.out.2.1.below (below_al (Below.refl _ _) _)).below hb1, below_on (below_al HJ.out.2.2 _) hb1⟩⟩
            case measure => simp [intOf]; omega
          · rw [hnr] at HNr
            have HR : Hid (sparse es = false) := Lib.hid (HST.out j hjk (by rw [← HV.out]; exact hnr))
            clear hnr
            go_wp2_with (go_at_call 27; refine (HNr.out _).mono ?_; rintro e W ⟨rfl, hb1⟩)
            go_ret2
            exact ⟨ret_be HR.out.symm, below_on (below_al HJ.out.2.2 _) hb1⟩
        · have HS1 : Hid (Sparse (es.take (k + 1))) := Lib.hid (HSM.out.2 ⟨HTk.out, fun i' hi' => HJ.out.1 i' (by omega)⟩)
          go_wp2
          go_roundw
          case rel => exact ⟨k + 1, by omega, by congr 1, Lib.hid ⟨HS1.out, HJ.out.2.2⟩⟩
          case measure => simp [intOf]; omega
    · have HR : Hid (sparse es = true) := Lib.hid (by
        have := HI.out.1
        rw [List.take_of_length_le (by omega)] at this
        exact sparse_iff.2 this)
      clear HX
      go_wp2
      go_ret2
      exact ⟨ret_be HR.out.symm, HI.out.2⟩

end Go.Proofs.Ytbdcpjpdonednaa
